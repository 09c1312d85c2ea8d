/-
  For every text and digest ShaOf returns true: Of, Pad, Text and Link answer as the reference does, and the document's examples hold.
  Conditions: none beyond the given statement's own.
-/
import Derived.Test.YtfebhemlbnpmhaaRows
import Derived.Test.YtfebhemlbnpmhaaWorks
import Derived.Test.YtfebhemlbnpmhaaGuarded
import Derived.Test.YtfebhemlbnpmhaaDigest
import Derived.Test.YtfebhemlbnpmhaaRlink
import Derived.WalkKit
import Derived.ProofKit
import Derived.OpenShut
import Derived.ShutString
import Derived.ChangeOld
import Derived.Below
namespace Go.Proofs.Ytfebhemlbnpmhaa.shaOf
open Go.ChangeShapes Go.WideShapes Go.ChangeAt Go.RowKit
open Go.ChangeMaps (open_string shut_string)
set_option linter.unusedVariables false

theorem own : ownKnob Try.prog.godebug = none := by kernel_rfl

/-- The digest that came in, in a block of the call's own. -/
structure Ow (w : World) (d : List UInt8) (v : World) : Prop where
  bel : Belo w.heap.size w v
  one : v.heap[w.heap.size]? = some (.cells (row d) 23)
theorem Ow.past {w v v' : World} {d : List UInt8} (h : Ow w d v) (hb : Belo v.heap.size v v') : Ow w d v' :=
  ⟨h.bel.trans (hb.mono h.bel.size), (hb.block _ (lt_of_some h.one)).trans h.one⟩
theorem Ow.drew {w v : World} {d : List UInt8} (h : Ow w d v) : Ow w d v.drew := ⟨h.bel.drewN 1, h.one⟩
theorem ow_in {w : World} {d : List UInt8} {f : Nat} {args : Array Value} {r : Value} (hc : ∀ v, Calls Try.prog f args v fun e v' => e = .returned r ∧ Belo v.heap.size v v') (v : World) (hv : Ow w d v) :
    Calls Try.prog f args v fun e v' => e = .returned r ∧ Ow w d v' :=
  (hc v).mono fun _ _ ⟨he, hb⟩ => ⟨he, hv.past hb⟩
theorem weaken {f : Nat} {args : Array Value} {r : Value} (hc : ∀ v, Calls Try.prog f args v fun e v' => e = .returned r ∧ Below v.heap.size v v') (v : World) : Calls Try.prog f args v fun e v' => e = .returned r ∧ Belo v.heap.size v v' :=
  (hc v).mono fun _ _ ⟨he, hb⟩ => ⟨he, .of hb⟩
theorem info23 (l : List UInt8) (hl : l.length = 32) : Hid ((Try.prog.info? 23).map (·.size) = some (row l).size) := by show _ = _; rw [row_size, hl]; kernel_rfl
theorem ent11 : ∀ args w, (callFunc 11 args).run Try.prog w = .ok (.enter 11 args) w := enters_of Try.func11 (by kernel_rfl) rfl
theorem ent13 : ∀ args w, (callFunc 13 args).run Try.prog w = .ok (.enter 13 args) w := enters_of Try.func13 (by kernel_rfl) rfl
theorem ent15 : ∀ args w, (callFunc 15 args).run Try.prog w = .ok (.enter 15 args) w := enters_of Try.func15 (by kernel_rfl) rfl
theorem ent17 : ∀ args w, (callFunc 17 args).run Try.prog w = .ok (.enter 17 args) w := enters_of Try.func17 (by kernel_rfl) rfl

set_option maxHeartbeats 1000000 in
set_option maxRecDepth 100000 in
theorem walkSmall (a0 : ByteArray) (a1 : List UInt8) (hl0 : a0.size ≤ 300) (w1 : a1.length = 32) (w : World) :
    Calls Try.prog 3 #[.string a0, .agg (row a1)] w fun e w' => e = .returned (.bool true) ∧ Belo w.heap.size w w' := by
  have hl0' : decide ((300 : Int) < (a0.size : Int)) = false := by simp; omega
  have i0 := info23 a1 w1
  have c10 := ow_in (w := w) (d := a1) (weaken (of_any a0 (by omega)))
  have c11 := ow_in (w := w) (d := a1) (rof_any a0 (by omega))
  have c12 := ow_in (w := w) (d := a1) (weaken (pad_any a0 (by omega)))
  have c13 := ow_in (w := w) (d := a1) (rpad_any a0 (by omega))
  have c14 := ow_in (w := w) (d := a1) (weaken (text_any a1 w1))
  have c15 := ow_in (w := w) (d := a1) (weaken (rtext_any a1 w1))
  have c16 := ow_in (w := w) (d := a1) (weaken (link_any a1 w1 a0 (by omega)))
  have c17 := ow_in (w := w) (d := a1) (rlink_any a1 w1 a0 (by omega))
  have lX := sha_length a0.data.toList
  have lL := sha_length (a1 ++ a0.data.toList)
  revert c10 c11 c12 c13 c14 c15 c16 c17 lX lL
  generalize sha a0.data.toList = X
  generalize sha (a1 ++ a0.data.toList) = L
  generalize ByteArray.mk (pad a0.data.toList).toArray = PB
  generalize ByteArray.mk (hex a1).toArray = TX
  intro c10 c11 c12 c13 c14 c15 c16 c17 lX lL
  have eqX : ∀ v, (Op.equalIn 10000 23 (.agg (row X)) (.agg (row X))).run Try.prog v = .ok true v := fun v => by rw [eql_dig _ _ lX lX]; simp
  have eqL : ∀ v, (Op.equalIn 10000 23 (.agg (row L)) (.agg (row L))).run Try.prog v = .ok true v := fun v => by rw [eql_dig _ _ lL lL]; simp
  have cs := Lib.hid (And.intro c10 (And.intro c11 (And.intro c12 (And.intro c13 (And.intro c14 (And.intro c15 (And.intro c16 (And.intro c17 (And.intro eqX eqL)))))))))
  clear c10 c11 c12 c13 c14 c15 c16 c17 eqX eqL lX lL w1
  go_enter Try.func3, Try.ntmps3
  go_wp2_with fail
  refine (works_any _).mono ?_
  rintro e v1 ⟨rfl, h1⟩
  have hL : Ow w a1 v1 := (Ow.mk (belo_alloc w _) (by rw [heap_alloc_if, if_pos rfl]) : Ow w a1 (w.alloc (.cells (row a1) 23))).past (.of h1)
  have hL' := Lib.hid hL.drew
  clear hL h1
  go_wp2_with fail
  refine wp_region_class (Ow w a1) (by kernel_rfl) (by kernel_rfl) hL'.out ?_
  refine wpQuiet_move (by rfl) _ (.inl rfl) (.bool true) rfl ?_
  refine wpQuiet_move (by rfl) _ (.inl rfl) (.bool true) rfl ?_
  simp only [Act.put, List.setIfInBounds_toArray, List.set_cons_zero, List.set_cons_succ]
  refine wpQuiet_move (by rfl) _ (.inl rfl) (.string a0) rfl ?_
  refine wpQuiet_call1 (by rfl) 10 (.tmp 15) _ rfl ent10 (.string a0) rfl _ cs.out.1 ?_
  refine wpQuiet_move (by rfl) _ (.inl rfl) (.string a0) rfl ?_
  refine wpQuiet_call1 (by rfl) 11 (.tmp 17) _ rfl ent11 (.string a0) rfl _ cs.out.2.1 ?_
  simp only [Act.put, List.setIfInBounds_toArray, List.set_cons_zero, List.set_cons_succ]
  refine wpQuiet_deq (by rfl) _ _ _ _ rfl (row X) (row X) rfl rfl (by kernel_rfl) true cs.out.2.2.2.2.2.2.2.2.1 ?_
  refine wpQuiet_pick (by rfl) _ _ _ rfl true rfl (.bool true) rfl ?_
  refine wpQuiet_move (by rfl) _ (.inl rfl) (.bool true) rfl ?_
  simp only [Act.put, List.setIfInBounds_toArray, List.set_cons_zero, List.set_cons_succ]
  refine wpQuiet_move (by rfl) _ (.inl rfl) (.string a0) rfl ?_
  refine wpQuiet_call1 (by rfl) 12 (.tmp 22) _ rfl ent12 (.string a0) rfl _ cs.out.2.2.1 ?_
  refine wpQuiet_move (by rfl) _ (.inl rfl) (.string a0) rfl ?_
  refine wpQuiet_call1 (by rfl) 13 (.tmp 24) _ rfl ent13 (.string a0) rfl _ cs.out.2.2.2.1 ?_
  simp only [Act.put, List.setIfInBounds_toArray, List.set_cons_zero, List.set_cons_succ]
  refine wpQuiet_seq (by rfl) _ _ _ _ rfl PB PB rfl rfl true (by simp) ?_
  refine wpQuiet_pick (by rfl) _ _ _ rfl true rfl (.bool true) rfl ?_
  refine wpQuiet_move (by rfl) _ (.inl rfl) (.bool true) rfl ?_
  simp only [Act.put, List.setIfInBounds_toArray, List.set_cons_zero, List.set_cons_succ]
  refine wpQuiet_load (by rfl) 23 (.tmp 3) rfl _ rfl 23 (row a1) _ (fun _ h => h.one) Try.underlying23 rfl i0.out ?_
  refine wpQuiet_call1 (by rfl) 14 (.tmp 29) _ rfl ent14 (.agg (row a1)) rfl _ cs.out.2.2.2.2.1 ?_
  refine wpQuiet_load (by rfl) 23 (.tmp 3) rfl _ rfl 23 (row a1) _ (fun _ h => h.one) Try.underlying23 rfl i0.out ?_
  refine wpQuiet_call1 (by rfl) 15 (.tmp 31) _ rfl ent15 (.agg (row a1)) rfl _ cs.out.2.2.2.2.2.1 ?_
  simp only [Act.put, List.setIfInBounds_toArray, List.set_cons_zero, List.set_cons_succ]
  refine wpQuiet_seq (by rfl) _ _ _ _ rfl TX TX rfl rfl true (by simp) ?_
  refine wpQuiet_pick (by rfl) _ _ _ rfl true rfl (.bool true) rfl ?_
  refine wpQuiet_move (by rfl) _ (.inl rfl) (.bool true) rfl ?_
  simp only [Act.put, List.setIfInBounds_toArray, List.set_cons_zero, List.set_cons_succ]
  refine wpQuiet_load (by rfl) 23 (.tmp 3) rfl _ rfl 23 (row a1) _ (fun _ h => h.one) Try.underlying23 rfl i0.out ?_
  refine wpQuiet_move (by rfl) _ (.inl rfl) (.string a0) rfl ?_
  refine wpQuiet_call2 (by rfl) 16 (.tmp 36) (.tmp 37) _ rfl ent16 (.agg (row a1)) (.string a0) rfl rfl _ cs.out.2.2.2.2.2.2.1 ?_
  refine wpQuiet_load (by rfl) 23 (.tmp 3) rfl _ rfl 23 (row a1) _ (fun _ h => h.one) Try.underlying23 rfl i0.out ?_
  refine wpQuiet_move (by rfl) _ (.inl rfl) (.string a0) rfl ?_
  simp only [Act.put, List.setIfInBounds_toArray, List.set_cons_zero, List.set_cons_succ]
  refine wpQuiet_call2 (by rfl) 17 (.tmp 39) (.tmp 40) _ rfl ent17 (.agg (row a1)) (.string a0) rfl rfl _ cs.out.2.2.2.2.2.2.2.1 ?_
  refine wpQuiet_deq (by rfl) _ _ _ _ rfl (row L) (row L) rfl rfl (by kernel_rfl) true cs.out.2.2.2.2.2.2.2.2.2 ?_
  refine wpQuiet_pick (by rfl) _ _ _ rfl true rfl (.bool true) rfl ?_
  refine wpQuiet_move (by rfl) _ (.inr rfl) (.bool true) rfl ?_
  simp only [Act.put, List.setIfInBounds_toArray, List.set_cons_zero, List.set_cons_succ]
  refine wpQuiet_nil ?_
  intro u hu
  go_wp2_with fail
  go_ret
  exact ⟨rfl, hu.bel⟩
theorem walk (a0 : ByteArray) (a1 : List UInt8) (w0 : a0.size ≤ maxLen) (w1 : a1.length = 32) (w : World) :
    Calls Try.prog 3 #[.string a0, .agg (row a1)] w fun e w' => e = .returned (.bool true) ∧ Belo w.heap.size w w' := by
  unfold maxLen at w0
  by_cases hl : a0.size ≤ 300
  · exact walkSmall a0 a1 hl w1 w
  · have hl' : decide ((300 : Int) < (a0.size : Int)) = true := by simp; omega
    go_enter Try.func3, Try.ntmps3
    go_wp2_with fail
    refine (works_any _).mono ?_
    rintro e v1 ⟨rfl, h1⟩
    have hb := Lib.hid ((belo_alloc w (.cells (row a1) 23)).trans ((Belo.of h1).mono (by simp)))
    clear h1
    go_wp2_with fail
    go_ret
    exact ⟨rfl, hb.out⟩

set_option maxRecDepth 100000 in
theorem lifted (os : Os) (started : os.Started) (H : Type) (enc : TypeId × Value → H) :
    ReturnsInHanded {} Try.checked os 3 .any (Rows.shaOfSpec.pre6 enc Try.prog Try.f3 Rows.shaOfRow.domain false) (Rows.shaOfSpec.post enc Try.prog Try.f3 false true false false) := by
  refine returnsInHanded_of_change (C := Try.checked) own started (by kernel_rfl) Try.func3
    (ChangeSpec.witness6 (enc := enc) (C := Try.checked) false ⟨#[], #[.string ByteArray.empty, .agg #[.int .u8 0, .int .u8 0, .int .u8 0, .int .u8 0, .int .u8 0, .int .u8 0, .int .u8 0, .int .u8 0, .int .u8 0, .int .u8 0, .int .u8 0, .int .u8 0, .int .u8 0, .int .u8 0, .int .u8 0, .int .u8 0, .int .u8 0, .int .u8 0, .int .u8 0, .int .u8 0, .int .u8 0, .int .u8 0, .int .u8 0, .int .u8 0, .int .u8 0, .int .u8 0, .int .u8 0, .int .u8 0, .int .u8 0, .int .u8 0, .int .u8 0, .int .u8 0]], []⟩ 8 (by kernel_rfl) (by kernel_rfl) (by kernel_rfl) (by kernel_rfl)) ?_
  intro W base args ds gs before hval0 hW hcnd _
  have hval : ∀ (j : Nat) t v, Try.f3.params[j]? = some t → args[j]? = some v → Value.okWide Try.prog W .any base t v := hval0
  have hW' := hW
  obtain ⟨p, q, hA0, hV, rfl, hfz, hnd⟩ := hW
  have hA : DataW.TrodAll enc Try.prog W 0 (fun _ => true) true Try.f3.params.toList args.toList ds p := hA0
  rw [Try.params3] at hA hval
  obtain ⟨v0, vs0, d0, ds0, p0, q0, hargs, rfl, rfl, h0, r0⟩ := trodAll_cons hA
  obtain ⟨v1, vs1, d1, ds1, p1, q1, rfl, rfl, rfl, h1, r1⟩ := trodAll_cons r0
  obtain ⟨rfl, rfl, rfl⟩ := trodAll_nil r1
  obtain rfl : args = #[v0, v1] := by cases args; simp_all
  obtain ⟨rfl, rfl⟩ := trodVars_none hV
  obtain ⟨a0, rfl, rfl, rfl, w0⟩ := open_string Try.underlying9 (hval 0 9 v0 rfl rfl) h0
  obtain ⟨a1, rfl, rfl, rfl, w1⟩ := open_dig (hval 1 23 v1 rfl rfl) h1
  clear hA0 hval0
  simp only [List.append_nil] at hW'
  refine (walk a0 a1 w0 w1 W).mono fun e W' ⟨he, bel⟩ => ?_
  subst he
  exact ⟨_, rfl, _, _, _, [], [], [], hW', (trodAll_cons_mk (shut_bool Try.underlying4 _) trodAll_mk0), (trodAll_cons_mk (shut_string Try.underlying9 w0) (trodAll_cons_mk (shut_dig w1) trodAll_mk0)), rfl, bel.frame _, fun h => by cases h⟩

theorem over : Rows.shaOfRow.holds Try.pinned (OpenSpec.ofChange Rows.shaOfSpec) :=
  OpenClaim.holds_of_wide 3 Try.f3 rfl rfl rfl rfl rfl rfl rfl ⟨rfl, rfl, rfl, rfl, rfl⟩ rfl rfl rfl rfl rfl (by kernel_rfl) Try.func3 (by kernel_rfl)
    (of_decide_eq_true (by kernel_rfl)) (by unfold Func.isWrapper; first | (rw [if_pos (by decide +kernel)]; kernel_rfl) | (rw [if_neg (by decide +kernel)]; exact ⟨rfl, rfl⟩))
    (fun os started H enc _ => lifted os started H enc)

/-- The given statement. -/
theorem shaOf_proved : Rows.ShaOfSaid :=
  over
#print axioms shaOf_proved
end Go.Proofs.Ytfebhemlbnpmhaa.shaOf
