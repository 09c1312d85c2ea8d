/-
  For every digest and text WireSums returns true: a digest is 32 bytes, in order; of fewer there is none.
  Conditions: none beyond the given statement's own.
-/
import Derived.Test.YtgaggncepknafaaRows
import Derived.Test.YtgaggncepknafaaWorks
import Derived.Test.YtgaggncepknafaaFacts
import Derived.WalkKit
import Derived.ProofKit
import Derived.OpenShut
import Derived.ShutString
import Derived.ChangeOld
import Derived.Below
namespace Go.Proofs.Ytgaggncepknafaa.wireSums
open Go.ChangeShapes Go.WideShapes Go.ChangeAt Go.RowKit
open Go.ChangeMaps (open_string shut_string)
set_option linter.unusedVariables false

theorem own : ownKnob Try.prog.godebug = none := by kernel_rfl

theorem z28_row (d : List UInt8) (hd : d.length = 32) : z28.size = (row d).size := by rw [row_size, hd]; rfl
theorem get_sum (s : ByteArray) (b : Bool) (h : decide ((32 : Int) ≤ (s.size : Int)) = b) : ∃ d r, sR (li s) = .tuple #[.agg (row d), .string r, .bool b] ∧ Hid (d.length = 32) := by
  cases b with
  | false =>
    have h' : ¬ 32 ≤ s.size := by simp at h; omega
    have e : gs (li s) = none := by unfold gs; rw [if_neg (by rw [li_len]; exact h')]
    exact ⟨List.replicate 32 0, _, sR_none e, rfl⟩
  | true =>
    have h' : 32 ≤ s.size := by simp at h; omega
    have e : gs (li s) = some ((li s).take 32, (li s).drop 32) := by unfold gs; rw [if_pos (by rw [li_len]; exact h')]
    exact ⟨_, _, sR_some e, by show _ = _; rw [List.length_take, li_len]; omega⟩
theorem mk_at (d : List UInt8) (k : Nat) (h : k < (mk d).size) : (mk d)[k] = d.getD k 0 := by
  have h' : k < d.length := by rw [size_li, li_mk'] at h; exact h
  rw [List.getD_eq_getElem?_getD, List.getElem?_eq_getElem h']
  rfl
/-- The digest that came in, in a block of the call's own. -/
structure Lw (w : World) (d : List UInt8) (v : World) : Prop where
  bel : Below w.heap.size w v
  one : v.heap[w.heap.size]? = some (.cells (row d) 28)
theorem Lw.past {w v v' : World} {d : List UInt8} (h : Lw w d v) (hb : Below v.heap.size v v') : Lw w d v' :=
  ⟨below_on h.bel hb, below_blk h.one hb⟩
theorem Lw.drew {w v : World} {d : List UInt8} (h : Lw w d v) : Lw w d v.drew := ⟨h.bel.drew, h.one⟩
set_option maxHeartbeats 1000000 in
set_option maxRecDepth 100000 in
theorem walkSmall (a0 : List UInt8) (a1 : ByteArray) (w0 : a0.length = 32) (h1 : a1.size ≤ 300) (b : Bool) (t9 : decide ((32 : Int) ≤ (a1.size : Int)) = b) (w : World) :
    Calls Try.prog 10 #[.agg (row a0), .string a1] w fun e w' => e = .returned (.bool true) ∧ Below w.heap.size w w' := by
  have t1 : decide ((300 : Int) < (a1.size : Int)) = false := by simp; omega
  have c1 := Lib.hid (fun v => sum_any a0 w0 v)
  have hS : (mk a0).size = 32 := by rw [size_li, li_mk']; exact w0
  have hat := Lib.hid (fun k => mk_at a0 k)
  obtain ⟨d, r, e2, hd⟩ := get_sum a1 b t9
  have c2 := Lib.hid (fun v => getSum_any a1 v)
  rw [e2] at c2
  have w0' := Lib.hid w0
  revert c1 hS hat
  generalize mk a0 = S
  intro c1 hS hat
  clear w0 e2
  go_enter Try.func10, Try.ntmps10
  go_wp2_with fail
  refine (works_any _).mono ?_
  rintro e v1 ⟨rfl, b1⟩
  have L1 : Lw w a0 v1 := ⟨first_below b1, first_kept b1⟩
  have L1' := Lib.hid L1
  clear b1 L1
  have k0 := L1'.out.one
  go_wp2_with (first
    | (with_reducible refine wpList_load_row rfl 28 (.tmp 2) rfl _ rfl 28 (row a0) _ k0 Try.underlying28 rfl (info28' a0 w0'.out) ?_)
    | fail)
  clear k0
  refine (c1.out _).mono ?_
  rintro e v2 ⟨rfl, b2⟩
  have L2 := Lib.hid (L1'.out.past b2)
  clear b2 L1'
  go_wp2_with fail
  go_loopw [7] (fun i wr => ∃ k : Nat, k ≤ 32 ∧ i = .int .i64 (k : Int) ∧ Hid (Lw w a0 wr)) (fun i _ => 32 - (intOf i).toNat)
  case atStart => exact ⟨0, by omega, rfl, L2.out⟩
  case round =>
    obtain ⟨k, hk, rfl, hL⟩ := hrel
    rename_i wr
    by_cases hlt : k < 32
    · have hb : (k : Int) < 32 := by omega
      have hks : k < S.size := by rw [hS]; exact hlt
      have hx := hat.out k hks
      have q1 : wr.cell? ⟨w.heap.size, k, none⟩ = some (.int .u8 ((a0.getD k 0).toNat : Int)) := by
        rw [cell_of_row wr _ k _ _ _ hL.out.one, row_at _ _ (by rw [w0'.out]; exact hlt)]
      revert q1 hx
      generalize a0.getD k 0 = x
      intro q1 hx
      go_wp2_with fail
      go_region
      go_wp2_with fail
      go_roundw
      case rel => exact ⟨k + 1, by omega, by go_num, hL.out.drew⟩
      case measure => simp [intOf]; omega
    · obtain rfl : k = 32 := by omega
      clear hk hlt
      go_wp2_with fail
      refine (c2.out _).mono ?_
      rintro e v3 ⟨rfl, b3⟩
      have L3 := Lib.hid (hL.out.past b3)
      clear b3 hL
      go_wp2_with (with_reducible refine wpList_store_row rfl 28 (.tmp 8) (.tmp 44) rfl _ (row d) rfl rfl 28 z28 ?hg1 (info28' d hd.out) (z28_row d hd.out) (row_one _) ?_)
      case hg1 => rw [z28_eq, heap_alloc_if, if_pos rfl]
      rw [z28_eq, World.setRow_alloc_new]
      have B3 := Lib.hid (L3.out.bel.alloc L3.out.bel.size (.cells (row d) 28))
      cases b with
      | true =>
        go_wp2_with fail
        go_ret
        exact ⟨rfl, B3.out⟩
      | false =>
        go_wp2_with fail
        go_ret
        exact ⟨rfl, B3.out⟩
set_option maxHeartbeats 1000000 in
theorem walk (a0 : List UInt8) (a1 : ByteArray) (w0 : a0.length = 32) (w1 : a1.size ≤ maxLen) (w : World) :
    Calls Try.prog 10 #[.agg (row a0), .string a1] w fun e w' => e = .returned (.bool true) ∧ Below w.heap.size w w' := by
  by_cases h1 : a1.size ≤ 300
  · exact walkSmall a0 a1 w0 h1 _ rfl w
  · have t1 : decide ((300 : Int) < (a1.size : Int)) = true := by simp; omega
    have c1 := Lib.hid (fun v => sum_any a0 w0 v)
    have hS : (mk a0).size = 32 := by rw [size_li, li_mk']; exact w0
    have w0' := Lib.hid w0
    revert c1 hS
    generalize mk a0 = S
    intro c1 hS
    clear w0 w1 h1
    go_enter Try.func10, Try.ntmps10
    go_wp2_with fail
    refine (works_any _).mono ?_
    rintro e v1 ⟨rfl, b1⟩
    have L1 : Lw w a0 v1 := ⟨first_below b1, first_kept b1⟩
    have L1' := Lib.hid L1
    clear b1 L1
    have k0 := L1'.out.one
    go_wp2_with (first
      | (with_reducible refine wpList_load_row rfl 28 (.tmp 2) rfl _ rfl 28 (row a0) _ k0 Try.underlying28 rfl (info28' a0 w0'.out) ?_)
      | fail)
    clear k0
    refine (c1.out _).mono ?_
    rintro e v2 ⟨rfl, b2⟩
    have L2 := Lib.hid (L1'.out.past b2)
    clear b2 L1'
    go_wp2_with fail
    go_ret
    exact ⟨rfl, L2.out.bel⟩

set_option maxRecDepth 100000 in
theorem lifted (os : Os) (started : os.Started) (H : Type) (enc : TypeId × Value → H) :
    ReturnsInHanded {} Try.checked os 10 .any (Rows.wireSumsSpec.pre6 enc Try.prog Try.f10 Rows.wireSumsRow.domain false) (Rows.wireSumsSpec.post enc Try.prog Try.f10 false true false false) := by
  refine returnsInHanded_of_change (C := Try.checked) own started (by kernel_rfl) Try.func10
    (ChangeSpec.witness6 (enc := enc) (C := Try.checked) false ⟨#[], #[.agg #[.int .u8 0, .int .u8 0, .int .u8 0, .int .u8 0, .int .u8 0, .int .u8 0, .int .u8 0, .int .u8 0, .int .u8 0, .int .u8 0, .int .u8 0, .int .u8 0, .int .u8 0, .int .u8 0, .int .u8 0, .int .u8 0, .int .u8 0, .int .u8 0, .int .u8 0, .int .u8 0, .int .u8 0, .int .u8 0, .int .u8 0, .int .u8 0, .int .u8 0, .int .u8 0, .int .u8 0, .int .u8 0, .int .u8 0, .int .u8 0, .int .u8 0, .int .u8 0], .string ByteArray.empty], []⟩ 8 (by kernel_rfl) (by kernel_rfl) (by kernel_rfl) (by kernel_rfl)) ?_
  intro W base args ds gs before hval0 hW hcnd _
  have hval : ∀ (j : Nat) t v, Try.f10.params[j]? = some t → args[j]? = some v → Value.okWide Try.prog W .any base t v := hval0
  have hW' := hW
  obtain ⟨p, q, hA0, hV, rfl, hfz, hnd⟩ := hW
  have hA : DataW.TrodAll enc Try.prog W 0 (fun _ => true) true Try.f10.params.toList args.toList ds p := hA0
  rw [Try.params10] at hA hval
  obtain ⟨v0, vs0, d0, ds0, p0, q0, hargs, rfl, rfl, h0, r0⟩ := trodAll_cons hA
  obtain ⟨v1, vs1, d1, ds1, p1, q1, rfl, rfl, rfl, h1, r1⟩ := trodAll_cons r0
  obtain ⟨rfl, rfl, rfl⟩ := trodAll_nil r1
  obtain rfl : args = #[v0, v1] := by cases args; simp_all
  obtain ⟨rfl, rfl⟩ := trodVars_none hV
  obtain ⟨a0, rfl, rfl, rfl, w0⟩ := open_dig (hval 0 28 v0 rfl rfl) h0
  obtain ⟨a1, rfl, rfl, rfl, w1⟩ := open_string Try.underlying9 (hval 1 9 v1 rfl rfl) h1
  clear hA0 hval0
  simp only [List.append_nil] at hW'
  refine (walk a0 a1 w0 w1 W).mono fun e W' ⟨he, bel⟩ => ?_
  subst he
  exact ⟨_, rfl, _, _, _, [], [], [], hW', (trodAll_cons_mk (shut_bool Try.underlying4 _) trodAll_mk0), (trodAll_cons_mk (shut_dig w0) (trodAll_cons_mk (shut_string Try.underlying9 w1) trodAll_mk0)), rfl, bel.frame _, fun h => by cases h⟩

theorem over : Rows.wireSumsRow.holds Try.pinned (OpenSpec.ofChange Rows.wireSumsSpec) :=
  OpenClaim.holds_of_wide 10 Try.f10 rfl rfl rfl rfl rfl rfl rfl ⟨rfl, rfl, rfl, rfl, rfl⟩ rfl rfl rfl rfl rfl (by kernel_rfl) Try.func10 (by kernel_rfl)
    (of_decide_eq_true (by kernel_rfl)) (by unfold Func.isWrapper; first | (rw [if_pos (by decide +kernel)]; kernel_rfl) | (rw [if_neg (by decide +kernel)]; exact ⟨rfl, rfl⟩))
    (fun os started H enc _ => lifted os started H enc)

/-- The given statement. -/
theorem wireSums_proved : Rows.WireSumsSaid :=
  over
#print axioms wireSums_proved
end Go.Proofs.Ytgaggncepknafaa.wireSums
