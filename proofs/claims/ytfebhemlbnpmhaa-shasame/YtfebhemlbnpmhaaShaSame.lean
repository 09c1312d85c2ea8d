/-
  For every two texts ShaSame returns true: two texts that are not the same, and have one digest, are told as such; others are not.
  Conditions: none beyond the given statement's own.
-/
import Derived.Test.YtfebhemlbnpmhaaRows
import Derived.Test.YtfebhemlbnpmhaaWorks
import Derived.Test.YtfebhemlbnpmhaaGuarded
import Derived.WalkKit
import Derived.ProofKit
import Derived.OpenShut
import Derived.ShutString
import Derived.ChangeOld
import Derived.Below
namespace Go.Proofs.Ytfebhemlbnpmhaa.shaSame
open Go.ChangeShapes Go.WideShapes Go.ChangeAt Go.RowKit
open Go.ChangeMaps (open_string shut_string)
set_option linter.unusedVariables false

theorem own : ownKnob Try.prog.godebug = none := by kernel_rfl

theorem smB_eq (l : List UInt8) : smB l l = false := by unfold smB; simp
theorem smB_ne (l m : List UInt8) (h : l ≠ m) : smB l m = (sha l == sha m) := by
  unfold smB
  have : (l == m) = false := by rw [beq_eq_false_iff_ne]; exact h
  rw [this]; rfl
theorem info23 (l : List UInt8) : Hid ((Try.prog.info? 23).map (·.size) = some (row (sha l)).size) := by show _ = _; rw [row_size, sha_length]; kernel_rfl
theorem size23 (l : List UInt8) : Hid (d0.size = (row (sha l)).size) := by show _ = _; rw [row_size, sha_length]; kernel_rfl
set_option maxHeartbeats 1000000 in
set_option maxRecDepth 100000 in
theorem walkSmall (a0 a1 : ByteArray) (hl0 : a0.size ≤ 300) (hl1 : a1.size ≤ 300) (w : World) :
    Calls Try.prog 5 #[.string a0, .string a1] w fun e w' => e = .returned (.bool true) ∧ Below w.heap.size w w' := by
  have hl0' : decide ((300 : Int) < (a0.size : Int)) = false := by simp; omega
  have hl1' : decide ((300 : Int) < (a1.size : Int)) = false := by simp; omega
  have i0 := info23 a0.data.toList
  have i1 := info23 a1.data.toList
  have o0 := size23 a0.data.toList
  have o1 := size23 a1.data.toList
  by_cases h : a0.toList = a1.toList
  · have hne : (a0.toList == a1.toList) = true := by rw [h]; simp
    have hne2 : (a1.toList == a0.toList) = true := by rw [h]; simp
    have he : a0.data.toList = a1.data.toList := by rw [← toList_data, ← toList_data, h]
    have s01 := Lib.hid (fun v => same_any a0 a1 (by omega) (by omega) v)
    have s10 := Lib.hid (fun v => same_any a1 a0 (by omega) (by omega) v)
    rw [he, smB_eq] at s01
    rw [he, smB_eq] at s10
    clear he h
    go_enter Try.func5, Try.ntmps5
    go_wp2_with fail
    refine (works_any _).mono ?_
    rintro e v1 ⟨rfl, h1⟩
    go_wp2_with fail
    refine (of_any a0 (by omega) _).mono ?_
    rintro e v2 ⟨rfl, h2⟩
    go_wp2_with (with_reducible refine wpList_store_row rfl 23 (.tmp 6) (.tmp 21) rfl _ (row (sha a0.data.toList)) rfl rfl 23 d0 ?hg1 i0.out o0.out (row_one _) ?_)
    case hg1 => rw [d0_zero, heap_alloc_if, if_pos rfl]
    rw [World.setRow_alloc_new]
    go_wp2_with fail
    refine (of_any a1 (by omega) _).mono ?_
    rintro e v3 ⟨rfl, h3⟩
    go_wp2_with (with_reducible refine wpList_store_row rfl 23 (.tmp 7) (.tmp 23) rfl _ (row (sha a1.data.toList)) rfl rfl 23 d0 ?hg2 i1.out o1.out (row_one _) ?_)
    case hg2 => rw [d0_zero, heap_alloc_if, if_pos rfl]
    rw [World.setRow_alloc_new]
    go_wp2_with fail
    refine (s01.out _).mono ?_
    rintro e v4 ⟨rfl, h4⟩
    go_wp2_with fail
    refine (s01.out _).mono ?_
    rintro e v5 ⟨rfl, h5⟩
    go_wp2_with fail
    refine (s10.out _).mono ?_
    rintro e v6 ⟨rfl, h6⟩
    go_wp2_with fail
    go_ret
    have b2 := (h1.trans (h2.mono h1.size)).alloc (Nat.le_trans h1.size h2.size) (.cells (row (sha a0.data.toList)) 23)
    have b3 := (b2.trans (h3.mono b2.size)).alloc (Nat.le_trans b2.size h3.size) (.cells (row (sha a1.data.toList)) 23)
    have b4 := b3.trans (h4.mono b3.size)
    have b5 := b4.trans (h5.mono b4.size)
    exact ⟨rfl, b5.trans (h6.mono b5.size)⟩
  · have hne : (a0.toList == a1.toList) = false := by rw [beq_eq_false_iff_ne]; exact h
    have hd : a0.data.toList ≠ a1.data.toList := by rw [← toList_data, ← toList_data]; exact h
    have s01 := Lib.hid (fun v => same_any a0 a1 (by omega) (by omega) v)
    have s10 := Lib.hid (fun v => same_any a1 a0 (by omega) (by omega) v)
    rw [smB_ne _ _ hd] at s01
    rw [smB_ne _ _ (Ne.symm hd), show (sha a1.data.toList == sha a0.data.toList) = (sha a0.data.toList == sha a1.data.toList) by rw [Bool.eq_iff_iff, beq_iff_eq, beq_iff_eq]; exact ⟨Eq.symm, Eq.symm⟩] at s10
    have eqd := fun v => eql_dig (sha a0.data.toList) (sha a1.data.toList) (sha_length _) (sha_length _) v
    obtain ⟨r, hr⟩ : ∃ r, (sha a0.data.toList == sha a1.data.toList) = r := ⟨_, rfl⟩
    rw [hr] at s01 s10
    have eqd' : ∀ v, (Op.equalIn 10000 23 (.agg (row (sha a0.data.toList))) (.agg (row (sha a1.data.toList)))).run Try.prog v = .ok r v := fun v => by rw [eqd v, hr]
    clear hd h eqd hr
    go_enter Try.func5, Try.ntmps5
    go_wp2_with fail
    refine (works_any _).mono ?_
    rintro e v1 ⟨rfl, h1⟩
    go_wp2_with fail
    refine (of_any a0 (by omega) _).mono ?_
    rintro e v2 ⟨rfl, h2⟩
    go_wp2_with (with_reducible refine wpList_store_row rfl 23 (.tmp 6) (.tmp 21) rfl _ (row (sha a0.data.toList)) rfl rfl 23 d0 ?hg3 i0.out o0.out (row_one _) ?_)
    case hg3 => rw [d0_zero, heap_alloc_if, if_pos rfl]
    rw [World.setRow_alloc_new]
    go_wp2_with fail
    refine (of_any a1 (by omega) _).mono ?_
    rintro e v3 ⟨rfl, h3⟩
    go_wp2_with (with_reducible refine wpList_store_row rfl 23 (.tmp 7) (.tmp 23) rfl _ (row (sha a1.data.toList)) rfl rfl 23 d0 ?hg4 i1.out o1.out (row_one _) ?_)
    case hg4 => rw [d0_zero, heap_alloc_if, if_pos rfl]
    rw [World.setRow_alloc_new]
    have hz : v2.heap.size < v3.heap.size := by have := h3.size; simp at this; omega
    have k1 : (v3.alloc (.cells (row (sha a1.data.toList)) 23)).heap[v2.heap.size]? = some (.cells (row (sha a0.data.toList)) 23) := by
      rw [heap_alloc_if, if_neg (by omega), h3.block _ (by simp), heap_alloc_if, if_pos rfl]
    have k2 : (v3.alloc (.cells (row (sha a1.data.toList)) 23)).heap[v3.heap.size]? = some (.cells (row (sha a1.data.toList)) 23) := by rw [heap_alloc_if, if_pos rfl]
    have K := Lib.hid (And.intro k1 k2)
    clear k1 k2
    go_wp2_with fail
    refine (s01.out _).mono ?_
    rintro e v4 ⟨rfl, h4⟩
    have m1 := (h4.block _ (lt_of_some K.out.1)).trans K.out.1
    have m2 := (h4.block _ (lt_of_some K.out.2)).trans K.out.2
    go_wp2_with (first
      | (with_reducible refine wpList_load_want (by with_unfolding_all rfl) 23 (.tmp 6) rfl _ rfl 23 (row (sha a0.data.toList)) _ m1 Try.underlying23 rfl i0.out ?_)
      | (with_reducible refine wpList_load_want (by with_unfolding_all rfl) 23 (.tmp 7) rfl _ rfl 23 (row (sha a1.data.toList)) _ m2 Try.underlying23 rfl i1.out ?_)
      | fail)
    refine (s01.out _).mono ?_
    rintro e v5 ⟨rfl, h5⟩
    go_wp2_with fail
    refine (s10.out _).mono ?_
    rintro e v6 ⟨rfl, h6⟩
    go_wp2_with fail
    go_ret
    have b2 := (h1.trans (h2.mono h1.size)).alloc (Nat.le_trans h1.size h2.size) (.cells (row (sha a0.data.toList)) 23)
    have b3 := (b2.trans (h3.mono b2.size)).alloc (Nat.le_trans b2.size h3.size) (.cells (row (sha a1.data.toList)) 23)
    have b4 := b3.trans (h4.mono b3.size)
    have b5 := b4.trans (h5.mono b4.size)
    exact ⟨by cases r <;> rfl, b5.trans (h6.mono b5.size)⟩
theorem walk (a0 a1 : ByteArray) (w0 : a0.size ≤ maxLen) (w1 : a1.size ≤ maxLen) (w : World) :
    Calls Try.prog 5 #[.string a0, .string a1] w fun e w' => e = .returned (.bool true) ∧ Below w.heap.size w w' := by
  unfold maxLen at w0 w1
  by_cases hl : a0.size ≤ 300
  · by_cases hk : a1.size ≤ 300
    · exact walkSmall a0 a1 hl hk w
    · have hl' : decide ((300 : Int) < (a0.size : Int)) = false := by simp; omega
      have hk' : decide ((300 : Int) < (a1.size : Int)) = true := by simp; omega
      go_enter Try.func5, Try.ntmps5
      go_wp2_with fail
      refine (works_any _).mono ?_
      rintro e v1 ⟨rfl, h1⟩
      go_wp2_with fail
      go_ret
      exact ⟨rfl, h1⟩
  · have hl' : decide ((300 : Int) < (a0.size : Int)) = true := by simp; omega
    go_enter Try.func5, Try.ntmps5
    go_wp2_with fail
    refine (works_any _).mono ?_
    rintro e v1 ⟨rfl, h1⟩
    go_wp2_with fail
    go_ret
    exact ⟨rfl, h1⟩

set_option maxRecDepth 100000 in
theorem lifted (os : Os) (started : os.Started) (H : Type) (enc : TypeId × Value → H) :
    ReturnsInHanded {} Try.checked os 5 .any (Rows.shaSameSpec.pre6 enc Try.prog Try.f5 Rows.shaSameRow.domain false) (Rows.shaSameSpec.post enc Try.prog Try.f5 false true false false) := by
  refine returnsInHanded_of_change (C := Try.checked) own started (by kernel_rfl) Try.func5
    (ChangeSpec.witness6 (enc := enc) (C := Try.checked) false ⟨#[], #[.string ByteArray.empty, .string ByteArray.empty], []⟩ 8 (by kernel_rfl) (by kernel_rfl) (by kernel_rfl) (by kernel_rfl)) ?_
  intro W base args ds gs before hval0 hW hcnd _
  have hval : ∀ (j : Nat) t v, Try.f5.params[j]? = some t → args[j]? = some v → Value.okWide Try.prog W .any base t v := hval0
  have hW' := hW
  obtain ⟨p, q, hA0, hV, rfl, hfz, hnd⟩ := hW
  have hA : DataW.TrodAll enc Try.prog W 0 (fun _ => true) true Try.f5.params.toList args.toList ds p := hA0
  rw [Try.params5] at hA hval
  obtain ⟨v0, vs0, d0, ds0, p0, q0, hargs, rfl, rfl, h0, r0⟩ := trodAll_cons hA
  obtain ⟨v1, vs1, d1, ds1, p1, q1, rfl, rfl, rfl, h1, r1⟩ := trodAll_cons r0
  obtain ⟨rfl, rfl, rfl⟩ := trodAll_nil r1
  obtain rfl : args = #[v0, v1] := by cases args; simp_all
  obtain ⟨rfl, rfl⟩ := trodVars_none hV
  obtain ⟨a0, rfl, rfl, rfl, w0⟩ := open_string Try.underlying9 (hval 0 9 v0 rfl rfl) h0
  obtain ⟨a1, rfl, rfl, rfl, w1⟩ := open_string Try.underlying9 (hval 1 9 v1 rfl rfl) h1
  clear hA0 hval0
  simp only [List.append_nil] at hW'
  refine (walk a0 a1 w0 w1 W).mono fun e W' ⟨he, bel⟩ => ?_
  subst he
  exact ⟨_, rfl, _, _, _, [], [], [], hW', (trodAll_cons_mk (shut_bool Try.underlying4 _) trodAll_mk0), (trodAll_cons_mk (shut_string Try.underlying9 w0) (trodAll_cons_mk (shut_string Try.underlying9 w1) trodAll_mk0)), rfl, bel.frame _, fun h => by cases h⟩

theorem over : Rows.shaSameRow.holds Try.pinned (OpenSpec.ofChange Rows.shaSameSpec) :=
  OpenClaim.holds_of_wide 5 Try.f5 rfl rfl rfl rfl rfl rfl rfl ⟨rfl, rfl, rfl, rfl, rfl⟩ rfl rfl rfl rfl rfl (by kernel_rfl) Try.func5 (by kernel_rfl)
    (of_decide_eq_true (by kernel_rfl)) (by unfold Func.isWrapper; first | (rw [if_pos (by decide +kernel)]; kernel_rfl) | (rw [if_neg (by decide +kernel)]; exact ⟨rfl, rfl⟩))
    (fun os started H enc _ => lifted os started H enc)

/-- The given statement. -/
theorem shaSame_proved : Rows.ShaSameSaid :=
  over
#print axioms shaSame_proved
end Go.Proofs.Ytfebhemlbnpmhaa.shaSame
