/-
  For every number WireLong returns true: a number has as few bytes as it can.
  Conditions: none beyond the given statement's own.
-/
import Derived.Test.YtgaggncepknafaaRows
import Derived.Test.YtgaggncepknafaaWorks
import Derived.Test.YtgaggncepknafaaFacts
import Derived.WalkKit
import Derived.ProofKit
import Derived.OpenShut
import Derived.ShutString
import Derived.ChangeOld
import Derived.Below
namespace Go.Proofs.Ytgaggncepknafaa.wireLong
open Go.ChangeShapes Go.WideShapes Go.ChangeAt Go.RowKit
open Go.ChangeMaps (open_string shut_string)
set_option linter.unusedVariables false

theorem own : ownKnob Try.prog.godebug = none := by kernel_rfl

theorem done_len {M k m : Nat} {p : List UInt8} (h : At M k m p) (hm : m < 128) : (num M).length = k + 1 := by
  rw [h.done hm, List.length_append, h.len]; rfl
set_option maxHeartbeats 1000000 in
theorem walkSmall (M : Nat) (hM : M ≤ 1125899906842624) (w : World) :
    Calls Try.prog 9 #[.int .i64 (M : Int)] w fun e w' => e = .returned (.bool true) ∧ Below w.heap.size w w' := by
  have t1 : decide ((M : Int) < 0) = false := by simp
  have t2 : decide ((1125899906842624 : Int) < (M : Int)) = false := by simp; omega
  have hS := Lib.hid (At.start (M := M) hM)
  have c1 : Hid (∀ v, Calls Try.prog 14 #[.int .i64 (M : Int)] v fun e v' => e = .returned (.string (mk (num M))) ∧ Below v.heap.size v v') := fun v => by
    have := num_nat M (by omega) v
    rw [cl_id hM] at this
    exact this
  go_enter Try.func9, Try.ntmps9
  go_wp2_with fail
  refine (works_any _).mono ?_
  rintro e v1 ⟨rfl, b1⟩
  have B1 := Lib.hid b1
  clear b1
  go_wp2_with fail
  go_loopw [4, 5] (fun l a wr => ∃ (k m : Nat) (p : List UInt8), a = .int .i64 (m : Int) ∧ l = .int .i64 ((k : Int) + 1) ∧ wr = v1 ∧ Hid (At M k m p)) (fun _ a _ => (intOf a).toNat)
  case atStart => exact ⟨0, M, [], rfl, rfl, rfl, hS.out⟩
  case round =>
    obtain ⟨k, m, p, rfl, rfl, rfl, hA⟩ := hrel
    have hmb : m ≤ 1125899906842624 := hA.out.mle
    have hk7 : k ≤ 7 := hA.out.kle
    by_cases hm : 128 ≤ m
    · have t3 : decide ((128 : Int) ≤ (m : Int)) = true := by simp; omega
      have hN := Lib.hid (hA.out.next hm)
      go_wp2_with fail
      go_roundw
      case rel => exact ⟨k + 1, m / 128, _, by go_num, by go_num, by first | rfl | trivial, hN.out⟩
      case measure => simp [intOf]; omega
    · have t3 : decide ((128 : Int) ≤ (m : Int)) = false := by simp; omega
      have hN : (mk (num M)).size = k + 1 := by rw [size_li, li_mk']; exact done_len hA.out (by omega)
      have t4 : (((mk (num M)).size : Int) == (k : Int) + 1) = true := by rw [hN]; simp
      clear hN
      revert c1 t4
      generalize mk (num M) = S
      intro c1 t4
      go_wp2_with fail
      refine (c1.out _).mono ?_
      rintro e v2 ⟨rfl, b2⟩
      go_wp2_with fail
      go_ret
      exact ⟨rfl, below_on B1.out b2⟩
set_option maxHeartbeats 1000000 in
theorem walk (a0 : Int) (w0 : (Lit.int .i64 a0).wf = true) (w : World) :
    Calls Try.prog 9 #[.int .i64 a0] w fun e w' => e = .returned (.bool true) ∧ Below w.heap.size w w' := by
  have hb := bounds_i64 w0
  by_cases h1 : a0 < 0
  · have t1 : decide (a0 < 0) = true := by simp; omega
    have e0 : clI a0 = 0 := by unfold clI; omega
    have c1 : Hid (∀ v, Calls Try.prog 14 #[.int .i64 a0] v fun e v' => e = .returned (.string (mk (num 0))) ∧ Below v.heap.size v v') := fun v => by
      have := num_any a0 (by omega) (by omega) v
      rw [e0] at this
      exact this
    have c2 : Hid (∀ v, Calls Try.prog 14 #[.int .i64 0] v fun e v' => e = .returned (.string (mk (num 0))) ∧ Below v.heap.size v v') := fun v => num_nat 0 (by omega) v
    revert c1 c2
    generalize mk (num 0) = S
    intro c1 c2
    clear w0 hb e0
    go_enter Try.func9, Try.ntmps9
    go_wp2_with fail
    refine (works_any _).mono ?_
    rintro e v1 ⟨rfl, b1⟩
    go_wp2_with fail
    refine (c1.out _).mono ?_
    rintro e v2 ⟨rfl, b2⟩
    go_wp2_with fail
    refine (c2.out _).mono ?_
    rintro e v3 ⟨rfl, b3⟩
    go_wp2_with fail
    go_ret
    exact ⟨rfl, below_on (below_on b1 b2) b3⟩
  by_cases h2 : 1125899906842624 < a0
  · have t1 : decide (a0 < 0) = false := by simp; omega
    have t2 : decide ((1125899906842624 : Int) < a0) = true := by simp; omega
    have e0 : clI a0 = 1125899906842624 := by unfold clI big; omega
    have c1 : Hid (∀ v, Calls Try.prog 14 #[.int .i64 a0] v fun e v' => e = .returned (.string (mk (num 1125899906842624))) ∧ Below v.heap.size v v') := fun v => by
      have := num_any a0 (by omega) (by omega) v
      rw [e0] at this
      exact this
    have c2 : Hid (∀ v, Calls Try.prog 14 #[.int .i64 1125899906842624] v fun e v' => e = .returned (.string (mk (num 1125899906842624))) ∧ Below v.heap.size v v') := fun v => num_nat 1125899906842624 (by omega) v
    revert c1 c2
    generalize mk (num 1125899906842624) = S
    intro c1 c2
    clear w0 hb e0
    go_enter Try.func9, Try.ntmps9
    go_wp2_with fail
    refine (works_any _).mono ?_
    rintro e v1 ⟨rfl, b1⟩
    go_wp2_with fail
    refine (c1.out _).mono ?_
    rintro e v2 ⟨rfl, b2⟩
    go_wp2_with fail
    refine (c2.out _).mono ?_
    rintro e v3 ⟨rfl, b3⟩
    go_wp2_with fail
    go_ret
    exact ⟨rfl, below_on (below_on b1 b2) b3⟩
  · obtain ⟨k, rfl⟩ := Int.eq_ofNat_of_zero_le (show 0 ≤ a0 by omega)
    exact walkSmall k (by omega) w

set_option maxRecDepth 100000 in
theorem lifted (os : Os) (started : os.Started) (H : Type) (enc : TypeId × Value → H) :
    ReturnsInHanded {} Try.checked os 9 .any (Rows.wireLongSpec.pre6 enc Try.prog Try.f9 Rows.wireLongRow.domain false) (Rows.wireLongSpec.post enc Try.prog Try.f9 false true false false) := by
  refine returnsInHanded_of_change (C := Try.checked) own started (by kernel_rfl) Try.func9
    (ChangeSpec.witness6 (enc := enc) (C := Try.checked) false ⟨#[], #[.int .i64 0], []⟩ 8 (by kernel_rfl) (by kernel_rfl) (by kernel_rfl) (by kernel_rfl)) ?_
  intro W base args ds gs before hval0 hW hcnd _
  have hval : ∀ (j : Nat) t v, Try.f9.params[j]? = some t → args[j]? = some v → Value.okWide Try.prog W .any base t v := hval0
  have hW' := hW
  obtain ⟨p, q, hA0, hV, rfl, hfz, hnd⟩ := hW
  have hA : DataW.TrodAll enc Try.prog W 0 (fun _ => true) true Try.f9.params.toList args.toList ds p := hA0
  rw [Try.params9] at hA hval
  obtain ⟨v0, vs0, d0, ds0, p0, q0, hargs, rfl, rfl, h0, r0⟩ := trodAll_cons hA
  obtain ⟨rfl, rfl, rfl⟩ := trodAll_nil r0
  obtain rfl : args = #[v0] := by cases args; simp_all
  obtain ⟨rfl, rfl⟩ := trodVars_none hV
  obtain ⟨a0, rfl, rfl, rfl, w0⟩ := open_int Try.underlying3 (hval 0 3 v0 rfl rfl) h0
  clear hA0 hval0
  simp only [List.append_nil] at hW'
  refine (walk a0 w0 W).mono fun e W' ⟨he, bel⟩ => ?_
  subst he
  exact ⟨_, rfl, _, _, _, [], [], [], hW', (trodAll_cons_mk (shut_bool Try.underlying4 _) trodAll_mk0), (trodAll_cons_mk (shut_int Try.underlying3 w0) trodAll_mk0), rfl, bel.frame _, fun h => by cases h⟩

theorem over : Rows.wireLongRow.holds Try.pinned (OpenSpec.ofChange Rows.wireLongSpec) :=
  OpenClaim.holds_of_wide 9 Try.f9 rfl rfl rfl rfl rfl rfl rfl ⟨rfl, rfl, rfl, rfl, rfl⟩ rfl rfl rfl rfl rfl (by kernel_rfl) Try.func9 (by kernel_rfl)
    (of_decide_eq_true (by kernel_rfl)) (by unfold Func.isWrapper; first | (rw [if_pos (by decide +kernel)]; kernel_rfl) | (rw [if_neg (by decide +kernel)]; exact ⟨rfl, rfl⟩))
    (fun os started H enc _ => lifted os started H enc)

/-- The given statement. -/
theorem wireLong_proved : Rows.WireLongSaid :=
  over
#print axioms wireLong_proved
end Go.Proofs.Ytgaggncepknafaa.wireLong
