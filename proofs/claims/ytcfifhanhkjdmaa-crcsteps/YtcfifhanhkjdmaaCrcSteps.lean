/-
  For every text CrcSteps returns true: all bytes, stepped one by one, with all bits turned ahead and behind, are the check.
  Conditions: none beyond the given statement's own.
-/
import Derived.Test.YtcfifhanhkjdmaaRows
import Derived.Test.YtcfifhanhkjdmaaWorks
import Derived.WalkKit
import Derived.ProofKit
import Derived.OpenShut
import Derived.ShutString
import Derived.ChangeOld
import Derived.Below
namespace Go.Proofs.Ytcfifhanhkjdmaa.crcSteps
open Go.ChangeShapes Go.WideShapes Go.ChangeAt Go.RowKit
open Go.ChangeMaps (open_string shut_string)
set_option linter.unusedVariables false

theorem own : ownKnob Try.prog.godebug = none := by kernel_rfl

/-- All bits turned. -/
def ones : BitVec 32 := ~~~0#32

set_option maxHeartbeats 1000000 in
theorem walk (a0 : ByteArray) (w0 : a0.size ≤ maxLen) (w : World) :
    Calls Try.prog 8 #[.string a0] w fun e w' => e = .returned (.bool true) ∧ Below w.heap.size w w' := by
  unfold maxLen at w0
  by_cases hl : a0.size ≤ 600
  · have hl' : decide ((600 : Int) < (a0.size : Int)) = false := by simp; omega
    have hm : ∀ a : BitVec 32, (4294967295 - V a) % 4294967296 = V (~~~a) := fun a => by
      rw [notV]; have := V_lo (~~~a); have := V_hi (~~~a); omega
    have hm' := Lib.hid hm
    clear hm
    go_enter Try.func8, Try.ntmps8
    go_wp2_with fail
    refine (works_any _).mono ?_
    rintro e v1 ⟨rfl, h1⟩
    go_wp2_with fail
    go_loop [4, 5] (fun a i => ∃ k : Nat, k ≤ a0.size ∧ i = .int .i64 k ∧ a = .int .u32 (V (run ones (a0.data.toList.take k)))) (fun _ i => a0.size - (intOf i).toNat)
    case atStart => exact ⟨0, Nat.zero_le _, rfl, rfl⟩
    case round =>
      obtain ⟨k, hk, rfl, rfl⟩ := hrel
      by_cases hlt : k < a0.size
      · have hr := Lib.hid (run_snoc ones a0 k hlt)
        go_wp2_with fail
        refine (step_any _ _ _).mono ?_
        rintro e w' ⟨rfl, rfl⟩
        go_wp2_with fail
        go_round
        case rel => exact ⟨k + 1, by omega, by go_num, by rw [hr.out]⟩
        case measure => simp [intOf]; omega
      · obtain rfl : k = a0.size := by omega
        have hq : V (run ones (a0.data.toList.take a0.size)) = V (~~~(more 0#32 a0.data.toList)) := by
          unfold more ones
          rw [List.take_of_length_le (by simp), BitVec.not_not]
        have hq' := Lib.hid hq
        clear hq
        go_wp2_with fail
        refine (of_any a0 (by omega) _).mono ?_
        rintro e v2 ⟨rfl, h2⟩
        rw [hq'.out]
        have hz := hm'.out (~~~(more 0#32 a0.data.toList))
        rw [BitVec.not_not] at hz
        go_wp2_with fail
        go_ret
        exact ⟨rfl, h1.trans (h2.mono h1.size)⟩
  · have hl' : decide ((600 : Int) < (a0.size : Int)) = true := by simp; omega
    go_enter Try.func8, Try.ntmps8
    go_wp2_with fail
    refine (works_any _).mono ?_
    rintro e v1 ⟨rfl, h1⟩
    go_wp2_with fail
    go_ret
    exact ⟨rfl, h1⟩

set_option maxRecDepth 100000 in
theorem lifted (os : Os) (started : os.Started) (H : Type) (enc : TypeId × Value → H) :
    ReturnsInHanded {} Try.checked os 8 .any (Rows.crcStepsSpec.pre6 enc Try.prog Try.f8 Rows.crcStepsRow.domain false) (Rows.crcStepsSpec.post enc Try.prog Try.f8 false true false false) := by
  refine returnsInHanded_of_change (C := Try.checked) own started (by kernel_rfl) Try.func8
    (ChangeSpec.witness6 (enc := enc) (C := Try.checked) false ⟨#[], #[.string ByteArray.empty], []⟩ 8 (by kernel_rfl) (by kernel_rfl) (by kernel_rfl) (by kernel_rfl)) ?_
  intro W base args ds gs before hval0 hW hcnd _
  have hval : ∀ (j : Nat) t v, Try.f8.params[j]? = some t → args[j]? = some v → Value.okWide Try.prog W .any base t v := hval0
  have hW' := hW
  obtain ⟨p, q, hA0, hV, rfl, hfz, hnd⟩ := hW
  have hA : DataW.TrodAll enc Try.prog W 0 (fun _ => true) true Try.f8.params.toList args.toList ds p := hA0
  rw [Try.params8] at hA hval
  obtain ⟨v0, vs0, d0, ds0, p0, q0, hargs, rfl, rfl, h0, r0⟩ := trodAll_cons hA
  obtain ⟨rfl, rfl, rfl⟩ := trodAll_nil r0
  obtain rfl : args = #[v0] := by cases args; simp_all
  obtain ⟨rfl, rfl⟩ := trodVars_none hV
  obtain ⟨a0, rfl, rfl, rfl, w0⟩ := open_string Try.underlying9 (hval 0 9 v0 rfl rfl) h0
  clear hA0 hval0
  simp only [List.append_nil] at hW'
  refine (walk a0 w0 W).mono fun e W' ⟨he, bel⟩ => ?_
  subst he
  exact ⟨_, rfl, _, _, _, [], [], [], hW', (trodAll_cons_mk (shut_bool Try.underlying4 _) trodAll_mk0), (trodAll_cons_mk (shut_string Try.underlying9 w0) trodAll_mk0), rfl, bel.frame _, fun h => by cases h⟩

theorem over : Rows.crcStepsRow.holds Try.pinned (OpenSpec.ofChange Rows.crcStepsSpec) :=
  OpenClaim.holds_of_wide 8 Try.f8 rfl rfl rfl rfl rfl rfl rfl ⟨rfl, rfl, rfl, rfl, rfl⟩ rfl rfl rfl rfl rfl (by kernel_rfl) Try.func8 (by kernel_rfl)
    (of_decide_eq_true (by kernel_rfl)) (by unfold Func.isWrapper; first | (rw [if_pos (by decide +kernel)]; kernel_rfl) | (rw [if_neg (by decide +kernel)]; exact ⟨rfl, rfl⟩))
    (fun os started H enc _ => lifted os started H enc)

/-- The given statement. -/
theorem crcSteps_proved : Rows.CrcStepsSaid :=
  over
#print axioms crcSteps_proved
end Go.Proofs.Ytcfifhanhkjdmaa.crcSteps
