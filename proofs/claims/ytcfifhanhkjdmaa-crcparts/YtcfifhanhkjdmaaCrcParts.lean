/-
  For every two texts CrcParts returns true: bytes in two parts are as a whole.
  Conditions: none beyond the given statement's own.
-/
import Derived.Test.YtcfifhanhkjdmaaRows
import Derived.Test.YtcfifhanhkjdmaaWorks
import Derived.WalkKit
import Derived.ProofKit
import Derived.OpenShut
import Derived.ShutString
import Derived.ChangeOld
import Derived.Below
namespace Go.Proofs.Ytcfifhanhkjdmaa.crcParts
open Go.ChangeShapes Go.WideShapes Go.ChangeAt Go.RowKit
open Go.ChangeMaps (open_string shut_string)
set_option linter.unusedVariables false

theorem own : ownKnob Try.prog.godebug = none := by kernel_rfl

theorem more_nil (c : BitVec 32) : more c (({ data := #[] } : ByteArray).data.toList) = c := by
  show ~~~(~~~c) = c
  rw [BitVec.not_not]

theorem append_list (a b : ByteArray) : (a ++ b).data.toList = a.data.toList ++ b.data.toList := by
  rw [ByteArray.data_append, Array.toList_append]

set_option maxHeartbeats 1000000 in
theorem walk (a0 : ByteArray) (a1 : ByteArray) (w0 : a0.size ≤ maxLen) (w1 : a1.size ≤ maxLen) (w : World) :
    Calls Try.prog 5 #[.string a0, .string a1] w fun e w' => e = .returned (.bool true) ∧ Below w.heap.size w w' := by
  unfold maxLen at w0 w1
  by_cases hl : a0.size ≤ 600
  · have hl' : decide ((600 : Int) < (a0.size : Int)) = false := by simp; omega
    by_cases hk : a1.size ≤ 600
    · have hk' : decide ((600 : Int) < (a1.size : Int)) = false := by simp; omega
      have e1 : V (more 0#32 (a0 ++ a1).data.toList) = V (more (more 0#32 a0.data.toList) a1.data.toList) := by rw [append_list, more_append]
      have e1' := Lib.hid e1
      clear e1
      go_enter Try.func5, Try.ntmps5
      go_wp2_with fail
      refine (works_any _).mono ?_
      rintro e v1 ⟨rfl, h1⟩
      go_wp2_with fail
      refine (of_any (a0 ++ a1) (by rw [ByteArray.size_append]; omega) _).mono ?_
      rintro e v2 ⟨rfl, h2⟩
      rw [e1'.out]
      go_wp2_with fail
      refine (of_any a0 (by omega) _).mono ?_
      rintro e v3 ⟨rfl, h3⟩
      go_wp2_with fail
      refine (more_any _ a1 (by omega) _).mono ?_
      rintro e v4 ⟨rfl, h4⟩
      go_wp2_with fail
      refine (of_any a0 (by omega) _).mono ?_
      rintro e v5 ⟨rfl, h5⟩
      go_wp2_with fail
      refine (more_any _ ⟨#[]⟩ (by decide) _).mono ?_
      rintro e v6 ⟨rfl, h6⟩
      rw [more_nil]
      go_wp2_with fail
      refine (of_any a0 (by omega) _).mono ?_
      rintro e v7 ⟨rfl, h7⟩
      go_wp2_with fail
      refine (of_any ⟨#[]⟩ (by decide) _).mono ?_
      rintro e v8 ⟨rfl, h8⟩
      rw [more_nil, V_zero]
      go_wp2_with fail
      go_ret
      have b2 := h1.trans (h2.mono h1.size)
      have b3 := b2.trans (h3.mono b2.size)
      have b4 := b3.trans (h4.mono b3.size)
      have b5 := b4.trans (h5.mono b4.size)
      have b6 := b5.trans (h6.mono b5.size)
      have b7 := b6.trans (h7.mono b6.size)
      exact ⟨rfl, b7.trans (h8.mono b7.size)⟩
    · have hk' : decide ((600 : Int) < (a1.size : Int)) = true := by simp; omega
      go_enter Try.func5, Try.ntmps5
      go_wp2_with fail
      refine (works_any _).mono ?_
      rintro e v1 ⟨rfl, h1⟩
      go_wp2_with fail
      go_ret
      exact ⟨rfl, h1⟩
  · have hl' : decide ((600 : Int) < (a0.size : Int)) = true := by simp; omega
    go_enter Try.func5, Try.ntmps5
    go_wp2_with fail
    refine (works_any _).mono ?_
    rintro e v1 ⟨rfl, h1⟩
    go_wp2_with fail
    go_ret
    exact ⟨rfl, h1⟩

set_option maxRecDepth 100000 in
theorem lifted (os : Os) (started : os.Started) (H : Type) (enc : TypeId × Value → H) :
    ReturnsInHanded {} Try.checked os 5 .any (Rows.crcPartsSpec.pre6 enc Try.prog Try.f5 Rows.crcPartsRow.domain false) (Rows.crcPartsSpec.post enc Try.prog Try.f5 false true false false) := by
  refine returnsInHanded_of_change (C := Try.checked) own started (by kernel_rfl) Try.func5
    (ChangeSpec.witness6 (enc := enc) (C := Try.checked) false ⟨#[], #[.string ByteArray.empty, .string ByteArray.empty], []⟩ 8 (by kernel_rfl) (by kernel_rfl) (by kernel_rfl) (by kernel_rfl)) ?_
  intro W base args ds gs before hval0 hW hcnd _
  have hval : ∀ (j : Nat) t v, Try.f5.params[j]? = some t → args[j]? = some v → Value.okWide Try.prog W .any base t v := hval0
  have hW' := hW
  obtain ⟨p, q, hA0, hV, rfl, hfz, hnd⟩ := hW
  have hA : DataW.TrodAll enc Try.prog W 0 (fun _ => true) true Try.f5.params.toList args.toList ds p := hA0
  rw [Try.params5] at hA hval
  obtain ⟨v0, vs0, d0, ds0, p0, q0, hargs, rfl, rfl, h0, r0⟩ := trodAll_cons hA
  obtain ⟨v1, vs1, d1, ds1, p1, q1, rfl, rfl, rfl, h1, r1⟩ := trodAll_cons r0
  obtain ⟨rfl, rfl, rfl⟩ := trodAll_nil r1
  obtain rfl : args = #[v0, v1] := by cases args; simp_all
  obtain ⟨rfl, rfl⟩ := trodVars_none hV
  obtain ⟨a0, rfl, rfl, rfl, w0⟩ := open_string Try.underlying9 (hval 0 9 v0 rfl rfl) h0
  obtain ⟨a1, rfl, rfl, rfl, w1⟩ := open_string Try.underlying9 (hval 1 9 v1 rfl rfl) h1
  clear hA0 hval0
  simp only [List.append_nil] at hW'
  refine (walk a0 a1 w0 w1 W).mono fun e W' ⟨he, bel⟩ => ?_
  subst he
  exact ⟨_, rfl, _, _, _, [], [], [], hW', (trodAll_cons_mk (shut_bool Try.underlying4 _) trodAll_mk0), (trodAll_cons_mk (shut_string Try.underlying9 w0) (trodAll_cons_mk (shut_string Try.underlying9 w1) trodAll_mk0)), rfl, bel.frame _, fun h => by cases h⟩

theorem over : Rows.crcPartsRow.holds Try.pinned (OpenSpec.ofChange Rows.crcPartsSpec) :=
  OpenClaim.holds_of_wide 5 Try.f5 rfl rfl rfl rfl rfl rfl rfl ⟨rfl, rfl, rfl, rfl, rfl⟩ rfl rfl rfl rfl rfl (by kernel_rfl) Try.func5 (by kernel_rfl)
    (of_decide_eq_true (by kernel_rfl)) (by unfold Func.isWrapper; first | (rw [if_pos (by decide +kernel)]; kernel_rfl) | (rw [if_neg (by decide +kernel)]; exact ⟨rfl, rfl⟩))
    (fun os started H enc _ => lifted os started H enc)

/-- The given statement. -/
theorem crcParts_proved : Rows.CrcPartsSaid :=
  over
#print axioms crcParts_proved
end Go.Proofs.Ytcfifhanhkjdmaa.crcParts
