/-
  For every two texts ShaPads returns true: what is padded is a multiple of 64 bytes long, begins with the bytes, and is of no other bytes.
  Conditions: none beyond the given statement's own.
-/
import Derived.Test.YtfebhemlbnpmhaaRows
import Derived.Test.YtfebhemlbnpmhaaWorks
import Derived.Test.YtfebhemlbnpmhaaPadded
import Derived.WalkKit
import Derived.ProofKit
import Derived.OpenShut
import Derived.ShutString
import Derived.ChangeOld
import Derived.Below
namespace Go.Proofs.Ytfebhemlbnpmhaa.shaPads
open Go.ChangeShapes Go.WideShapes Go.ChangeAt Go.RowKit
open Go.ChangeMaps (open_string shut_string)
set_option linter.unusedVariables false

theorem own : ownKnob Try.prog.godebug = none := by kernel_rfl

theorem pad_inj (l m : List UInt8) (h : pad l = pad m) (hl : l.length ≤ 2000) (hm : m.length ≤ 2000) : l = m := by
  have hlen : l.length = m.length := by
    have e := congrArg List.length h
    have key : ∀ k, k < 8 → l.length * 8 / 256 ^ (7 - k) % 256 = m.length * 8 / 256 ^ (7 - k) % 256 := fun k hk => by
      have h1 := pad_last l k hk
      have h2 := pad_last m k hk
      rw [h, h2] at h1
      have h3 := congrArg UInt8.toNat h1
      rw [UInt8.toNat_ofNat', UInt8.toNat_ofNat'] at h3
      omega
    have k6 := key 6 (by omega)
    have k7 := key 7 (by omega)
    simp at k6 k7
    omega
  have e1 : (pad l).take l.length = l := by unfold pad; rw [List.append_assoc, List.append_assoc, List.take_append_of_le_length (Nat.le_refl _), List.take_length]
  have e2 : (pad m).take m.length = m := by unfold pad; rw [List.append_assoc, List.append_assoc, List.take_append_of_le_length (Nat.le_refl _), List.take_length]
  rw [← e1, ← e2, h, hlen]
theorem pad_take (l : List UInt8) : (pad l).take l.length = l := by unfold pad; rw [List.append_assoc, List.append_assoc, List.take_append_of_le_length (Nat.le_refl _), List.take_length]
set_option maxHeartbeats 1000000 in
theorem walkSmall (a0 a1 : ByteArray) (hl0 : a0.size ≤ 2000) (hl1 : a1.size ≤ 2000) (w : World) :
    Calls Try.prog 4 #[.string a0, .string a1] w fun e w' => e = .returned (.bool true) ∧ Below w.heap.size w w' := by
  have hl0' : decide ((2000 : Int) < (a0.size : Int)) = false := by simp; omega
  have hl1' : decide ((2000 : Int) < (a1.size : Int)) = false := by simp; omega
  obtain ⟨PA, hPA⟩ : ∃ PA, ByteArray.mk (pad a0.data.toList).toArray = PA := ⟨_, rfl⟩
  obtain ⟨PB, hPB⟩ : ∃ PB, ByteArray.mk (pad a1.data.toList).toArray = PB := ⟨_, rfl⟩
  have hps : PA.size = a0.size + 1 + zer a0.size + 8 := by
    rw [← hPA]; show (pad a0.data.toList).toArray.size = _
    rw [List.size_toArray, pad_length, size_list]
  have hz : zer a0.size < 64 := Nat.mod_lt _ (by decide)
  have hm64 : PA.size % 64 = 0 := by
    rw [← hPA]; show (pad a0.data.toList).toArray.size % 64 = 0
    rw [List.size_toArray]; exact pad_mod _
  have hdA : PA.data.toList = pad a0.data.toList := by rw [← hPA]
  have hdB : PB.data.toList = pad a1.data.toList := by rw [← hPB]
  have padA := Lib.hid (fun v => pad_any a0 (by omega) v)
  have padB := Lib.hid (fun v => pad_any a1 (by omega) v)
  rw [hPA] at padA
  rw [hPB] at padB
  have f1 : ((PA.size : Int) % 64 == 0) = true := by rw [beq_iff_eq]; omega
  have f2 : decide ((a0.size : Int) + 9 ≤ (PA.size : Int)) = true := by simp; omega
  have f3 : decide ((PA.size : Int) < (a0.size : Int) + 73) = true := by simp; omega
  have f4 : ((PA.extract 0 a0.size).toList == a0.toList) = true := by
    rw [beq_iff_eq, toList_data, toList_data, extract_list, hdA, ← size_list, pad_take]; rfl
  have f5 : a0.size < PA.size := by omega
  have f6 := gof_at PA a0.size f5
  have f7 : gof PA a0.size = 128 := by unfold gof; rw [hdA, ← size_list, pad_one]
  rw [f7] at f6
  have f8 : ∃ r : Bool, (PA.toList == PB.toList) = r ∧ (a0.toList == a1.toList) = r := by
    refine ⟨_, rfl, ?_⟩
    rw [Bool.eq_iff_iff, beq_iff_eq, beq_iff_eq, toList_data, toList_data, toList_data, toList_data, hdA, hdB]
    exact ⟨fun h => by rw [h], fun h => pad_inj _ _ h (by rw [size_list]; exact hl0) (by rw [size_list]; exact hl1)⟩
  obtain ⟨r, f9, f10⟩ := f8
  have hp2 : PA.size ≤ 2100 := by omega
  have f11 : (a0.size : Int) ≤ (PA.size : Int) := by omega
  clear hPA hPB hps hz hm64 hdA hdB f7
  go_enter Try.func4, Try.ntmps4
  go_wp2_with fail
  refine (works_any _).mono ?_
  rintro e v1 ⟨rfl, h1⟩
  go_wp2_with fail
  refine (padA.out _).mono ?_
  rintro e v2 ⟨rfl, h2⟩
  go_wp2_with fail
  refine (padB.out _).mono ?_
  rintro e v3 ⟨rfl, h3⟩
  go_wp2_with fail
  go_ret
  have b2 := h1.trans (h2.mono h1.size)
  exact ⟨by cases r <;> rfl, b2.trans (h3.mono b2.size)⟩
theorem walk (a0 a1 : ByteArray) (w0 : a0.size ≤ maxLen) (w1 : a1.size ≤ maxLen) (w : World) :
    Calls Try.prog 4 #[.string a0, .string a1] w fun e w' => e = .returned (.bool true) ∧ Below w.heap.size w w' := by
  unfold maxLen at w0 w1
  by_cases hl : a0.size ≤ 2000
  · by_cases hk : a1.size ≤ 2000
    · exact walkSmall a0 a1 hl hk w
    · have hl' : decide ((2000 : Int) < (a0.size : Int)) = false := by simp; omega
      have hk' : decide ((2000 : Int) < (a1.size : Int)) = true := by simp; omega
      go_enter Try.func4, Try.ntmps4
      go_wp2_with fail
      refine (works_any _).mono ?_
      rintro e v1 ⟨rfl, h1⟩
      go_wp2_with fail
      go_ret
      exact ⟨rfl, h1⟩
  · have hl' : decide ((2000 : Int) < (a0.size : Int)) = true := by simp; omega
    go_enter Try.func4, Try.ntmps4
    go_wp2_with fail
    refine (works_any _).mono ?_
    rintro e v1 ⟨rfl, h1⟩
    go_wp2_with fail
    go_ret
    exact ⟨rfl, h1⟩

set_option maxRecDepth 100000 in
theorem lifted (os : Os) (started : os.Started) (H : Type) (enc : TypeId × Value → H) :
    ReturnsInHanded {} Try.checked os 4 .any (Rows.shaPadsSpec.pre6 enc Try.prog Try.f4 Rows.shaPadsRow.domain false) (Rows.shaPadsSpec.post enc Try.prog Try.f4 false true false false) := by
  refine returnsInHanded_of_change (C := Try.checked) own started (by kernel_rfl) Try.func4
    (ChangeSpec.witness6 (enc := enc) (C := Try.checked) false ⟨#[], #[.string ByteArray.empty, .string ByteArray.empty], []⟩ 8 (by kernel_rfl) (by kernel_rfl) (by kernel_rfl) (by kernel_rfl)) ?_
  intro W base args ds gs before hval0 hW hcnd _
  have hval : ∀ (j : Nat) t v, Try.f4.params[j]? = some t → args[j]? = some v → Value.okWide Try.prog W .any base t v := hval0
  have hW' := hW
  obtain ⟨p, q, hA0, hV, rfl, hfz, hnd⟩ := hW
  have hA : DataW.TrodAll enc Try.prog W 0 (fun _ => true) true Try.f4.params.toList args.toList ds p := hA0
  rw [Try.params4] at hA hval
  obtain ⟨v0, vs0, d0, ds0, p0, q0, hargs, rfl, rfl, h0, r0⟩ := trodAll_cons hA
  obtain ⟨v1, vs1, d1, ds1, p1, q1, rfl, rfl, rfl, h1, r1⟩ := trodAll_cons r0
  obtain ⟨rfl, rfl, rfl⟩ := trodAll_nil r1
  obtain rfl : args = #[v0, v1] := by cases args; simp_all
  obtain ⟨rfl, rfl⟩ := trodVars_none hV
  obtain ⟨a0, rfl, rfl, rfl, w0⟩ := open_string Try.underlying9 (hval 0 9 v0 rfl rfl) h0
  obtain ⟨a1, rfl, rfl, rfl, w1⟩ := open_string Try.underlying9 (hval 1 9 v1 rfl rfl) h1
  clear hA0 hval0
  simp only [List.append_nil] at hW'
  refine (walk a0 a1 w0 w1 W).mono fun e W' ⟨he, bel⟩ => ?_
  subst he
  exact ⟨_, rfl, _, _, _, [], [], [], hW', (trodAll_cons_mk (shut_bool Try.underlying4 _) trodAll_mk0), (trodAll_cons_mk (shut_string Try.underlying9 w0) (trodAll_cons_mk (shut_string Try.underlying9 w1) trodAll_mk0)), rfl, bel.frame _, fun h => by cases h⟩

theorem over : Rows.shaPadsRow.holds Try.pinned (OpenSpec.ofChange Rows.shaPadsSpec) :=
  OpenClaim.holds_of_wide 4 Try.f4 rfl rfl rfl rfl rfl rfl rfl ⟨rfl, rfl, rfl, rfl, rfl⟩ rfl rfl rfl rfl rfl (by kernel_rfl) Try.func4 (by kernel_rfl)
    (of_decide_eq_true (by kernel_rfl)) (by unfold Func.isWrapper; first | (rw [if_pos (by decide +kernel)]; kernel_rfl) | (rw [if_neg (by decide +kernel)]; exact ⟨rfl, rfl⟩))
    (fun os started H enc _ => lifted os started H enc)

/-- The given statement. -/
theorem shaPads_proved : Rows.ShaPadsSaid :=
  over
#print axioms shaPads_proved
end Go.Proofs.Ytfebhemlbnpmhaa.shaPads
