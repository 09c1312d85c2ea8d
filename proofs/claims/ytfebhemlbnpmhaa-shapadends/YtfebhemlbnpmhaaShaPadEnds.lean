/-
  For every text ShaPadEnds returns true: what is padded ends with how many bits there were, and between there is one byte 128, and 0.
  Conditions: none beyond the given statement's own.
-/
import Derived.Test.YtfebhemlbnpmhaaRows
import Derived.Test.YtfebhemlbnpmhaaWorks
import Derived.Test.YtfebhemlbnpmhaaPadded
import Derived.WalkKit
import Derived.ProofKit
import Derived.OpenShut
import Derived.ShutString
import Derived.ChangeOld
import Derived.Below
namespace Go.Proofs.Ytfebhemlbnpmhaa.shaPadEnds
open Go.ChangeShapes Go.WideShapes Go.ChangeAt Go.RowKit
open Go.ChangeMaps (open_string shut_string)
set_option linter.unusedVariables false

theorem own : ownKnob Try.prog.godebug = none := by kernel_rfl

theorem gof_pad (l : List UInt8) (i : Nat) : gof ⟨(pad l).toArray⟩ i = (pad l).getD i 0 := rfl
set_option maxHeartbeats 1000000 in
theorem walkSmall (a0 : ByteArray) (hl : a0.size ≤ 2000) (w : World) :
    Calls Try.prog 7 #[.string a0] w fun e w' => e = .returned (.bool true) ∧ Below w.heap.size w w' := by
  have hl' : decide ((2000 : Int) < (a0.size : Int)) = false := by simp; omega
  obtain ⟨PB, hPB⟩ : ∃ PB, ByteArray.mk (pad a0.data.toList).toArray = PB := ⟨_, rfl⟩
  have hps : PB.size = a0.size + 1 + zer a0.size + 8 := by
    rw [← hPB]; show (pad a0.data.toList).toArray.size = _
    rw [List.size_toArray, pad_length, size_list]
  have hz : zer a0.size < 64 := Nat.mod_lt _ (by decide)
  have hg : ∀ i, gof PB i = (pad a0.data.toList).getD i 0 := fun i => by rw [← hPB]; rfl
  have hpl : (pad a0.data.toList).length = PB.size := by rw [← hPB]; show _ = (pad a0.data.toList).toArray.size; simp
  have hpad := Lib.hid (fun v => pad_any a0 (by omega) v)
  rw [hPB] at hpad
  have hone : gof PB a0.size = 128 := by rw [hg, ← size_list, pad_one]
  have hmid : Hid (∀ i, a0.size + 1 ≤ i → i + 8 < PB.size → gof PB i = 0) := fun i h1 h2 => by rw [hg]; exact pad_mid _ _ (by rw [size_list]; exact h1) (by rw [hpl]; exact h2)
  have hlast : Hid (∀ k, k < 8 → (gof PB (PB.size - 8 + k)).toNat = a0.size * 8 / 256 ^ (7 - k) % 256) := fun k h => by
    rw [hg, ← hpl, pad_last _ k h, size_list, UInt8.toNat_ofNat']; omega
  have hn0 := Lib.hid (nv_zero (a0.size * 8) (by omega))
  have hn8 := Lib.hid (nv_eight (a0.size * 8))
  have hp1 : a0.size + 9 ≤ PB.size := by omega
  have hp2 : PB.size ≤ 2100 := by omega
  have hP1 : ¬ (PB.size : Int) < (a0.size : Int) + 9 := by omega
  have hone' := Lib.hid hone
  clear hPB hps hz hg hpl hone
  go_enter Try.func7, Try.ntmps7
  go_wp2_with fail
  refine (works_any _).mono ?_
  rintro e v1 ⟨rfl, h1⟩
  go_wp2_with fail
  refine (hpad.out _).mono ?_
  rintro e v2 ⟨rfl, h2⟩
  go_wp2_with fail
  go_loop [5, 6] (fun n i => ∃ k : Nat, k ≤ 8 ∧ i = .int .i64 ((PB.size : Int) - 8 + (k : Int)) ∧ n = .int .i64 (nv (a0.size * 8) k : Int)) (fun _ i => PB.size - (intOf i).toNat)
  case atStart => exact ⟨0, by omega, by simp, by rw [hn0.out]; rfl⟩
  case round =>
    obtain ⟨k, hk, rfl, rfl⟩ := hrel
    by_cases hlt : k < 8
    · have b1 : (PB.size : Int) - 8 + (k : Int) < (PB.size : Int) := by omega
      have b2 : ((PB.size : Int) - 8 + (k : Int)).toNat = PB.size - 8 + k := by omega
      have b3 : PB.size - 8 + k < PB.size := by omega
      have b4 := gof_at PB (PB.size - 8 + k) b3
      have b5 := Lib.hid (nv_step (a0.size * 8) k hlt)
      have b6 := nv_le (a0.size * 8) k
      have b7 := Lib.hid (hlast.out k hlt)
      obtain ⟨x, hx⟩ : ∃ x, gof PB (PB.size - 8 + k) = x := ⟨_, rfl⟩
      rw [hx] at b4 b7
      have b8 := x.toNat_lt
      clear hx
      go_wp2_with fail
      go_round
      case rel => exact ⟨k + 1, by omega, by go_num, by rw [b5.out, ← b7.out]; go_num⟩
      case measure => simp [intOf]; omega
    · obtain rfl : k = 8 := by omega
      rw [hn8.out, show (PB.size : Int) - 8 + ((8 : Nat) : Int) = (PB.size : Int) by omega]
      go_wp2_with fail
      go_loop [7] (fun i => ∃ k : Nat, a0.size + 1 ≤ k ∧ k ≤ PB.size - 8 ∧ i = .int .i64 (k : Int)) (fun i => PB.size - (intOf i).toNat)
      case atStart => exact ⟨a0.size + 1, by omega, by omega, by go_num⟩
      case round =>
        obtain ⟨k, hk1, hk2, rfl⟩ := hrel
        by_cases hlt2 : k + 8 < PB.size
        · have c1 : (k : Int) < (PB.size : Int) - 8 := by omega
          have c2 : k < PB.size := by omega
          have c3 := gof_at PB k c2
          rw [hmid.out k hk1 hlt2] at c3
          go_wp2_with fail
          go_round
          case rel => exact ⟨k + 1, by omega, by omega, by go_num⟩
          case measure => simp [intOf]; omega
        · have c1 : ¬ (k : Int) < (PB.size : Int) - 8 := by omega
          have c2 : a0.size < PB.size := by omega
          have c3 := gof_at PB a0.size c2
          rw [hone'.out] at c3
          have c4 : (((a0.size * 8 : Nat) : Int) == 8 * (a0.size : Int)) = true := by rw [beq_iff_eq]; omega
          go_wp2_with fail
          go_ret
          exact ⟨rfl, h1.trans (h2.mono h1.size)⟩
theorem walk (a0 : ByteArray) (w0 : a0.size ≤ maxLen) (w : World) :
    Calls Try.prog 7 #[.string a0] w fun e w' => e = .returned (.bool true) ∧ Below w.heap.size w w' := by
  unfold maxLen at w0
  by_cases hl : a0.size ≤ 2000
  · exact walkSmall a0 hl w
  · have hl' : decide ((2000 : Int) < (a0.size : Int)) = true := by simp; omega
    go_enter Try.func7, Try.ntmps7
    go_wp2_with fail
    refine (works_any _).mono ?_
    rintro e v1 ⟨rfl, h1⟩
    go_wp2_with fail
    go_ret
    exact ⟨rfl, h1⟩

set_option maxRecDepth 100000 in
theorem lifted (os : Os) (started : os.Started) (H : Type) (enc : TypeId × Value → H) :
    ReturnsInHanded {} Try.checked os 7 .any (Rows.shaPadEndsSpec.pre6 enc Try.prog Try.f7 Rows.shaPadEndsRow.domain false) (Rows.shaPadEndsSpec.post enc Try.prog Try.f7 false true false false) := by
  refine returnsInHanded_of_change (C := Try.checked) own started (by kernel_rfl) Try.func7
    (ChangeSpec.witness6 (enc := enc) (C := Try.checked) false ⟨#[], #[.string ByteArray.empty], []⟩ 8 (by kernel_rfl) (by kernel_rfl) (by kernel_rfl) (by kernel_rfl)) ?_
  intro W base args ds gs before hval0 hW hcnd _
  have hval : ∀ (j : Nat) t v, Try.f7.params[j]? = some t → args[j]? = some v → Value.okWide Try.prog W .any base t v := hval0
  have hW' := hW
  obtain ⟨p, q, hA0, hV, rfl, hfz, hnd⟩ := hW
  have hA : DataW.TrodAll enc Try.prog W 0 (fun _ => true) true Try.f7.params.toList args.toList ds p := hA0
  rw [Try.params7] at hA hval
  obtain ⟨v0, vs0, d0, ds0, p0, q0, hargs, rfl, rfl, h0, r0⟩ := trodAll_cons hA
  obtain ⟨rfl, rfl, rfl⟩ := trodAll_nil r0
  obtain rfl : args = #[v0] := by cases args; simp_all
  obtain ⟨rfl, rfl⟩ := trodVars_none hV
  obtain ⟨a0, rfl, rfl, rfl, w0⟩ := open_string Try.underlying9 (hval 0 9 v0 rfl rfl) h0
  clear hA0 hval0
  simp only [List.append_nil] at hW'
  refine (walk a0 w0 W).mono fun e W' ⟨he, bel⟩ => ?_
  subst he
  exact ⟨_, rfl, _, _, _, [], [], [], hW', (trodAll_cons_mk (shut_bool Try.underlying4 _) trodAll_mk0), (trodAll_cons_mk (shut_string Try.underlying9 w0) trodAll_mk0), rfl, bel.frame _, fun h => by cases h⟩

theorem over : Rows.shaPadEndsRow.holds Try.pinned (OpenSpec.ofChange Rows.shaPadEndsSpec) :=
  OpenClaim.holds_of_wide 7 Try.f7 rfl rfl rfl rfl rfl rfl rfl ⟨rfl, rfl, rfl, rfl, rfl⟩ rfl rfl rfl rfl rfl (by kernel_rfl) Try.func7 (by kernel_rfl)
    (of_decide_eq_true (by kernel_rfl)) (by unfold Func.isWrapper; first | (rw [if_pos (by decide +kernel)]; kernel_rfl) | (rw [if_neg (by decide +kernel)]; exact ⟨rfl, rfl⟩))
    (fun os started H enc _ => lifted os started H enc)

/-- The given statement. -/
theorem shaPadEnds_proved : Rows.ShaPadEndsSaid :=
  over
#print axioms shaPadEnds_proved
end Go.Proofs.Ytfebhemlbnpmhaa.shaPadEnds
