/-
  What More and Of, of the program and of the reference, return: for every check and every text of at most 4000 bytes.
-/
import Derived.Test.YtcfifhanhkjdmaaTable
namespace Go.Proofs.Ytcfifhanhkjdmaa
open Go.RowKit

set_option maxHeartbeats 400000 in
theorem more_any (c : BitVec 32) (s : ByteArray) (hs : s.size ≤ 4000) (w : World) :
    Calls Try.prog 13 #[.int .u32 (V c), .string s] w fun e w' => e = .returned (.int .u32 (V (more c s.data.toList))) ∧ Below w.heap.size w w' := by
  go_enter Try.func13, Try.ntmps13
  go_wp2_with fail
  refine (table_any _).mono ?_
  rintro e w1 ⟨rfl, hg⟩
  go_wp2_with fail
  have hA := tab_at
  revert hA
  generalize (#[.int .u32 (T 0), .int .u32 (T 1), .int .u32 (T 2), .int .u32 (T 3), .int .u32 (T 4), .int .u32 (T 5), .int .u32 (T 6), .int .u32 (T 7), .int .u32 (T 8), .int .u32 (T 9), .int .u32 (T 10), .int .u32 (T 11), .int .u32 (T 12), .int .u32 (T 13), .int .u32 (T 14), .int .u32 (T 15)] : Array Value) = A
  intro hA0
  have hA := Lib.hid hA0
  clear hA0
  go_loop [0, 12] (fun a i => ∃ k : Nat, k ≤ s.size ∧ i = .int .i64 k ∧ a = .int .u32 (V (run (~~~c) (s.data.toList.take k)))) (fun _ i => s.size - (intOf i).toNat)
  case atStart => exact ⟨0, Nat.zero_le _, rfl, u32_eq (by rw [max_u32, xor_ones]; rfl)⟩
  case round =>
    obtain ⟨k, hk, rfl, rfl⟩ := hrel
    by_cases hlt : k < s.size
    · obtain ⟨x, y, i, j, hi, hj, r0, r1, r2, r3, r4, r5⟩ := nibs_of (run (~~~c) (s.data.toList.take k)) s[k]
      rw [← run_snoc] at r5
      have r5' := Lib.hid r5
      clear r5
      have c1 := hA.out i hi
      have c2 := hA.out j hj
      go_wp2_with fail
      go_round
      case rel => exact ⟨k + 1, by omega, by go_num, u32_eq r5'.out⟩
      case measure => simp [intOf]; omega
    · obtain rfl : k = s.size := by omega
      go_wp2_with fail
      go_ret
      refine ⟨ret_u32 ?_, hg.alloc hg.size _⟩
      rw [max_u32, xor_ones]
      unfold more
      rw [List.take_of_length_le (by simp)]

set_option maxHeartbeats 400000 in
theorem rmore_any (c : BitVec 32) (s : ByteArray) (hs : s.size ≤ 4000) (w : World) :
    Calls Try.prog 14 #[.int .u32 (V c), .string s] w fun e w' => e = .returned (.int .u32 (V (more c s.data.toList))) ∧ w = w' := by
  have hm : ∀ a : BitVec 32, (4294967295 - V a) % 4294967296 = V (~~~a) := fun a => by
    rw [notV]; have := V_lo (~~~a); have := V_hi (~~~a); omega
  have hm' := Lib.hid hm
  clear hm
  go_enter Try.func14, Try.ntmps14
  go_wp2_with fail
  go_loop [0, 5] (fun a i => ∃ k : Nat, k ≤ s.size ∧ i = .int .i64 k ∧ a = .int .u32 (V (run (~~~c) (s.data.toList.take k)))) (fun _ i => s.size - (intOf i).toNat)
  case atStart => exact ⟨0, Nat.zero_le _, rfl, u32_eq (hm'.out c)⟩
  case round =>
    obtain ⟨k, hk, rfl, rfl⟩ := hrel
    by_cases hlt : k < s.size
    · have hr := Lib.hid (run_snoc (~~~c) s k hlt)
      go_wp2_with fail
      refine (rstep_any _ _ _).mono ?_
      rintro e w' ⟨rfl, rfl⟩
      go_wp2_with fail
      go_round
      case rel => exact ⟨k + 1, by omega, by go_num, by rw [hr.out]⟩
      case measure => simp [intOf]; omega
    · obtain rfl : k = s.size := by omega
      go_wp2_with fail
      go_ret
      refine ⟨ret_u32 ?_, rfl⟩
      rw [hm'.out]
      unfold more
      rw [List.take_of_length_le (by simp)]

theorem V_zero : V 0#32 = 0 := rfl

set_option maxHeartbeats 400000 in
theorem of_any (s : ByteArray) (hs : s.size ≤ 4000) (w : World) :
    Calls Try.prog 11 #[.string s] w fun e w' => e = .returned (.int .u32 (V (more 0#32 s.data.toList))) ∧ Below w.heap.size w w' := by
  go_enter Try.func11, Try.ntmps11
  go_wp2_with fail
  rw [← V_zero]
  refine (more_any _ _ hs _).mono ?_
  rintro e w' ⟨rfl, hb⟩
  go_wp2_with fail
  go_ret
  exact ⟨rfl, hb⟩

set_option maxHeartbeats 400000 in
theorem rof_any (s : ByteArray) (hs : s.size ≤ 4000) (w : World) :
    Calls Try.prog 12 #[.string s] w fun e w' => e = .returned (.int .u32 (V (more 0#32 s.data.toList))) ∧ w = w' := by
  go_enter Try.func12, Try.ntmps12
  go_wp2_with fail
  rw [← V_zero]
  refine (rmore_any _ _ hs _).mono ?_
  rintro e w' ⟨rfl, rfl⟩
  go_wp2_with fail
  go_ret
  exact ⟨rfl, rfl⟩

end Go.Proofs.Ytcfifhanhkjdmaa
