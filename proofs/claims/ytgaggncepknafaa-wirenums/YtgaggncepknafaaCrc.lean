/-
  What halve, table, More and Of of crc return, and the reference's Step, More and Of: for every check and every text that a string may be.
-/
import Derived.Test.YtgaggncepknafaaRows
import Derived.Test.YtgaggncepknafaaWords
import Derived.WalkKit
import Derived.WalkSpells
import Derived.WalkLawsBesides
import Derived.Handy
import Derived.Lib.Hide
import Derived.Laws.IdiomStrings
import Derived.Lib.OthersKept
import Derived.BigQuiet
import Derived.Deep.QuietTactic
namespace Go.Proofs.Ytgaggncepknafaa
open Go.RowKit

set_option maxHeartbeats 400000 in
theorem halve_any (c : BitVec 32) (n : Nat) (hn : n ≤ 32) (w : World) :
    Calls Try.prog 49 #[.int .u32 (V c), .int .i64 n] w fun e w' => e = .returned (.int .u32 (V (hv n c))) ∧ w = w' := by
  go_enter Try.func49, Try.ntmps49
  go_wp2
  go_loop [0, 6] (fun a i => ∃ k : Nat, k ≤ n ∧ i = .int .i64 k ∧ a = .int .u32 (V (hv k c))) (fun _ i => n - (intOf i).toNat)
  case atStart => exact ⟨0, Nat.zero_le _, rfl, rfl⟩
  case round =>
    obtain ⟨k, hk, rfl, rfl⟩ := hrel
    by_cases hlt : k < n
    · cases hb : (hv k c).getLsbD 0
      · have h1 : (bits .and .u32 (V (hv k c)) 1 == 0) = true := by rw [and1, hb]; rfl
        have hs : Hid (V (hv k c) / 2 = V (hv (k + 1) c)) := by show _ = V (hv1 _); rw [hv1_even _ hb, shr1]
        clear hb
        go_wp2
        go_round
        case rel => exact ⟨k + 1, by omega, by go_num, u32_eq hs.out⟩
        case measure => simp [intOf]; omega
      · have h1 : (bits .and .u32 (V (hv k c)) 1 == 0) = false := by rw [and1, hb]; rfl
        have hs : Hid (bits .xor .u32 (V (hv k c) / 2) 3988292384 = V (hv (k + 1) c)) := by show _ = V (hv1 _); rw [hv1_odd _ hb, shr1, xor_poly]
        clear hb
        go_wp2
        go_round
        case rel => exact ⟨k + 1, by omega, by go_num, u32_eq hs.out⟩
        case measure => simp [intOf]; omega
    · obtain rfl : n = k := by omega
      go_wp2
      go_ret
      exact ⟨rfl, rfl⟩

set_option maxHeartbeats 400000 in
theorem rstep_any (c : BitVec 32) (b : UInt8) (w : World) :
    Calls Try.prog 48 #[.int .u32 (V c), .int .u8 (b.toNat : Int)] w fun e w' => e = .returned (.int .u32 (V (stp c b))) ∧ w = w' := by
  go_enter Try.func48, Try.ntmps48
  go_wp2
  go_loop [0, 5] (fun a i => ∃ k : Nat, k ≤ 8 ∧ i = .int .i64 k ∧ a = .int .u32 (V (hv k (c ^^^ byte b)))) (fun _ i => 8 - (intOf i).toNat)
  case atStart => exact ⟨0, by omega, rfl, u32_eq (by rw [byteV, xorV]; rfl)⟩
  case round =>
    obtain ⟨k, hk, rfl, rfl⟩ := hrel
    by_cases hlt : k < 8
    · cases hb : (hv k (c ^^^ byte b)).getLsbD 0
      · have h1 : ((V (hv k (c ^^^ byte b))).tmod 2 == 1) = false := by rw [tmod2, hb]
        have hs : Hid ((V (hv k (c ^^^ byte b))).tdiv 2 % 4294967296 = V (hv (k + 1) (c ^^^ byte b))) := by show _ = V (hv1 _); rw [hv1_even _ hb, tdiv2]
        clear hb
        go_wp2
        go_round
        case rel => exact ⟨k + 1, by omega, by go_num, u32_eq hs.out⟩
        case measure => simp [intOf]; omega
      · have h1 : ((V (hv k (c ^^^ byte b))).tmod 2 == 1) = true := by rw [tmod2, hb]
        have hs : Hid (bits .xor .u32 ((V (hv k (c ^^^ byte b))).tdiv 2 % 4294967296) 3988292384 = V (hv (k + 1) (c ^^^ byte b))) := by show _ = V (hv1 _); rw [hv1_odd _ hb, tdiv2, xor_poly]
        clear hb
        go_wp2
        go_round
        case rel => exact ⟨k + 1, by omega, by go_num, u32_eq hs.out⟩
        case measure => simp [intOf]; omega
    · obtain rfl : k = 8 := by omega
      go_wp2
      go_ret
      exact ⟨rfl, rfl⟩

theorem halve_T (i : Int) (h0 : 0 ≤ i) (h1 : i < 16) (w : World) :
    Calls Try.prog 49 #[.int .u32 i, .int .i64 4] w fun e w' => e = .returned (.int .u32 (T i.toNat)) ∧ w = w' := by
  have h := halve_any (BitVec.ofNat 32 i.toNat) 4 (by omega) w
  rw [V_of i h0 (by omega)] at h
  exact h

set_option maxHeartbeats 1000000 in
theorem table_any (w : World) :
    Calls Try.prog 47 #[] w fun e w' => e = .returned (.agg #[.int .u32 (T 0), .int .u32 (T 1), .int .u32 (T 2), .int .u32 (T 3), .int .u32 (T 4), .int .u32 (T 5), .int .u32 (T 6), .int .u32 (T 7), .int .u32 (T 8), .int .u32 (T 9), .int .u32 (T 10), .int .u32 (T 11), .int .u32 (T 12), .int .u32 (T 13), .int .u32 (T 14), .int .u32 (T 15)]) ∧ Below w.heap.size w w' := by
  go_enter Try.func47, Try.ntmps47
  go_wp2_with fail
  refine wp_loop_rounds 17 ?_
  repeat any_goals (rw [rounds_succ]; go_wp2_with (go_at_call 49; refine (halve_T _ (by omega) (by omega) _).mono ?_; rintro e w' ⟨rfl, rfl⟩))
  go_returns
  exact ⟨rfl, by go_grown⟩

set_option maxHeartbeats 400000 in
theorem more_any (c : BitVec 32) (s : ByteArray) (hs : s.size ≤ 9223372036854775807) (w : World) :
    Calls Try.prog 44 #[.int .u32 (V c), .string s] w fun e w' => e = .returned (.int .u32 (V (more c s.data.toList))) ∧ Below w.heap.size w w' := by
  go_enter Try.func44, Try.ntmps44
  go_wp2_with fail
  refine (table_any _).mono ?_
  rintro e w1 ⟨rfl, hg⟩
  go_wp2_with fail
  have hA := tab_at
  revert hA
  generalize (#[.int .u32 (T 0), .int .u32 (T 1), .int .u32 (T 2), .int .u32 (T 3), .int .u32 (T 4), .int .u32 (T 5), .int .u32 (T 6), .int .u32 (T 7), .int .u32 (T 8), .int .u32 (T 9), .int .u32 (T 10), .int .u32 (T 11), .int .u32 (T 12), .int .u32 (T 13), .int .u32 (T 14), .int .u32 (T 15)] : Array Value) = A
  intro hA0
  have hA := Lib.hid hA0
  clear hA0
  go_loop [0, 12] (fun a i => ∃ k : Nat, k ≤ s.size ∧ i = .int .i64 k ∧ a = .int .u32 (V (run (~~~c) (s.data.toList.take k)))) (fun _ i => s.size - (intOf i).toNat)
  case atStart => exact ⟨0, Nat.zero_le _, rfl, u32_eq (by rw [max_u32, xor_ones]; rfl)⟩
  case round =>
    obtain ⟨k, hk, rfl, rfl⟩ := hrel
    by_cases hlt : k < s.size
    · obtain ⟨x, y, i, j, hi, hj, r0, r1, r2, r3, r4, r5⟩ := nibs_of (run (~~~c) (s.data.toList.take k)) s[k]
      rw [← run_snoc] at r5
      have r5' := Lib.hid r5
      clear r5
      have c1 := hA.out i hi
      have c2 := hA.out j hj
      go_wp2_with fail
      go_round
      case rel => exact ⟨k + 1, by omega, by go_num, u32_eq r5'.out⟩
      case measure => simp [intOf]; omega
    · obtain rfl : k = s.size := by omega
      go_wp2_with fail
      go_ret
      refine ⟨ret_u32 ?_, hg.alloc hg.size _⟩
      rw [max_u32, xor_ones]
      unfold more
      rw [List.take_of_length_le (by simp)]

set_option maxHeartbeats 400000 in
theorem rmore_any (c : BitVec 32) (s : ByteArray) (hs : s.size ≤ 9223372036854775807) (w : World) :
    Calls Try.prog 45 #[.int .u32 (V c), .string s] w fun e w' => e = .returned (.int .u32 (V (more c s.data.toList))) ∧ w = w' := by
  have hm : ∀ a : BitVec 32, (4294967295 - V a) % 4294967296 = V (~~~a) := fun a => by
    rw [notV]; have := V_lo (~~~a); have := V_hi (~~~a); omega
  have hm' := Lib.hid hm
  clear hm
  go_enter Try.func45, Try.ntmps45
  go_wp2_with fail
  go_loop [0, 5] (fun a i => ∃ k : Nat, k ≤ s.size ∧ i = .int .i64 k ∧ a = .int .u32 (V (run (~~~c) (s.data.toList.take k)))) (fun _ i => s.size - (intOf i).toNat)
  case atStart => exact ⟨0, Nat.zero_le _, rfl, u32_eq (hm'.out c)⟩
  case round =>
    obtain ⟨k, hk, rfl, rfl⟩ := hrel
    by_cases hlt : k < s.size
    · have hr := Lib.hid (run_snoc (~~~c) s k hlt)
      go_wp2_with fail
      refine (rstep_any _ _ _).mono ?_
      rintro e w' ⟨rfl, rfl⟩
      go_wp2_with fail
      go_round
      case rel => exact ⟨k + 1, by omega, by go_num, by rw [hr.out]⟩
      case measure => simp [intOf]; omega
    · obtain rfl : k = s.size := by omega
      go_wp2_with fail
      go_ret
      refine ⟨ret_u32 ?_, rfl⟩
      rw [hm'.out]
      unfold more
      rw [List.take_of_length_le (by simp)]

theorem V_zero : V 0#32 = 0 := rfl

set_option maxHeartbeats 400000 in
theorem of_any (s : ByteArray) (hs : s.size ≤ 9223372036854775807) (w : World) :
    Calls Try.prog 41 #[.string s] w fun e w' => e = .returned (.int .u32 (V (more 0#32 s.data.toList))) ∧ Below w.heap.size w w' := by
  go_enter Try.func41, Try.ntmps41
  go_wp2_with fail
  rw [← V_zero]
  refine (more_any _ _ hs _).mono ?_
  rintro e w' ⟨rfl, hb⟩
  go_wp2_with fail
  go_ret
  exact ⟨rfl, hb⟩

set_option maxHeartbeats 400000 in
theorem rof_any (s : ByteArray) (hs : s.size ≤ 9223372036854775807) (w : World) :
    Calls Try.prog 42 #[.string s] w fun e w' => e = .returned (.int .u32 (V (more 0#32 s.data.toList))) ∧ w = w' := by
  go_enter Try.func42, Try.ntmps42
  go_wp2_with fail
  rw [← V_zero]
  refine (rmore_any _ _ hs _).mono ?_
  rintro e w' ⟨rfl, rfl⟩
  go_wp2_with fail
  go_ret
  exact ⟨rfl, rfl⟩

end Go.Proofs.Ytgaggncepknafaa
