/-
  What seeming of the program returns.
-/
import Derived.Test.YtgaggncepknafaaNum
namespace Go.Proofs.Ytgaggncepknafaa
open Go.RowKit

theorem drop_li (s : ByteArray) (k : Nat) (h : k < s.size) : (li s).drop k = s[k] :: (li s).drop (k + 1) := by
  unfold li; rw [List.drop_eq_getElem_cons (by simpa using h)]; rfl
theorem low7 (b : UInt8) : bits .andNot .u8 (b.toNat : Int) 128 = ((b.toNat % 128 : Nat) : Int) := by
  have h : ∀ i : Fin 256, bits .andNot .u8 ((i.val : Nat) : Int) 128 = ((i.val % 128 : Nat) : Int) := by decide +kernel
  exact h ⟨b.toNat, b.toNat_lt⟩
/-- The place that seeming has come to. -/
structure Se (s : ByteArray) (k m : Nat) : Prop where
  lt : m < 128 ^ k
  eq : seem 8 (li s) = m + 128 ^ k * seem (8 - k) ((li s).drop k)
theorem Se.start (s : ByteArray) : Se s 0 0 := ⟨by simp, by simp⟩
theorem Se.next {s : ByteArray} {k m : Nat} (h : Se s k m) (hk : k < s.size) (h8 : k < 8) (hb : ¬ (s[k]).toNat < 128) : Se s (k + 1) (m + 128 ^ k * ((s[k]).toNat % 128)) := by
  have h1 := h.lt
  have e : (128 : Nat) ^ (k + 1) = 128 ^ k * 128 := rfl
  constructor
  · rw [e]
    have : 128 ^ k * ((s[k]).toNat % 128) ≤ 128 ^ k * 127 := Nat.mul_le_mul_left _ (by omega)
    omega
  · rw [h.eq, drop_li s k hk, show 8 - k = 8 - (k + 1) + 1 by omega, seem, if_neg hb, Nat.mul_add, e]
    generalize seem (8 - (k + 1)) _ = z
    rw [Nat.mul_assoc]
    omega
theorem Se.stop {s : ByteArray} {k m : Nat} (h : Se s k m) (hk : k < s.size) (h8 : k < 8) (hb : (s[k]).toNat < 128) : seem 8 (li s) = m + 128 ^ k * ((s[k]).toNat % 128) := by
  rw [h.eq, drop_li s k hk, show 8 - k = 8 - (k + 1) + 1 by omega, seem, if_pos hb, Nat.add_zero]
theorem Se.done {s : ByteArray} {k m : Nat} (h : Se s k m) (hk : k = s.size ∨ k = 8) : seem 8 (li s) = m := by
  rw [h.eq]
  rcases hk with hk | hk
  · rw [List.drop_of_length_le (by rw [li_len]; omega)]
    cases e : 8 - k <;> simp [seem]
  · subst hk; simp [seem]

theorem i64_or_nat (a b : Nat) (ha : a < 9223372036854775808) (hb : b < 9223372036854775808) : bits .or .i64 (a : Int) (b : Int) = ((a ||| b : Nat) : Int) := by
  have hx : a ||| b < 2 ^ 63 := Nat.or_lt_two_pow (by omega) (by omega)
  show IntKind.i64.wrap ((BitVec.ofInt 64 (a : Int) ||| BitVec.ofInt 64 (b : Int)).toNat : Int) = _
  rw [BitVec.toNat_or, ofInt_u64 a (by omega), ofInt_u64 b (by omega), IntKind.wrap_i64]
  omega
theorem orShift (b : UInt8) (m k : Nat) (hk : k < 8) (hm : m < 128 ^ k) : bits .or .i64 (m : Int) (wrap64 ((b.toNat : Int) % 128 * 2 ^ (7 * k))) = ((m + 128 ^ k * (b.toNat % 128) : Nat) : Int) := by
  have e : (128 : Nat) ^ k = 2 ^ (7 * k) := by rw [Nat.pow_mul]
  have hp : (2 : Nat) ^ (7 * k) ≤ 2 ^ 49 := Nat.pow_le_pow_right (by decide) (by omega)
  have hx : (b.toNat : Int) % 128 * 2 ^ (7 * k) = ((b.toNat % 128 * 2 ^ (7 * k) : Nat) : Int) := by push_cast; rfl
  have hlt : b.toNat % 128 * 2 ^ (7 * k) < 128 * 2 ^ 49 := by
    have h1 : b.toNat % 128 * 2 ^ (7 * k) ≤ 127 * 2 ^ (7 * k) := Nat.mul_le_mul_right _ (by omega)
    omega
  rw [hx]
  have hw : wrap64 ((b.toNat % 128 * 2 ^ (7 * k) : Nat) : Int) = ((b.toNat % 128 * 2 ^ (7 * k) : Nat) : Int) := by
    generalize b.toNat % 128 * 2 ^ (7 * k) = z at *
    unfold wrap64
    omega
  rw [e] at hm
  rw [hw, i64_or_nat _ _ (by omega) (by omega), e, Nat.or_comm, nat_join (7 * k) _ _ (Nat.mul_mod_left _ _) hm, Nat.mul_comm, Nat.add_comm]
theorem orShift' (b : UInt8) (m k : Nat) (hk : k < 8) (hm : m < 128 ^ k) : ∃ M : Nat, bits .or .i64 (m : Int) (wrap64 ((b.toNat : Int) % 128 * 2 ^ (7 * k))) = (M : Int) ∧ M = m + 128 ^ k * (b.toNat % 128) :=
  ⟨_, orShift b m k hk hm, rfl⟩
set_option maxHeartbeats 1000000 in
set_option maxRecDepth 100000 in
theorem seeming_any (s : ByteArray) (hs : s.size ≤ 9223372036854775807) (w : World) :
    Calls Try.prog 38 #[.string s] w fun e w' => e = .returned (.int .i64 (seem 8 (li s) : Int)) ∧ w = w' := by
  have hS := Lib.hid (Se.start s)
  by_cases h8 : s.size ≤ 8
  · have t1 : decide ((8 : Int) < (s.size : Int)) = false := by simp; omega
    go_enter Try.func38, Try.ntmps38
    go_wp2_with fail
    go_loop [3, 8] (fun a i => ∃ k m : Nat, k ≤ s.size ∧ i = .int .i64 (k : Int) ∧ a = .int .i64 (m : Int) ∧ Hid (Se s k m)) (fun _ i => s.size - (intOf i).toNat)
    case atStart => exact ⟨0, 0, Nat.zero_le _, rfl, rfl, hS.out⟩
    case round =>
      obtain ⟨k, m, hk, rfl, rfl, hA⟩ := hrel
      by_cases hlt : k < s.size
      · have hlow := low7 s[k]
        by_cases hb : (s[k]).toNat < 128
        · have tb : decide (((s[k]).toNat : Int) < 128) = true := by simp; omega
          obtain ⟨M, ho, hM⟩ := orShift' s[k] m k (by omega) hA.out.lt
          have hX := Lib.hid ((hA.out.stop hlt (by omega) hb).trans hM.symm)
          clear hM
          go_wp2_with fail
          go_ret
          exact ⟨by rw [hX.out]; rfl, rfl⟩
        · have tb : decide (((s[k]).toNat : Int) < 128) = false := by simp; omega
          obtain ⟨M, ho, hM⟩ := orShift' s[k] m k (by omega) hA.out.lt
          have hX := Lib.hid (hA.out.next hlt (by omega) hb)
          rw [← hM] at hX
          clear hM
          go_wp2_with fail
          go_round
          case rel => exact ⟨k + 1, _, by omega, by go_num, rfl, hX.out⟩
          case measure => simp [intOf]; omega
      · have hX := Lib.hid (hA.out.done (.inl (by omega)))
        obtain rfl : k = s.size := by omega
        go_wp2_with fail
        go_ret
        exact ⟨by rw [hX.out]; rfl, rfl⟩
  · have t1 : decide ((8 : Int) < (s.size : Int)) = true := by simp; omega
    go_enter Try.func38, Try.ntmps38
    go_wp2_with fail
    go_loop [3, 8] (fun a i => ∃ k m : Nat, k ≤ 8 ∧ i = .int .i64 (k : Int) ∧ a = .int .i64 (m : Int) ∧ Hid (Se s k m)) (fun _ i => 8 - (intOf i).toNat)
    case atStart => exact ⟨0, 0, Nat.zero_le _, rfl, rfl, hS.out⟩
    case round =>
      obtain ⟨k, m, hk, rfl, rfl, hA⟩ := hrel
      by_cases hlt8 : k < 8
      · have hlt : k < s.size := by omega
        have hlow := low7 s[k]
        by_cases hb : (s[k]).toNat < 128
        · have tb : decide (((s[k]).toNat : Int) < 128) = true := by simp; omega
          obtain ⟨M, ho, hM⟩ := orShift' s[k] m k (by omega) hA.out.lt
          have hX := Lib.hid ((hA.out.stop hlt (by omega) hb).trans hM.symm)
          clear hM
          go_wp2_with fail
          go_ret
          exact ⟨by rw [hX.out]; rfl, rfl⟩
        · have tb : decide (((s[k]).toNat : Int) < 128) = false := by simp; omega
          obtain ⟨M, ho, hM⟩ := orShift' s[k] m k (by omega) hA.out.lt
          have hX := Lib.hid (hA.out.next hlt (by omega) hb)
          rw [← hM] at hX
          clear hM
          go_wp2_with fail
          go_round
          case rel => exact ⟨k + 1, _, by omega, by go_num, rfl, hX.out⟩
          case measure => simp [intOf]; omega
      · have hX := Lib.hid (hA.out.done (.inr (by omega)))
        obtain rfl : k = 8 := by omega
        go_wp2_with fail
        go_ret
        exact ⟨by rw [hX.out]; rfl, rfl⟩
end Go.Proofs.Ytgaggncepknafaa
