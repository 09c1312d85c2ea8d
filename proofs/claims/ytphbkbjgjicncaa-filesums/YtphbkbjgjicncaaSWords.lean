/-
  How a word of 32 bits stands as a number, and what the operations on such numbers come to.
-/
import Derived.Test.YtphbkbjgjicncaaSMath
namespace Go.Proofs.Ytphbkbjgjicncaa.sh

/-- A word as a number. -/
def V (c : BitVec 32) : Int := (c.toNat : Int)

theorem V_lo (a : BitVec 32) : 0 ≤ V a := by unfold V; omega
theorem V_hi (a : BitVec 32) : V a ≤ 4294967295 := by have := a.isLt; unfold V; omega
theorem V_inj (a b : BitVec 32) (h : V a = V b) : a = b := by
  unfold V at h; exact BitVec.eq_of_toNat_eq (by omega)
theorem V_of (n : Int) (h0 : 0 ≤ n) (h1 : n ≤ 4294967295) : V (BitVec.ofNat 32 n.toNat) = n := by
  unfold V; rw [BitVec.toNat_ofNat]; omega
theorem V_ofNat (n : Nat) (h1 : n < 4294967296) : V (BitVec.ofNat 32 n) = n := by
  unfold V; rw [BitVec.toNat_ofNat]; omega

theorem xorV (a b : BitVec 32) : bits .xor .u32 (V a) (V b) = V (a ^^^ b) := by
  unfold V
  rw [u32_xor_nat _ _ a.isLt b.isLt, BitVec.toNat_xor]
theorem andV (a b : BitVec 32) : bits .and .u32 (V a) (V b) = V (a &&& b) := by
  unfold V
  rw [u32_and_nat _ _ a.isLt b.isLt, BitVec.toNat_and]
theorem orV (a b : BitVec 32) : bits .or .u32 (V a) (V b) = V (a ||| b) := by
  unfold V
  rw [u32_or_nat _ _ a.isLt b.isLt, BitVec.toNat_or]
theorem byteV (b : UInt8) : (b.toNat : Int) % 4294967296 = V (byte b) := by
  unfold byte; rw [V_ofNat _ (by have := b.toNat_lt; omega)]; have := b.toNat_lt; omega
theorem shrV (a : BitVec 32) (n : Nat) : V a / (2 ^ n : Nat) = V (a >>> n) := by
  unfold V; rw [BitVec.toNat_ushiftRight, Nat.shiftRight_eq_div_pow]; rfl
theorem shr1 (a : BitVec 32) : V a / (2 : Int) = V (a >>> 1) := shrV a 1
theorem shr4 (a : BitVec 32) : V a / (16 : Int) = V (a >>> 4) := shrV a 4
theorem tdiv2 (a : BitVec 32) : (V a).tdiv (2 : Int) % (4294967296 : Int) = V (a >>> 1) := by
  rw [Int.tdiv_eq_ediv_of_nonneg (V_lo a), shr1]
  have := V_lo (a >>> 1); have := V_hi (a >>> 1); omega
theorem low1 (a : BitVec 32) : a.getLsbD 0 = decide (a.toNat % 2 = 1) := by
  rw [BitVec.getLsbD, Nat.testBit_zero]
theorem and1 (a : BitVec 32) : (bits .and .u32 (V a) 1 == 0) = !a.getLsbD 0 := by
  have h : bits .and .u32 (V a) 1 = ((a.toNat % 2 : Nat) : Int) := by
    have := u32_and_nat a.toNat 1 a.isLt (by decide)
    rw [nat_mask1] at this
    exact this
  rw [h, low1]
  have : a.toNat % 2 = 0 ∨ a.toNat % 2 = 1 := by omega
  rcases this with h | h <;> rw [h] <;> rfl
theorem tmod2 (a : BitVec 32) : ((V a).tmod 2 == 1) = a.getLsbD 0 := by
  rw [Int.tmod_eq_emod_of_nonneg (V_lo a), low1]
  unfold V
  have : a.toNat % 2 = 0 ∨ a.toNat % 2 = 1 := by omega
  rcases this with h | h
  · rw [h, show ((a.toNat : Int) % 2) = 0 by omega]; rfl
  · rw [h, show ((a.toNat : Int) % 2) = 1 by omega]; rfl
theorem and15 (a : BitVec 32) : bits .and .u32 (V a) 15 = V (a &&& 15#32) := andV a 15#32
theorem and15_lt (a : BitVec 32) : (a &&& 15#32).toNat < 16 := by
  rw [BitVec.toNat_and]
  exact Nat.lt_of_le_of_lt Nat.and_le_right (by decide)
theorem notV (a : BitVec 32) : 4294967295 - V a = V (~~~a) := by
  unfold V; rw [BitVec.toNat_not]; have := a.isLt; omega
theorem xor_ones (a : BitVec 32) : bits .xor .u32 4294967295 (V a) = V (~~~a) := by
  have h := xorV (BitVec.allOnes 32) a
  rw [BitVec.allOnes_xor] at h
  exact h


theorem u32_eq {a b : Int} (h : a = b) : Value.int .u32 a = Value.int .u32 b := by rw [h]
theorem ret_u32 {a b : Int} (h : a = b) : Ending.returned (.int .u32 a) = .returned (.int .u32 b) := by rw [h]

end Go.Proofs.Ytphbkbjgjicncaa.sh
