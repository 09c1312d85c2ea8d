/-
  How a word of 32 bits stands as a number, and what the operations on such numbers come to.
-/
import Derived.Test.YtgaggncepknafaaMath
namespace Go.Proofs.Ytgaggncepknafaa

/-- A word as a number. -/
def V (c : BitVec 32) : Int := (c.toNat : Int)

theorem V_lo (a : BitVec 32) : 0 ≤ V a := by unfold V; omega
theorem V_hi (a : BitVec 32) : V a ≤ 4294967295 := by have := a.isLt; unfold V; omega
theorem V_inj (a b : BitVec 32) (h : V a = V b) : a = b := by
  unfold V at h; exact BitVec.eq_of_toNat_eq (by omega)
theorem V_of (n : Int) (h0 : 0 ≤ n) (h1 : n ≤ 4294967295) : V (BitVec.ofNat 32 n.toNat) = n := by
  unfold V; rw [BitVec.toNat_ofNat]; omega
theorem V_ofNat (n : Nat) (h1 : n < 4294967296) : V (BitVec.ofNat 32 n) = n := by
  unfold V; rw [BitVec.toNat_ofNat]; omega

theorem xorV (a b : BitVec 32) : bits .xor .u32 (V a) (V b) = V (a ^^^ b) := by
  unfold V
  rw [u32_xor_nat _ _ a.isLt b.isLt, BitVec.toNat_xor]
theorem andV (a b : BitVec 32) : bits .and .u32 (V a) (V b) = V (a &&& b) := by
  unfold V
  rw [u32_and_nat _ _ a.isLt b.isLt, BitVec.toNat_and]
theorem orV (a b : BitVec 32) : bits .or .u32 (V a) (V b) = V (a ||| b) := by
  unfold V
  rw [u32_or_nat _ _ a.isLt b.isLt, BitVec.toNat_or]
theorem V_poly : V poly = 3988292384 := by decide
theorem xor_poly (a : BitVec 32) : bits .xor .u32 (V a) 3988292384 = V (a ^^^ poly) := by
  rw [← V_poly, xorV]
theorem byteV (b : UInt8) : (b.toNat : Int) % 4294967296 = V (byte b) := by
  unfold byte; rw [V_ofNat _ (by have := b.toNat_lt; omega)]; have := b.toNat_lt; omega
theorem shrV (a : BitVec 32) (n : Nat) : V a / (2 ^ n : Nat) = V (a >>> n) := by
  unfold V; rw [BitVec.toNat_ushiftRight, Nat.shiftRight_eq_div_pow]; rfl
theorem shr1 (a : BitVec 32) : V a / (2 : Int) = V (a >>> 1) := shrV a 1
theorem shr4 (a : BitVec 32) : V a / (16 : Int) = V (a >>> 4) := shrV a 4
theorem tdiv2 (a : BitVec 32) : (V a).tdiv (2 : Int) % (4294967296 : Int) = V (a >>> 1) := by
  rw [Int.tdiv_eq_ediv_of_nonneg (V_lo a), shr1]
  have := V_lo (a >>> 1); have := V_hi (a >>> 1); omega
theorem low1 (a : BitVec 32) : a.getLsbD 0 = decide (a.toNat % 2 = 1) := by
  rw [BitVec.getLsbD, Nat.testBit_zero]
theorem and1 (a : BitVec 32) : (bits .and .u32 (V a) 1 == 0) = !a.getLsbD 0 := by
  have h : bits .and .u32 (V a) 1 = ((a.toNat % 2 : Nat) : Int) := by
    have := u32_and_nat a.toNat 1 a.isLt (by decide)
    rw [nat_mask1] at this
    exact this
  rw [h, low1]
  have : a.toNat % 2 = 0 ∨ a.toNat % 2 = 1 := by omega
  rcases this with h | h <;> rw [h] <;> rfl
theorem tmod2 (a : BitVec 32) : ((V a).tmod 2 == 1) = a.getLsbD 0 := by
  rw [Int.tmod_eq_emod_of_nonneg (V_lo a), low1]
  unfold V
  have : a.toNat % 2 = 0 ∨ a.toNat % 2 = 1 := by omega
  rcases this with h | h
  · rw [h, show ((a.toNat : Int) % 2) = 0 by omega]; rfl
  · rw [h, show ((a.toNat : Int) % 2) = 1 by omega]; rfl
theorem and15 (a : BitVec 32) : bits .and .u32 (V a) 15 = V (a &&& 15#32) := andV a 15#32
theorem and15_lt (a : BitVec 32) : (a &&& 15#32).toNat < 16 := by
  rw [BitVec.toNat_and]
  exact Nat.lt_of_le_of_lt Nat.and_le_right (by decide)
theorem notV (a : BitVec 32) : 4294967295 - V a = V (~~~a) := by
  unfold V; rw [BitVec.toNat_not]; have := a.isLt; omega
theorem xor_ones (a : BitVec 32) : bits .xor .u32 4294967295 (V a) = V (~~~a) := by
  have h := xorV (BitVec.allOnes 32) a
  rw [BitVec.allOnes_xor] at h
  exact h

theorem hv1_even (a : BitVec 32) (h : a.getLsbD 0 = false) : hv1 a = a >>> 1 := by unfold hv1; rw [h]; rfl
theorem hv1_odd (a : BitVec 32) (h : a.getLsbD 0 = true) : hv1 a = (a >>> 1) ^^^ poly := by unfold hv1; rw [h]; rfl

theorem u32_eq {a b : Int} (h : a = b) : Value.int .u32 a = Value.int .u32 b := by rw [h]
theorem ret_u32 {a b : Int} (h : a = b) : Ending.returned (.int .u32 a) = .returned (.int .u32 b) := by rw [h]

def T (i : Nat) : Int := V (hv 4 (BitVec.ofNat 32 i))

/-- What a byte comes to, in the walk's own words. -/
structure Nibs (d : BitVec 32) (b : UInt8) (x y : BitVec 32) (i j : Nat) : Prop where
  hi : i < 16
  hj : j < 16
  r0 : (b.toNat : Int) % 4294967296 = V (byte b)
  r1 : bits .xor .u32 (V d) (V (byte b)) = V x
  r2 : bits .and .u32 (V x) 15 = (i : Int)
  r3 : bits .xor .u32 (T i) (V x / (16 : Int)) = V y
  r4 : bits .and .u32 (V y) 15 = (j : Int)
  r5 : bits .xor .u32 (T j) (V y / (16 : Int)) = V (stp d b)

theorem nibs_of (d : BitVec 32) (b : UInt8) : ∃ x y i j, Nibs d b x y i j := by
  have key : ∀ x : BitVec 32, bits .xor .u32 (T (x &&& 15#32).toNat) (V x / (16 : Int)) = V (hv 4 x) := fun x => by
    rw [shr4]
    unfold T
    rw [BitVec.ofNat_toNat, BitVec.setWidth_eq, xorV, ← hv4]
  refine ⟨d ^^^ byte b, hv 4 (d ^^^ byte b), _, _, and15_lt _, and15_lt _, byteV b, xorV _ _, and15 _, key _, and15 _, ?_⟩
  rw [key, ← hv8]; rfl

theorem max_u32 : IntKind.u32.max = 4294967295 := by decide

theorem run_snoc (c : BitVec 32) (s : ByteArray) (k : Nat) (h : k < s.size) : run c (s.data.toList.take (k + 1)) = stp (run c (s.data.toList.take k)) s[k] := by
  rw [List.take_succ_eq_append_getElem (by simpa using h), run_append]
  rfl

theorem tab_at (i : Nat) (h : i < 16) : (#[.int .u32 (T 0), .int .u32 (T 1), .int .u32 (T 2), .int .u32 (T 3), .int .u32 (T 4), .int .u32 (T 5), .int .u32 (T 6), .int .u32 (T 7), .int .u32 (T 8), .int .u32 (T 9), .int .u32 (T 10), .int .u32 (T 11), .int .u32 (T 12), .int .u32 (T 13), .int .u32 (T 14), .int .u32 (T 15)] : Array Value)[i]? = some (.int .u32 (T i)) := by
  obtain rfl | rfl | rfl | rfl | rfl | rfl | rfl | rfl | rfl | rfl | rfl | rfl | rfl | rfl | rfl | rfl : i = 0 ∨ i = 1 ∨ i = 2 ∨ i = 3 ∨ i = 4 ∨ i = 5 ∨ i = 6 ∨ i = 7 ∨ i = 8 ∨ i = 9 ∨ i = 10 ∨ i = 11 ∨ i = 12 ∨ i = 13 ∨ i = 14 ∨ i = 15 := by omega
  all_goals rfl


end Go.Proofs.Ytgaggncepknafaa
