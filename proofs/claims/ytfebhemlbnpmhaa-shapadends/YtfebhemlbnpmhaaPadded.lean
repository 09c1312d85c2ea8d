/-
  Plain facts on what is padded: which byte stands where. No Go text is named here.
-/
import Derived.Test.YtfebhemlbnpmhaaMath
namespace Go.Proofs.Ytfebhemlbnpmhaa

theorem be_at (K n k : Nat) (h : k < K) : (be K n).getD k 0 = UInt8.ofNat (n / 256 ^ (K - 1 - k) % 256) := by
  induction K generalizing n with
  | zero => omega
  | succ K ih =>
    unfold be
    by_cases hk : k < K
    · rw [List.getD_eq_getElem?_getD, List.getElem?_append_left (by rw [be_length]; exact hk), ← List.getD_eq_getElem?_getD, ih _ hk]
      rw [Nat.div_div_eq_div_mul, show K + 1 - 1 - k = (K - 1 - k) + 1 by omega, Nat.pow_succ, Nat.mul_comm 256]
    · obtain rfl : k = K := by omega
      rw [List.getD_eq_getElem?_getD, List.getElem?_append_right (by rw [be_length]; omega), be_length, Nat.sub_self, show k + 1 - 1 - k = 0 by omega]
      simp
theorem pad_head (l : List UInt8) (i : Nat) (h : i < l.length) : (pad l).getD i 0 = l.getD i 0 := by
  unfold pad
  rw [List.getD_eq_getElem?_getD, List.getD_eq_getElem?_getD, List.append_assoc, List.append_assoc, List.getElem?_append_left h]
theorem pad_one (l : List UInt8) : (pad l).getD l.length 0 = 128 := by
  unfold pad
  rw [List.getD_eq_getElem?_getD, List.append_assoc, List.append_assoc, List.getElem?_append_right (Nat.le_refl _), Nat.sub_self]
  rfl
theorem pad_mid (l : List UInt8) (i : Nat) (h1 : l.length + 1 ≤ i) (h2 : i + 8 < (pad l).length) : (pad l).getD i 0 = 0 := by
  rw [pad_length] at h2
  unfold pad
  rw [List.getD_eq_getElem?_getD, List.append_assoc, List.getElem?_append_right (by simp; omega), List.getElem?_append_left (by simp; omega), List.getElem?_replicate]
  split <;> rfl
theorem pad_last (l : List UInt8) (k : Nat) (h : k < 8) : (pad l).getD ((pad l).length - 8 + k) 0 = UInt8.ofNat (l.length * 8 / 256 ^ (7 - k) % 256) := by
  rw [pad_length, ← be_at 8 _ k h]
  unfold pad
  rw [List.getD_eq_getElem?_getD, List.getD_eq_getElem?_getD, List.getElem?_append_right (by simp; omega)]
  congr 2
  simp
  omega

/-- The number that the first so many of the last bytes are. -/
def nv (n k : Nat) : Nat := n / 256 ^ (8 - k)
theorem nv_zero (n : Nat) (h : n < 65536) : nv n 0 = 0 := by
  unfold nv; exact Nat.div_eq_of_lt (by omega)
theorem nv_eight (n : Nat) : nv n 8 = n := by unfold nv; simp
theorem nv_step (n k : Nat) (h : k < 8) : nv n (k + 1) = nv n k * 256 + n / 256 ^ (7 - k) % 256 := by
  unfold nv
  rw [show 8 - k = (7 - k) + 1 by omega, show 8 - (k + 1) = 7 - k by omega, Nat.pow_succ, ← Nat.div_div_eq_div_mul]
  omega
theorem nv_le (n k : Nat) : nv n k ≤ n := Nat.div_le_self _ _
end Go.Proofs.Ytfebhemlbnpmhaa
