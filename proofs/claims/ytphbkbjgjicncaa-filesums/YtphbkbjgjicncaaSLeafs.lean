/-
  What right, squareBelow, cubeBelow and behindPoint of the program return.
-/
import Derived.Test.YtphbkbjgjicncaaRows
import Derived.Test.YtphbkbjgjicncaaSWords
import Derived.Test.YtphbkbjgjicncaaSShelf
import Derived.WalkKit
import Derived.WalkSpells
import Derived.WalkLawsBesides
import Derived.Handy
import Derived.Lib.Hide
import Derived.Laws.Externs
namespace Go.Proofs.Ytphbkbjgjicncaa.sh
open Go.RowKit

theorem wrap_neg (n : Nat) (h0 : 0 < n) (h1 : n < 32) : IntKind.u64.wrap (-(n : Int)) = ((18446744073709551616 - n : Nat) : Int) := by
  rw [IntKind.wrap_u64]; omega
theorem neg_and (n m : Nat) (h : m + n = 32) (h0 : 0 < n) (hm : 0 < m) : bits .and .u64 (IntKind.u64.wrap (-(n : Int))) 31 = (m : Int) := by
  rw [wrap_neg n h0 (by omega)]
  have := u64_and_nat (18446744073709551616 - n) 31 (by omega) (by decide)
  have e : (18446744073709551616 - n) &&& 31 = m := by
    rw [show (31 : Nat) = 2 ^ 5 - 1 by decide, Nat.and_two_pow_sub_one_eq_mod]; omega
  rw [e] at this
  exact this

theorem shlV (a : BitVec 32) (n : Nat) : V a * 2 ^ n % (4294967296 : Int) = V (a <<< n) := by
  unfold V; rw [BitVec.toNat_shiftLeft, Nat.shiftLeft_eq]
  rw [Int.natCast_emod, Int.natCast_mul, Int.natCast_pow]; rfl
theorem shrV' (a : BitVec 32) (n : Nat) : V a / 2 ^ n = V (a >>> n) := by
  have := shrV a n
  rw [Int.natCast_pow] at this
  exact this

set_option maxHeartbeats 400000 in
theorem rotl_any (x : BitVec 32) (n m : Nat) (h : m + n = 32) (h0 : 0 < n) (hm : 0 < m) (w : World) :
    Calls Try.prog 85 #[.int .u32 (V x), .int .i64 (-(n : Int))] w fun e w' => e = .returned (.int .u32 (V (rot x n))) ∧ w = w' := by
  have hb := neg_and n m h h0 hm
  go_enter Try.func85, Try.ntmps85
  go_wp2
  go_ret
  refine ⟨ret_u32 ?_, rfl⟩
  rw [shlV, shrV', orV]
  unfold rot
  rw [show 32 - m = n by omega, show 32 - n = m by omega]

set_option maxHeartbeats 400000 in
theorem right_any (x : BitVec 32) (n : Nat) (h0 : 0 < n) (h1 : n < 32) (w : World) :
    Calls Try.prog 69 #[.int .u32 (V x), .int .i64 (n : Int)] w fun e w' => e = .returned (.int .u32 (V (rot x n))) ∧ w = w' := by
  go_enter Try.func69, Try.ntmps69
  go_wp2_with fail
  refine (rotl_any x n (32 - n) (by omega) h0 (by omega) _).mono ?_
  rintro e w' ⟨rfl, rfl⟩
  go_wp2_with fail
  go_ret
  exact ⟨rfl, rfl⟩

def difN (x y : Nat) : Nat := (x + 18446744073709551616 - y) % 18446744073709551616
def ltN (x y : Nat) : Nat := if x < y then 1 else 0

theorem sub64_run (x y : Nat) (w : World) : (callFunc 78 #[.int .u64 x, .int .u64 y, .int .u64 0]).run Try.prog w =
      .ok (.value (.tuple #[.int .u64 (difN x y : Int), .int .u64 (ltN x y : Int)])) w := by
  rw [run_callFunc_extern Try.func78 (by kernel_rfl) (by kernel_rfl) (by kernel_rfl) (e := (fun args => do
      let (x, y, b) ← Extern.MathBitsCarry.three "Sub64" args
      pure (Extern.MathBitsCarry.pair ((x + Extern.MathBitsCarry.m64 - y - b) % Extern.MathBitsCarry.m64) (if x < y + b then 1 else 0)))) (by kernel_rfl)]
  rfl

/-- The two halves of a product. -/
def hiN (x y : Nat) : Nat := x * y / 18446744073709551616
def loN (x y : Nat) : Nat := x * y % 18446744073709551616
theorem loN_lt (x y : Nat) : loN x y < 18446744073709551616 := Nat.mod_lt _ (by decide)
theorem hiN_lt (x y : Nat) (hx : x < 18446744073709551616) (hy : y < 18446744073709551616) : hiN x y < 18446744073709551616 := by
  unfold hiN
  apply Nat.div_lt_of_lt_mul
  exact Nat.mul_lt_mul'' hx hy

theorem mul64_any (x y : Nat) (hx : x < 18446744073709551616) (hy : y < 18446744073709551616) (w : World) :
    Calls Try.prog 77 #[.int .u64 x, .int .u64 y] w fun e w' => e = .returned (.tuple #[.int .u64 (hiN x y : Int), .int .u64 (loN x y : Int)]) ∧ w = w' :=
  (Try.bits_Mul64 x y hx hy w).mono fun _ _ ⟨he, hw⟩ => ⟨he, hw.symm⟩

/-- Whether a square is below. -/
def sqB (r p : Nat) : Nat := ltN (hiN r r) p
/-- Whether a cube is. -/
def cuN (r : Nat) : Nat := (hiN r r * r % 18446744073709551616 + hiN (loN r r) r) % 18446744073709551616
def shN (p : Nat) : Nat := p * 4294967296 % 18446744073709551616
def cuB (r p : Nat) : Nat := ltN (cuN r) (shN p)

theorem cuN_eq (r : Nat) : IntKind.u64.wrap (IntKind.u64.wrap ((hiN r r : Int) * (r : Int)) + (hiN (loN r r) r : Int)) = (cuN r : Int) := by
  unfold cuN; rw [IntKind.wrap_u64, IntKind.wrap_u64, Int.natCast_emod, Int.natCast_add, Int.natCast_emod, Int.natCast_mul]; rfl
theorem shN_eq (p : Nat) : IntKind.u64.wrap ((p : Int) * 4294967296) = (shN p : Int) := by
  unfold shN; rw [IntKind.wrap_u64, Int.natCast_emod, Int.natCast_mul]; rfl

set_option maxHeartbeats 400000 in
theorem square_any (r p : Nat) (hr : r < 18446744073709551616) (w : World) :
    Calls Try.prog 65 #[.int .u64 (r : Int), .int .u64 (p : Int)] w fun e w' => e = .returned (.int .u64 (sqB r p : Int)) ∧ w = w' := by
  have hs := sub64_run (hiN r r) p
  go_enter Try.func65, Try.ntmps65
  go_wp2_with fail
  refine (mul64_any r r hr hr _).mono ?_
  rintro e w' ⟨rfl, rfl⟩
  go_wp2_with fail
  go_ret
  exact ⟨rfl, rfl⟩

set_option maxHeartbeats 400000 in
theorem cube_any (r p : Nat) (hr : r < 18446744073709551616) (w : World) :
    Calls Try.prog 66 #[.int .u64 (r : Int), .int .u64 (p : Int)] w fun e w' => e = .returned (.int .u64 (cuB r p : Int)) ∧ w = w' := by
  have hs := sub64_run (cuN r) (shN p)
  have h1 := cuN_eq r
  have h2 := shN_eq p
  go_enter Try.func66, Try.ntmps66
  go_wp2_with fail
  refine (mul64_any r r hr hr _).mono ?_
  rintro e w' ⟨rfl, rfl⟩
  go_wp2_with fail
  refine (mul64_any (loN r r) r (loN_lt _ _) hr _).mono ?_
  rintro e w' ⟨rfl, rfl⟩
  go_wp2_with fail
  go_ret
  exact ⟨rfl, rfl⟩

/-- The root, bit by bit. -/
def bpf (B : Nat → Nat → Nat) (p : Nat) : Nat → Nat
  | 0 => 0
  | k + 1 => bpf B p k ||| (B (bpf B p k ||| 1 <<< (34 - k)) p <<< (34 - k))

theorem bpf_lt (B : Nat → Nat → Nat) (hB : ∀ r p, B r p ≤ 1) (p k : Nat) (hk : k ≤ 35) : bpf B p k < 34359738368 := by
  induction k with
  | zero => show 0 < 34359738368; decide
  | succ k ih =>
    have h1 := ih (by omega)
    refine Nat.or_lt_two_pow (n := 35) h1 ?_
    rw [Nat.shiftLeft_eq]
    have := hB (bpf B p k ||| 1 <<< (34 - k)) p
    calc _ ≤ 1 * 2 ^ (34 - k) := Nat.mul_le_mul_right _ this
      _ ≤ 1 * 2 ^ 34 := Nat.mul_le_mul_left _ (Nat.pow_le_pow_right (by decide) (by omega))
      _ < 2 ^ 35 := by decide

theorem ltN_le (x y : Nat) : ltN x y ≤ 1 := by unfold ltN; split <;> omega
theorem two_pow_wrap (n : Nat) (h : n ≤ 34) : IntKind.u64.wrap ((2 : Int) ^ n) = ((1 <<< n : Nat) : Int) := by
  rw [IntKind.wrap_u64, Nat.shiftLeft_eq, Nat.one_mul]
  have : 2 ^ n ≤ 2 ^ 34 := Nat.pow_le_pow_right (by decide) h
  have e : ((2 : Int) ^ n) = ((2 ^ n : Nat) : Int) := by rw [Int.natCast_pow]; rfl
  rw [e]; generalize 2 ^ n = q at this ⊢; omega
theorem or_step (B : Nat → Nat → Nat) (hB : ∀ r p, B r p ≤ 1) (p k n : Nat) (hn : n + k = 34) :
    bits .or .u64 (bpf B p k : Int) (IntKind.u64.wrap ((2 : Int) ^ n)) = ((bpf B p k ||| 1 <<< n : Nat) : Int) := by
  have h1 := bpf_lt B hB p k (by omega)
  have : 2 ^ n ≤ 2 ^ 34 := Nat.pow_le_pow_right (by decide) (by omega)
  rw [two_pow_wrap n (by omega), u64_or_nat _ _ (by omega) (by rw [Nat.shiftLeft_eq]; omega)]
theorem or_step2 (B : Nat → Nat → Nat) (hB : ∀ r p, B r p ≤ 1) (p k n x : Nat) (hn : n + k = 34) (hx : (bpf B p k ||| 1 <<< n) = x) :
    bits .or .u64 (bpf B p k : Int) (IntKind.u64.wrap ((B x p : Int) * (2 : Int) ^ n)) = (bpf B p (k + 1) : Int) := by
  have h1 := bpf_lt B hB p k (by omega)
  have h2 : 2 ^ n ≤ 2 ^ 34 := Nat.pow_le_pow_right (by decide) (by omega)
  have h3 := hB x p
  have h4 : B x p * 2 ^ n ≤ 1 * 2 ^ n := Nat.mul_le_mul_right _ h3
  have e : IntKind.u64.wrap ((B x p : Int) * (2 : Int) ^ n) = ((B x p <<< n : Nat) : Int) := by
    rw [IntKind.wrap_u64, Nat.shiftLeft_eq]
    have e : ((B x p : Int) * (2 : Int) ^ n) = ((B x p * 2 ^ n : Nat) : Int) := by rw [Int.natCast_mul, Int.natCast_pow]; rfl
    rw [e]; omega
  rw [e, u64_or_nat _ _ (by omega) (by rw [Nat.shiftLeft_eq]; omega)]
  show _ = ((bpf B p k ||| (B (bpf B p k ||| 1 <<< (34 - k)) p <<< (34 - k)) : Nat) : Int)
  rw [show 34 - k = n by omega, hx]
theorem or_lt (B : Nat → Nat → Nat) (hB : ∀ r p, B r p ≤ 1) (p k n : Nat) (hn : n + k = 34) : (bpf B p k ||| 1 <<< n) < 18446744073709551616 := by
  have h1 := bpf_lt B hB p k (by omega)
  have : 2 ^ n ≤ 2 ^ 34 := Nat.pow_le_pow_right (by decide) (by omega)
  have := Nat.or_lt_two_pow (n := 64) (x := bpf B p k) (y := 1 <<< n) (by omega) (by rw [Nat.shiftLeft_eq]; omega)
  omega
theorem low32 (n : Nat) : ((n : Int)) % 4294967296 = V (BitVec.ofNat 32 n) := by
  unfold V; rw [BitVec.toNat_ofNat]; omega

set_option maxHeartbeats 400000 in
theorem behind_sq (p : Nat) (w : World) :
    Calls Try.prog 64 #[.int .u64 (p : Int), .func (.func 65) #[] #[]] w fun e w' => e = .returned (.int .u32 (V (BitVec.ofNat 32 (bpf sqB p 35)))) ∧ w = w' := by
  go_enter Try.func64, Try.ntmps64
  go_wp2_with fail
  go_loop [5, 6] (fun r i => ∃ k : Nat, k ≤ 35 ∧ i = .int .i64 (34 - (k : Int)) ∧ r = .int .u64 (bpf sqB p k : Int)) (fun _ i => (intOf i + 1).toNat)
  case atStart => exact ⟨0, by omega, rfl, rfl⟩
  case round =>
    obtain ⟨k, hk, rfl, rfl⟩ := hrel
    by_cases hlt : k ≤ 34
    · obtain ⟨n, hn⟩ : ∃ n, n + k = 34 := ⟨34 - k, by omega⟩
      have e : (34 : Int) - (k : Int) = (n : Int) := by omega
      have h1 := or_step sqB (fun _ _ => ltN_le _ _) p k n hn
      have hx := or_lt sqB (fun _ _ => ltN_le _ _) p k n hn
      obtain ⟨x, hX⟩ : ∃ x, (bpf sqB p k ||| 1 <<< n) = x := ⟨_, rfl⟩
      have h2 := or_step2 sqB (fun _ _ => ltN_le _ _) p k n x hn hX
      rw [hX] at h1 hx
      rw [e]
      have hn' : n ≤ 34 := by omega
      have hn2 : (n : Int) - 1 = 34 - ((k + 1 : Nat) : Int) := by omega
      have hn2' := Lib.hid hn2
      clear hX e hn2
      go_wp2_with fail
      refine (square_any x p hx _).mono ?_
      rintro e w' ⟨rfl, rfl⟩
      go_wp2_with fail
      go_round
      case rel => exact ⟨k + 1, by omega, by rw [hn2'.out], rfl⟩
      case measure => simp [intOf]
    · obtain rfl : k = 35 := by omega
      have hl := low32 (bpf sqB p 35)
      go_wp2_with fail
      go_ret
      exact ⟨rfl, rfl⟩

set_option maxHeartbeats 400000 in
theorem behind_cu (p : Nat) (w : World) :
    Calls Try.prog 64 #[.int .u64 (p : Int), .func (.func 66) #[] #[]] w fun e w' => e = .returned (.int .u32 (V (BitVec.ofNat 32 (bpf cuB p 35)))) ∧ w = w' := by
  go_enter Try.func64, Try.ntmps64
  go_wp2_with fail
  go_loop [5, 6] (fun r i => ∃ k : Nat, k ≤ 35 ∧ i = .int .i64 (34 - (k : Int)) ∧ r = .int .u64 (bpf cuB p k : Int)) (fun _ i => (intOf i + 1).toNat)
  case atStart => exact ⟨0, by omega, rfl, rfl⟩
  case round =>
    obtain ⟨k, hk, rfl, rfl⟩ := hrel
    by_cases hlt : k ≤ 34
    · obtain ⟨n, hn⟩ : ∃ n, n + k = 34 := ⟨34 - k, by omega⟩
      have e : (34 : Int) - (k : Int) = (n : Int) := by omega
      have h1 := or_step cuB (fun _ _ => ltN_le _ _) p k n hn
      have hx := or_lt cuB (fun _ _ => ltN_le _ _) p k n hn
      obtain ⟨x, hX⟩ : ∃ x, (bpf cuB p k ||| 1 <<< n) = x := ⟨_, rfl⟩
      have h2 := or_step2 cuB (fun _ _ => ltN_le _ _) p k n x hn hX
      rw [hX] at h1 hx
      rw [e]
      have hn' : n ≤ 34 := by omega
      have hn2 : (n : Int) - 1 = 34 - ((k + 1 : Nat) : Int) := by omega
      have hn2' := Lib.hid hn2
      clear hX e hn2
      go_wp2_with fail
      refine (cube_any x p hx _).mono ?_
      rintro e w' ⟨rfl, rfl⟩
      go_wp2_with fail
      go_round
      case rel => exact ⟨k + 1, by omega, by rw [hn2'.out], rfl⟩
      case measure => simp [intOf]
    · obtain rfl : k = 35 := by omega
      have hl := low32 (bpf cuB p 35)
      go_wp2_with fail
      go_ret
      exact ⟨rfl, rfl⟩

end Go.Proofs.Ytphbkbjgjicncaa.sh
