/-
  Math · Words · Nums · Base · Leafs · Num · Seeming · Gets · Frames · Quiet · Any · Sums: merged.
-/
import Derived.Laws.BitsAllLaws
import Derived.Test.YtfilolmbppjbjaaGreatRows
import Derived.Deep.MidRow
import Derived.Deep.WholeRow
import Derived.Deep.Upon
import Derived.Laws.CopyOwn
import Derived.Laws.AppendOwn
import Derived.Laws.AppendOwnNone
import Derived.Laws.StructEq
import Derived.ChangeKeysEq
import Derived.Below
import Derived.Tactics
import Derived.ProofKit
import Derived.OpenShut
import Derived.ChangeSlices
import Derived.Lib.Strings
import Derived.Lib.Hide
import Derived.WalkKit
import Derived.BigQuiet
import Derived.Deep.QuietTactic
import Derived.WalkSpells
import Derived.WalkLawsBesides
import Derived.Handy
import Derived.Laws.IdiomStrings
import Derived.Lib.OthersKept
import Derived.StillTailTactics
import Derived.Deep.RegionHeld3
import Derived.Deep.Quiet
import Derived.RegionTactic
import Derived.Shelf.Abstract
namespace Go.Proofs.YtfilolmbppjbjaaGreat

def poly : BitVec 32 := 3988292384#32
/-- One halving. -/
def hv1 (c : BitVec 32) : BitVec 32 := if c.getLsbD 0 then (c >>> 1) ^^^ poly else c >>> 1
/-- So many halvings. -/
def hv : Nat → BitVec 32 → BitVec 32
  | 0, c => c
  | n + 1, c => hv1 (hv n c)

theorem hv1_xor (a b : BitVec 32) : hv1 (a ^^^ b) = hv1 a ^^^ hv1 b := by
  have hx : ∀ p q r : BitVec 32, p ^^^ r ^^^ (q ^^^ r) = p ^^^ q := fun p q r => by
    apply BitVec.eq_of_getLsbD_eq; intro i hi; simp only [BitVec.getLsbD_xor]; cases p.getLsbD i <;> cases q.getLsbD i <;> cases r.getLsbD i <;> rfl
  have hy : ∀ p q r : BitVec 32, p ^^^ q ^^^ r = p ^^^ r ^^^ q := fun p q r => by
    apply BitVec.eq_of_getLsbD_eq; intro i hi; simp only [BitVec.getLsbD_xor]; cases p.getLsbD i <;> cases q.getLsbD i <;> cases r.getLsbD i <;> rfl
  have hz : ∀ p q r : BitVec 32, p ^^^ q ^^^ r = p ^^^ (q ^^^ r) := fun p q r => BitVec.xor_assoc _ _ _
  unfold hv1
  rw [BitVec.getLsbD_xor, BitVec.ushiftRight_xor_distrib]
  cases ha : a.getLsbD 0 <;> cases hb : b.getLsbD 0
  · simp
  · simp [hz]
  · simp [hy]
  · simp [hx]

theorem hv_xor (n : Nat) (a b : BitVec 32) : hv n (a ^^^ b) = hv n a ^^^ hv n b := by
  induction n with
  | zero => rfl
  | succ n ih => simp only [hv, ih, hv1_xor]

theorem hv_add (m n : Nat) (c : BitVec 32) : hv (m + n) c = hv n (hv m c) := by
  induction n with
  | zero => rfl
  | succ n ih => show hv1 (hv (m + n) c) = hv1 (hv n (hv m c)); rw [ih]

/-- Where the lowest bits are 0 halvings only move down. -/
theorem hv_low (n : Nat) (y : BitVec 32) (h : ∀ i, i < n → y.getLsbD i = false) : hv n y = y >>> n := by
  induction n with
  | zero => simp [hv]
  | succ n ih =>
    show hv1 (hv n y) = _
    rw [ih (fun i hi => h i (by omega))]
    unfold hv1
    have : (y >>> n).getLsbD 0 = false := by rw [BitVec.getLsbD_ushiftRight]; simpa using h n (by omega)
    rw [this]
    simp [BitVec.shiftRight_add]

theorem hv1_zero (d : BitVec 32) (h : hv1 d = 0#32) : d = 0#32 := by
  unfold hv1 at h
  cases hd : d.getLsbD 0
  · rw [hd] at h
    simp only [Bool.false_eq_true, if_false] at h
    apply BitVec.eq_of_getLsbD_eq
    intro i hi
    cases i with
    | zero => rw [hd]; rfl
    | succ i =>
      have := congrArg (fun v => BitVec.getLsbD v i) h
      simp only [BitVec.getLsbD_ushiftRight] at this
      rw [Nat.add_comm, this]; simp
  · rw [hd] at h
    simp only [if_true] at h
    have := congrArg (fun v => BitVec.getLsbD v 31) h
    have hp : poly.getLsbD 31 = true := by decide
    simp only [BitVec.getLsbD_xor, BitVec.getLsbD_ushiftRight, hp, BitVec.getLsbD_zero] at this
    rw [BitVec.getLsbD_of_ge _ _ (by decide)] at this
    exact absurd this (by decide)

theorem hv_zero (n : Nat) (d : BitVec 32) (h : hv n d = 0#32) : d = 0#32 := by
  induction n with
  | zero => exact h
  | succ n ih => exact ih (hv1_zero _ h)

theorem xor_zero_eq (a b : BitVec 32) (h : a ^^^ b = 0#32) : a = b := by
  apply BitVec.eq_of_getLsbD_eq
  intro i hi
  have := congrArg (fun v => BitVec.getLsbD v i) h
  simp only [BitVec.getLsbD_xor, BitVec.getLsbD_zero] at this
  cases ha : a.getLsbD i <;> cases hb : b.getLsbD i <;> simp_all

theorem hv_inj (n : Nat) (a b : BitVec 32) (h : hv n a = hv n b) : a = b := by
  apply xor_zero_eq
  apply hv_zero n
  rw [hv_xor, h, BitVec.xor_self]

/-- A byte as a word. -/
def byte (b : UInt8) : BitVec 32 := BitVec.ofNat 32 b.toNat
/-- A word behind one byte. -/
def stp (c : BitVec 32) (b : UInt8) : BitVec 32 := hv 8 (c ^^^ byte b)
/-- A word behind bytes. -/
def run (c : BitVec 32) (l : List UInt8) : BitVec 32 := l.foldl stp c
/-- The check. -/
def more (c : BitVec 32) (l : List UInt8) : BitVec 32 := ~~~(run (~~~c) l)

theorem byte_inj (a b : UInt8) (h : byte a = byte b) : a = b := by
  have := congrArg BitVec.toNat h
  simp only [byte, BitVec.toNat_ofNat] at this
  have ha := a.toNat_lt; have hb := b.toNat_lt
  apply UInt8.toNat_inj.mp
  omega

/-- The four lowest bits by a table, the others moved down. -/
theorem hv4 (x : BitVec 32) : hv 4 x = hv 4 (x &&& 15#32) ^^^ (x >>> 4) := by
  have h1 : x = (x &&& 15#32) ^^^ (x &&& ~~~15#32) := by
    apply BitVec.eq_of_getLsbD_eq; intro i hi
    simp only [BitVec.getLsbD_xor, BitVec.getLsbD_and, BitVec.getLsbD_not, hi, decide_true, Bool.true_and]
    cases x.getLsbD i <;> cases (15#32).getLsbD i <;> rfl
  have h2 : hv 4 (x &&& ~~~15#32) = x >>> 4 := by
    rw [hv_low]
    · apply BitVec.eq_of_getLsbD_eq; intro i hi
      rw [BitVec.getLsbD_ushiftRight, BitVec.getLsbD_ushiftRight, BitVec.getLsbD_and, BitVec.getLsbD_not]
      by_cases h : 4 + i < 32
      · have hm : (15#32).getLsbD (4 + i) = false := by
          have : ∀ j : Fin 28, (15#32).getLsbD (4 + j.val) = false := by decide
          exact this ⟨i, by omega⟩
        rw [hm, decide_eq_true h]; cases x.getLsbD (4 + i) <;> rfl
      · have : x.getLsbD (4 + i) = false := BitVec.getLsbD_of_ge _ _ (by omega)
        simp [this]
    · intro i hi
      have hm : (15#32).getLsbD i = true := by
        have : ∀ j : Fin 4, (15#32).getLsbD j.val = true := by decide
        exact this ⟨i, hi⟩
      rw [BitVec.getLsbD_and, BitVec.getLsbD_not, hm]; simp
  calc hv 4 x = hv 4 ((x &&& 15#32) ^^^ (x &&& ~~~15#32)) := by rw [← h1]
    _ = _ := by rw [hv_xor, h2]

theorem hv8 (x : BitVec 32) : hv 8 x = hv 4 (hv 4 x) := hv_add 4 4 x

theorem run_append (c : BitVec 32) (a b : List UInt8) : run c (a ++ b) = run (run c a) b := by
  unfold run; rw [List.foldl_append]

theorem more_append (c : BitVec 32) (a b : List UInt8) : more c (a ++ b) = more (more c a) b := by
  unfold more; rw [run_append, BitVec.not_not]

theorem run_inj (a b : BitVec 32) (l : List UInt8) (h : run a l = run b l) : a = b := by
  induction l generalizing a b with
  | nil => exact h
  | cons x l ih =>
    have := ih _ _ h
    have := hv_inj 8 _ _ this
    have := congrArg (· ^^^ byte x) this
    simpa [BitVec.xor_assoc] using this

theorem not_inj (a b : BitVec 32) (h : ~~~a = ~~~b) : a = b := by
  have := congrArg (~~~ ·) h
  simpa using this

/-- One byte that is another one is told. -/
theorem more_byte (c : BitVec 32) (a b : List UInt8) (x y : UInt8) (h : more c (a ++ (x :: b)) = more c (a ++ (y :: b))) : x = y := by
  have h1 := not_inj _ _ h
  rw [run_append, run_append] at h1
  have h2 : run (stp (run (~~~c) a) x) b = run (stp (run (~~~c) a) y) b := h1
  have h3 := hv_inj 8 _ _ (run_inj _ _ _ h2)
  apply byte_inj
  have := congrArg (run (~~~c) a ^^^ ·) h3
  simpa [← BitVec.xor_assoc] using this

end Go.Proofs.YtfilolmbppjbjaaGreat

namespace Go.Proofs.YtfilolmbppjbjaaGreat

/-- A word as a number. -/
def V (c : BitVec 32) : Int := (c.toNat : Int)

theorem V_lo (a : BitVec 32) : 0 ≤ V a := by unfold V; omega
theorem V_hi (a : BitVec 32) : V a ≤ 4294967295 := by have := a.isLt; unfold V; omega
theorem V_inj (a b : BitVec 32) (h : V a = V b) : a = b := by
  unfold V at h; exact BitVec.eq_of_toNat_eq (by omega)
theorem V_of (n : Int) (h0 : 0 ≤ n) (h1 : n ≤ 4294967295) : V (BitVec.ofNat 32 n.toNat) = n := by
  unfold V; rw [BitVec.toNat_ofNat]; omega
theorem V_ofNat (n : Nat) (h1 : n < 4294967296) : V (BitVec.ofNat 32 n) = n := by
  unfold V; rw [BitVec.toNat_ofNat]; omega

theorem xorV (a b : BitVec 32) : bits .xor .u32 (V a) (V b) = V (a ^^^ b) := by
  unfold V
  rw [u32_xor_nat _ _ a.isLt b.isLt, BitVec.toNat_xor]
theorem andV (a b : BitVec 32) : bits .and .u32 (V a) (V b) = V (a &&& b) := by
  unfold V
  rw [u32_and_nat _ _ a.isLt b.isLt, BitVec.toNat_and]
theorem orV (a b : BitVec 32) : bits .or .u32 (V a) (V b) = V (a ||| b) := by
  unfold V
  rw [u32_or_nat _ _ a.isLt b.isLt, BitVec.toNat_or]
theorem V_poly : V poly = 3988292384 := by decide
theorem xor_poly (a : BitVec 32) : bits .xor .u32 (V a) 3988292384 = V (a ^^^ poly) := by
  rw [← V_poly, xorV]
theorem byteV (b : UInt8) : (b.toNat : Int) % 4294967296 = V (byte b) := by
  unfold byte; rw [V_ofNat _ (by have := b.toNat_lt; omega)]; have := b.toNat_lt; omega
theorem shrV (a : BitVec 32) (n : Nat) : V a / (2 ^ n : Nat) = V (a >>> n) := by
  unfold V; rw [BitVec.toNat_ushiftRight, Nat.shiftRight_eq_div_pow]; rfl
theorem shr1 (a : BitVec 32) : V a / (2 : Int) = V (a >>> 1) := shrV a 1
theorem shr4 (a : BitVec 32) : V a / (16 : Int) = V (a >>> 4) := shrV a 4
theorem tdiv2 (a : BitVec 32) : (V a).tdiv (2 : Int) % (4294967296 : Int) = V (a >>> 1) := by
  rw [Int.tdiv_eq_ediv_of_nonneg (V_lo a), shr1]
  have := V_lo (a >>> 1); have := V_hi (a >>> 1); omega
theorem low1 (a : BitVec 32) : a.getLsbD 0 = decide (a.toNat % 2 = 1) := by
  rw [BitVec.getLsbD, Nat.testBit_zero]
theorem and1 (a : BitVec 32) : (bits .and .u32 (V a) 1 == 0) = !a.getLsbD 0 := by
  have h : bits .and .u32 (V a) 1 = ((a.toNat % 2 : Nat) : Int) := by
    have := u32_and_nat a.toNat 1 a.isLt (by decide)
    rw [nat_mask1] at this
    exact this
  rw [h, low1]
  have : a.toNat % 2 = 0 ∨ a.toNat % 2 = 1 := by omega
  rcases this with h | h <;> rw [h] <;> rfl
theorem tmod2 (a : BitVec 32) : ((V a).tmod 2 == 1) = a.getLsbD 0 := by
  rw [Int.tmod_eq_emod_of_nonneg (V_lo a), low1]
  unfold V
  have : a.toNat % 2 = 0 ∨ a.toNat % 2 = 1 := by omega
  rcases this with h | h
  · rw [h, show ((a.toNat : Int) % 2) = 0 by omega]; rfl
  · rw [h, show ((a.toNat : Int) % 2) = 1 by omega]; rfl
theorem and15 (a : BitVec 32) : bits .and .u32 (V a) 15 = V (a &&& 15#32) := andV a 15#32
theorem and15_lt (a : BitVec 32) : (a &&& 15#32).toNat < 16 := by
  rw [BitVec.toNat_and]
  exact Nat.lt_of_le_of_lt Nat.and_le_right (by decide)
theorem notV (a : BitVec 32) : 4294967295 - V a = V (~~~a) := by
  unfold V; rw [BitVec.toNat_not]; have := a.isLt; omega
theorem xor_ones (a : BitVec 32) : bits .xor .u32 4294967295 (V a) = V (~~~a) := by
  have h := xorV (BitVec.allOnes 32) a
  rw [BitVec.allOnes_xor] at h
  exact h

theorem hv1_even (a : BitVec 32) (h : a.getLsbD 0 = false) : hv1 a = a >>> 1 := by unfold hv1; rw [h]; rfl
theorem hv1_odd (a : BitVec 32) (h : a.getLsbD 0 = true) : hv1 a = (a >>> 1) ^^^ poly := by unfold hv1; rw [h]; rfl

theorem u32_eq {a b : Int} (h : a = b) : Value.int .u32 a = Value.int .u32 b := by rw [h]
theorem ret_u32 {a b : Int} (h : a = b) : Ending.returned (.int .u32 a) = .returned (.int .u32 b) := by rw [h]

def T (i : Nat) : Int := V (hv 4 (BitVec.ofNat 32 i))

/-- What a byte comes to, in the walk's own words. -/
structure Nibs (d : BitVec 32) (b : UInt8) (x y : BitVec 32) (i j : Nat) : Prop where
  hi : i < 16
  hj : j < 16
  r0 : (b.toNat : Int) % 4294967296 = V (byte b)
  r1 : bits .xor .u32 (V d) (V (byte b)) = V x
  r2 : bits .and .u32 (V x) 15 = (i : Int)
  r3 : bits .xor .u32 (T i) (V x / (16 : Int)) = V y
  r4 : bits .and .u32 (V y) 15 = (j : Int)
  r5 : bits .xor .u32 (T j) (V y / (16 : Int)) = V (stp d b)

theorem nibs_of (d : BitVec 32) (b : UInt8) : ∃ x y i j, Nibs d b x y i j := by
  have key : ∀ x : BitVec 32, bits .xor .u32 (T (x &&& 15#32).toNat) (V x / (16 : Int)) = V (hv 4 x) := fun x => by
    rw [shr4]
    unfold T
    rw [BitVec.ofNat_toNat, BitVec.setWidth_eq, xorV, ← hv4]
  refine ⟨d ^^^ byte b, hv 4 (d ^^^ byte b), _, _, and15_lt _, and15_lt _, byteV b, xorV _ _, and15 _, key _, and15 _, ?_⟩
  rw [key, ← hv8]; rfl

theorem max_u32 : IntKind.u32.max = 4294967295 := by decide

theorem run_snoc (c : BitVec 32) (s : ByteArray) (k : Nat) (h : k < s.size) : run c (s.data.toList.take (k + 1)) = stp (run c (s.data.toList.take k)) s[k] := by
  rw [List.take_succ_eq_append_getElem (by simpa using h), run_append]
  rfl

theorem tab_at (i : Nat) (h : i < 16) : (#[.int .u32 (T 0), .int .u32 (T 1), .int .u32 (T 2), .int .u32 (T 3), .int .u32 (T 4), .int .u32 (T 5), .int .u32 (T 6), .int .u32 (T 7), .int .u32 (T 8), .int .u32 (T 9), .int .u32 (T 10), .int .u32 (T 11), .int .u32 (T 12), .int .u32 (T 13), .int .u32 (T 14), .int .u32 (T 15)] : Array Value)[i]? = some (.int .u32 (T i)) := by
  obtain rfl | rfl | rfl | rfl | rfl | rfl | rfl | rfl | rfl | rfl | rfl | rfl | rfl | rfl | rfl | rfl : i = 0 ∨ i = 1 ∨ i = 2 ∨ i = 3 ∨ i = 4 ∨ i = 5 ∨ i = 6 ∨ i = 7 ∨ i = 8 ∨ i = 9 ∨ i = 10 ∨ i = 11 ∨ i = 12 ∨ i = 13 ∨ i = 14 ∨ i = 15 := by omega
  all_goals rfl


end Go.Proofs.YtfilolmbppjbjaaGreat

namespace Go.Proofs.YtfilolmbppjbjaaGreat

/-- Seven bits each, the lowest first, of at most so many more bytes. -/
def numF : Nat → Nat → List UInt8
  | 0, n => [UInt8.ofNat n]
  | f + 1, n => if n < 128 then [UInt8.ofNat n] else UInt8.ofNat (n % 128 + 128) :: numF f (n / 128)
/-- A number as bytes. -/
def num (n : Nat) : List UInt8 := numF 7 n
def big : Nat := 1125899906842624
def cl (n : Nat) : Nat := min n big
/-- The number that bytes seem to be. -/
def seem : Nat → List UInt8 → Nat
  | 0, _ => 0
  | _ + 1, [] => 0
  | f + 1, b :: l => b.toNat % 128 + (if b.toNat < 128 then 0 else 128 * seem f l)
/-- The number that bytes begin with. -/
def gn (l : List UInt8) : Option (Nat × List UInt8) :=
  if (num (cl (seem 8 l))).isPrefixOf l then some (seem 8 l, l.drop (num (cl (seem 8 l))).length) else none

theorem ofNat_toNat (n : Nat) (h : n < 256) : (UInt8.ofNat n).toNat = n := by rw [UInt8.toNat_ofNat']; omega

theorem numF_low (f n : Nat) (h : n < 128) : numF f n = [UInt8.ofNat n] := by
  cases f with
  | zero => rfl
  | succ f => unfold numF; rw [if_pos h]
theorem numF_high (f n : Nat) (h : 128 ≤ n) : numF (f + 1) n = UInt8.ofNat (n % 128 + 128) :: numF f (n / 128) := by
  rw [numF, if_neg (by omega)]
theorem numF_len (f n : Nat) : 1 ≤ (numF f n).length ∧ (numF f n).length ≤ f + 1 := by
  induction f generalizing n with
  | zero => simp [numF]
  | succ f ih =>
    by_cases h : n < 128
    · rw [numF_low _ _ h]; simp
    · rw [numF_high _ _ (by omega)]; have := ih (n / 128); simp; omega
theorem num_len (n : Nat) : 1 ≤ (num n).length ∧ (num n).length ≤ 8 := numF_len 7 n

theorem numF_form (f n : Nat) (h : n < 128 ^ (f + 1)) : ∃ p b, numF f n = p ++ [b] ∧ (∀ x ∈ p, 128 ≤ x.toNat) ∧ b.toNat < 128 := by
  induction f generalizing n with
  | zero =>
    refine ⟨[], UInt8.ofNat n, rfl, (fun x hx => by cases hx), ?_⟩
    rw [ofNat_toNat _ (by omega)]; simpa using h
  | succ f ih =>
    by_cases k : n < 128
    · refine ⟨[], UInt8.ofNat n, numF_low _ _ k, (fun x hx => by cases hx), ?_⟩
      rw [ofNat_toNat _ (by omega)]; exact k
    · have e : (128 : Nat) ^ (f + 1 + 1) = 128 ^ (f + 1) * 128 := rfl
      rw [e] at h
      obtain ⟨p, b, h1, h2, h3⟩ := ih (n / 128) (Nat.div_lt_of_lt_mul (by rw [Nat.mul_comm]; exact h))
      refine ⟨UInt8.ofNat (n % 128 + 128) :: p, b, by rw [numF_high _ _ (by omega), h1]; rfl, fun x hx => ?_, h3⟩
      rcases List.mem_cons.1 hx with rfl | hx
      · rw [ofNat_toNat _ (by omega)]; omega
      · exact h2 x hx
theorem seem_num (f n : Nat) (h : n < 128 ^ (f + 1)) (r : List UInt8) : seem (f + 1) (numF f n ++ r) = n := by
  induction f generalizing n with
  | zero =>
    show (UInt8.ofNat n).toNat % 128 + (if (UInt8.ofNat n).toNat < 128 then 0 else _) = n
    have : n < 128 := by simpa using h
    rw [ofNat_toNat _ (by omega), if_pos this]; omega
  | succ f ih =>
    by_cases k : n < 128
    · rw [numF_low _ _ k]
      show (UInt8.ofNat n).toNat % 128 + (if (UInt8.ofNat n).toNat < 128 then 0 else _) = n
      rw [ofNat_toNat _ (by omega), if_pos k]; omega
    · have e : (128 : Nat) ^ (f + 1 + 1) = 128 ^ (f + 1) * 128 := rfl
      rw [e] at h
      have hi := ih (n / 128) (Nat.div_lt_of_lt_mul (by rw [Nat.mul_comm]; exact h))
      rw [numF_high _ _ (by omega)]
      show (UInt8.ofNat (n % 128 + 128)).toNat % 128 + (if (UInt8.ofNat (n % 128 + 128)).toNat < 128 then 0 else 128 * seem (f + 1) (numF f (n / 128) ++ r)) = n
      rw [ofNat_toNat _ (by omega), if_neg (by omega), hi]; omega
theorem big_lt {n : Nat} (h : n ≤ big) : n < 128 ^ (7 + 1) := by unfold big at h; omega
theorem cl_le (n : Nat) : cl n ≤ big := Nat.min_le_right _ _
theorem cl_id {n : Nat} (h : n ≤ big) : cl n = n := Nat.min_eq_left h
theorem seem8 {n : Nat} (h : n ≤ big) (r : List UInt8) : seem 8 (num n ++ r) = n := seem_num 7 n (big_lt h) r

theorem gn_num {n : Nat} (h : n ≤ big) (r : List UInt8) : gn (num n ++ r) = some (n, r) := by
  unfold gn
  rw [seem8 h, cl_id h, if_pos (by rw [List.isPrefixOf_iff_prefix]; exact List.prefix_append _ _), List.drop_left]
theorem gn_some {l r : List UInt8} {n : Nat} (h : gn l = some (n, r)) : n ≤ big ∧ l = num n ++ r := by
  unfold gn at h
  split at h
  · rename_i hp
    obtain ⟨r', hr⟩ := List.isPrefixOf_iff_prefix.1 hp
    have hs := seem8 (cl_le (seem 8 l)) r'
    rw [hr] at hs
    injection h with h
    injection h with h1 h2
    rw [← hs] at hr
    have hc := cl_le (seem 8 l)
    rw [← hs, h1] at hc
    refine ⟨hc, ?_⟩
    rw [h1] at hr
    rw [h1, cl_id hc] at h2
    rw [← hr, List.drop_left] at h2
    rw [← h2]; exact hr.symm
  · cases h
theorem gn_iff {l r : List UInt8} {n : Nat} : gn l = some (n, r) ↔ n ≤ big ∧ l = num n ++ r :=
  ⟨gn_some, fun ⟨h, e⟩ => by rw [e]; exact gn_num h r⟩
theorem gn_seem {l r : List UInt8} {n : Nat} (h : gn l = some (n, r)) : seem 8 l = n := by
  obtain ⟨h1, h2⟩ := gn_some h
  rw [h2]; exact seem8 h1 r

/-- Bytes that go on up to a place, and a number that they begin with. -/
theorem num_at {l r : List UInt8} {n i : Nat} (hn : n ≤ big) (e : l = num n ++ r) (hi : i < l.length) (ha : ∀ x ∈ l.take i, 128 ≤ x.toNat) (hb : (l[i]).toNat < 128) : num n = l.take (i + 1) := by
  obtain ⟨p, b, h1, h2, h3⟩ := numF_form 7 n (big_lt hn)
  have h1' : num n = p ++ [b] := h1
  have hl : l = p ++ (b :: r) := by rw [e, h1']; simp
  have hpi : p.length = i := by
    rcases Nat.lt_trichotomy p.length i with k | k | k
    · have : b ∈ l.take i := by
        rw [hl, List.take_append]
        apply List.mem_append_right
        obtain ⟨m, hm⟩ : ∃ m, i - p.length = m + 1 := ⟨i - p.length - 1, by omega⟩
        rw [hm, List.take_succ_cons]
        exact List.mem_cons_self
      have := ha b this
      omega
    · exact k
    · have : l[i] ∈ p := by
        have e2 : l[i] = p[i] := by
          have : l[i]? = p[i]? := by rw [hl, List.getElem?_append_left k]
          rw [List.getElem?_eq_getElem hi, List.getElem?_eq_getElem k] at this
          exact Option.some.inj this
        rw [e2]; exact List.getElem_mem _
      have := h2 _ this
      omega
  rw [h1', hl, ← hpi, List.take_append, List.take_of_length_le (by omega), show p.length + 1 - p.length = 1 by omega]
  rfl
/-- Bytes that go on to their end, or for eight, begin with no number. -/
theorem gn_none {l : List UInt8} {i : Nat} (hi : i = l.length ∨ i = 8) (ha : ∀ x ∈ l.take i, 128 ≤ x.toNat) : gn l = none := by
  cases h : gn l with
  | none => rfl
  | some q =>
    obtain ⟨n, r⟩ := q
    obtain ⟨hn, e⟩ := gn_some h
    obtain ⟨p, b, h1, h2, h3⟩ := numF_form 7 n (big_lt hn)
    have h1' : num n = p ++ [b] := h1
    have hlen := (num_len n).2
    rw [h1'] at hlen
    simp only [List.length_append, List.length_cons, List.length_nil] at hlen
    have hl : l = p ++ (b :: r) := by rw [e, h1']; simp
    have : b ∈ l.take i := by
      have hll : l.length = p.length + (r.length + 1) := by rw [hl]; simp
      rw [hl, List.take_append]
      apply List.mem_append_right
      obtain ⟨m, hm⟩ : ∃ m, i - p.length = m + 1 := ⟨i - p.length - 1, by omega⟩
      rw [hm, List.take_succ_cons]
      exact List.mem_cons_self
    have := ha b this
    omega
theorem gn_big {l : List UInt8} (h : big < seem 8 l) : gn l = none := by
  cases e : gn l with
  | none => rfl
  | some q =>
    obtain ⟨n, r⟩ := q
    have h1 := gn_seem e
    have h2 := (gn_some e).1
    omega

/-- A text as bytes, and the text that bytes begin with. -/
def text (l : List UInt8) : List UInt8 := num (cl l.length) ++ l
def gt (l : List UInt8) (most : Int) : Option (List UInt8 × List UInt8) :=
  match gn l with
  | some (n, r) => if (n : Int) ≤ most ∧ n ≤ r.length then some (r.take n, r.drop n) else none
  | none => none
theorem gt_text {l : List UInt8} {most : Int} (hl : l.length ≤ big) (hm : (l.length : Int) ≤ most) (r : List UInt8) : gt (text l ++ r) most = some (l, r) := by
  unfold gt text
  rw [cl_id hl, List.append_assoc, gn_num hl]
  simp only
  rw [if_pos ⟨hm, by simp⟩, List.take_left, List.drop_left]
theorem gt_some {s l r : List UInt8} {most : Int} (h : gt s most = some (l, r)) : s = text l ++ r ∧ (l.length : Int) ≤ most ∧ l.length ≤ big := by
  unfold gt at h
  split at h
  · rename_i n q hq
    obtain ⟨h1, h2⟩ := gn_some hq
    split at h
    · rename_i hc
      injection h with h
      injection h with h3 h4
      have hll : l.length = n := by rw [← h3, List.length_take]; omega
      refine ⟨?_, by omega, by omega⟩
      unfold text
      rw [hll, cl_id h1, List.append_assoc, h2, ← h3, ← h4, List.take_append_drop]
    · cases h
  · cases h
theorem gt_short {l : List UInt8} {most : Int} (hl : l.length ≤ big) (hm : most < (l.length : Int)) (r : List UInt8) : gt (text l ++ r) most = none := by
  unfold gt text
  rw [cl_id hl, List.append_assoc, gn_num hl]
  simp only
  rw [if_neg (by omega)]

/-- The check of bytes as four bytes, the lowest first. -/
def cb (c : BitVec 32) (i : Nat) : UInt8 := UInt8.ofNat (c.toNat / 256 ^ i % 256)
def c4 (c : BitVec 32) : List UInt8 := [cb c 0, cb c 1, cb c 2, cb c 3]
def chk (l : List UInt8) : List UInt8 := c4 (more 0#32 l)
theorem chk_len (l : List UInt8) : (chk l).length = 4 := rfl
theorem c4_inj {a b : BitVec 32} (h : c4 a = c4 b) : a = b := by
  unfold c4 cb at h
  simp only [List.cons.injEq, and_true] at h
  obtain ⟨h0, h1, h2, h3⟩ := h
  have f : ∀ n : Nat, (UInt8.ofNat (n % 256)).toNat = n % 256 := fun n => ofNat_toNat _ (Nat.mod_lt _ (by decide))
  have g0 := congrArg UInt8.toNat h0
  have g1 := congrArg UInt8.toNat h1
  have g2 := congrArg UInt8.toNat h2
  have g3 := congrArg UInt8.toNat h3
  rw [f, f] at g0 g1 g2 g3
  apply BitVec.eq_of_toNat_eq
  have ha := a.isLt
  have hb := b.isLt
  simp only [Nat.pow_zero, Nat.pow_one, Nat.div_one, show (256 : Nat) ^ 2 = 65536 from rfl, show (256 : Nat) ^ 3 = 16777216 from rfl] at g0 g1 g2 g3
  omega
/-- A frame, and the frame that bytes begin with. -/
def frame (l : List UInt8) : List UInt8 := text l ++ chk (text l)
def gf (l : List UInt8) : Option (List UInt8 × List UInt8) :=
  match gt l 5000 with
  | some (t, r) => if (chk (text t)).isPrefixOf r then some (t, r.drop 4) else none
  | none => none
theorem gf_frame {l : List UInt8} (hl : l.length ≤ 5000) (r : List UInt8) : gf (frame l ++ r) = some (l, r) := by
  unfold gf frame
  rw [List.append_assoc, gt_text (by unfold big; omega) (by omega)]
  simp only
  rw [if_pos (by rw [List.isPrefixOf_iff_prefix]; exact List.prefix_append _ _)]
  have : (chk (text l) ++ r).drop 4 = r := List.drop_left' (chk_len _)
  rw [this]
theorem gf_some {s l r : List UInt8} (h : gf s = some (l, r)) : s = frame l ++ r ∧ l.length ≤ 5000 := by
  unfold gf at h
  split at h
  · rename_i t q hq
    obtain ⟨h1, h2, _⟩ := gt_some hq
    split at h
    · rename_i hc
      injection h with h
      injection h with h3 h4
      obtain ⟨r', hr⟩ := List.isPrefixOf_iff_prefix.1 hc
      subst h3
      refine ⟨?_, by omega⟩
      have : (chk (text t) ++ r').drop 4 = r' := List.drop_left' (chk_len _)
      rw [← hr, this] at h4
      subst h4
      rw [h1, ← hr]
      unfold frame
      rw [List.append_assoc]
    · cases h
  · cases h

/-- A frame in which one byte behind its length is another one is none. -/
theorem gf_torn {l : List UInt8} (hl : l.length ≤ 5000) (i : Nat) (h1 : (num (cl l.length)).length ≤ i) (h2 : i < (frame l).length) (x : UInt8) (hx : (frame l)[i] ≠ x) : gf ((frame l).set i x) = none := by
  have hb : l.length ≤ big := by unfold big; omega
  have key : ∀ l' c' : List UInt8, l'.length = l.length → c'.length = 4 → gf (num (cl l.length) ++ (l' ++ c')) = if chk (text l') = c' then some (l', []) else none := fun l' c' h3 h4 => by
    have e : num (cl l.length) ++ (l' ++ c') = text l' ++ c' := by unfold text; rw [h3, List.append_assoc]
    rw [e]
    unfold gf
    rw [gt_text (by omega) (by omega)]
    simp only
    by_cases hc : chk (text l') = c'
    · rw [if_pos (by rw [List.isPrefixOf_iff_prefix, hc]; exact List.prefix_refl _), if_pos hc, List.drop_of_length_le (by omega)]
    · rw [if_neg ?_, if_neg hc]
      intro hp
      rw [List.isPrefixOf_iff_prefix] at hp
      exact hc (hp.eq_of_length (by rw [chk_len, h4]))
  have ef : frame l = num (cl l.length) ++ (l ++ chk (text l)) := by unfold frame; conv => lhs; lhs; unfold text
                                                                     rw [List.append_assoc]
  have hlen : (frame l).length = (num (cl l.length)).length + (l.length + 4) := by rw [ef]; simp [chk_len]
  by_cases hc : i < (num (cl l.length)).length + l.length
  · obtain ⟨j, hj⟩ : ∃ j, i = (num (cl l.length)).length + j := ⟨i - (num (cl l.length)).length, by omega⟩
    subst hj
    have hjl : j < l.length := by omega
    have hg : (frame l)[(num (cl l.length)).length + j] = l[j] := by
      have : (frame l)[(num (cl l.length)).length + j]? = l[j]? := by
        rw [ef, List.getElem?_append_right (by omega), show (num (cl l.length)).length + j - (num (cl l.length)).length = j by omega, List.getElem?_append_left hjl]
      rw [List.getElem?_eq_getElem h2, List.getElem?_eq_getElem hjl] at this
      exact Option.some.inj this
    have es : (frame l).set ((num (cl l.length)).length + j) x = num (cl l.length) ++ (l.set j x ++ chk (text l)) := by
      rw [show (frame l).set = (num (cl l.length) ++ (l ++ chk (text l))).set by rw [← ef]]
      rw [List.set_append_right _ _ (by omega), show (num (cl l.length)).length + j - (num (cl l.length)).length = j by omega, List.set_append_left _ _ hjl]
    rw [es, key _ _ (by simp) (chk_len _), if_neg]
    intro hk
    have hm := c4_inj hk
    have hd : l = l.take j ++ (l[j] :: l.drop (j + 1)) := by rw [← List.drop_eq_getElem_cons hjl, List.take_append_drop]
    have hs : l.set j x = l.take j ++ (x :: l.drop (j + 1)) := by rw [List.set_eq_take_append_cons_drop, if_pos hjl]
    have e1 : text (l.set j x) = (num (cl l.length) ++ l.take j) ++ (x :: l.drop (j + 1)) := by
      unfold text
      rw [List.length_set, hs, List.append_assoc]
    have e2 : text l = (num (cl l.length) ++ l.take j) ++ (l[j] :: l.drop (j + 1)) := by
      unfold text
      conv => lhs; rhs; rw [hd]
      rw [List.append_assoc]
    rw [e1, e2] at hm
    exact hx (by rw [hg]; exact (more_byte _ _ _ _ _ hm).symm)
  · obtain ⟨j, hj⟩ : ∃ j, i = (num (cl l.length)).length + (l.length + j) := ⟨i - (num (cl l.length)).length - l.length, by omega⟩
    subst hj
    have hj4 : j < (chk (text l)).length := by rw [chk_len]; omega
    have es : (frame l).set ((num (cl l.length)).length + (l.length + j)) x = num (cl l.length) ++ (l ++ (chk (text l)).set j x) := by
      rw [show (frame l).set = (num (cl l.length) ++ (l ++ chk (text l))).set by rw [← ef]]
      rw [List.set_append_right _ _ (by omega), show (num (cl l.length)).length + (l.length + j) - (num (cl l.length)).length = l.length + j by omega, List.set_append_right _ _ (by omega), show l.length + j - l.length = j by omega]
    have hg : (frame l)[(num (cl l.length)).length + (l.length + j)] = (chk (text l))[j] := by
      have : (frame l)[(num (cl l.length)).length + (l.length + j)]? = (chk (text l))[j]? := by
        rw [ef, List.getElem?_append_right (by omega), show (num (cl l.length)).length + (l.length + j) - (num (cl l.length)).length = l.length + j by omega, List.getElem?_append_right (by omega), show l.length + j - l.length = j by omega]
      rw [List.getElem?_eq_getElem h2, List.getElem?_eq_getElem hj4] at this
      exact Option.some.inj this
    rw [es, key _ _ rfl (by simp [chk_len]), if_neg]
    intro hk
    apply hx
    rw [hg]
    have := congrArg (·[j]?) hk
    simp only [List.getElem?_set_self hj4, List.getElem?_eq_getElem hj4] at this
    exact Option.some.inj this

/-- The digest that bytes begin with. -/
def gs (l : List UInt8) : Option (List UInt8 × List UInt8) := if 32 ≤ l.length then some (l.take 32, l.drop 32) else none

end Go.Proofs.YtfilolmbppjbjaaGreat

namespace Go.Proofs.YtfilolmbppjbjaaGreat
open Go Go.RowKit

def li (s : ByteArray) : List UInt8 := s.data.toList
theorem li_len (s : ByteArray) : (li s).length = s.size := by simp [li]
theorem li_mk (l : List UInt8) : li ⟨l.toArray⟩ = l := by simp [li]
theorem mk_li (s : ByteArray) : (⟨(li s).toArray⟩ : ByteArray) = s := by cases s; simp [li]
theorem li_inj {s t : ByteArray} (h : li s = li t) : s = t := by rw [← mk_li s, ← mk_li t, h]
theorem li_app (a b : ByteArray) : li (a ++ b) = li a ++ li b := by unfold li; rw [ByteArray.data_append]; simp
theorem mk_size (l : List UInt8) : (⟨l.toArray⟩ : ByteArray).size = l.length := by simp [ByteArray.size]
theorem mk_app (a b : List UInt8) : (⟨a.toArray⟩ : ByteArray) ++ ⟨b.toArray⟩ = ⟨(a ++ b).toArray⟩ := li_inj (by rw [li_app, li_mk, li_mk, li_mk])
theorem toList_li (a : ByteArray) : a.toList = li a := by
  have : a = ⟨a.data.toList.toArray⟩ := by simp
  rw [this]; exact ByteArray.toList_mk _
def row (l : List UInt8) : Array Value := (l.map fun b => Value.int .u8 (b.toNat : Int)).toArray
theorem row_size (l : List UInt8) : (row l).size = l.length := by simp [row]
theorem row_at (l : List UInt8) (j : Nat) (h : j < l.length) : (row l)[j]? = some (.int .u8 ((l.getD j 0).toNat : Int)) := by
  unfold row; simp [h]
theorem row_set (l : List UInt8) (k : Nat) (b : UInt8) : (row l).setIfInBounds k (.int .u8 (b.toNat : Int)) = row (l.set k b) := by
  unfold row; simp [List.map_set]
/-- A row, and what is not there yet. -/
def pz {α : Type} (z : α) (n : Nat) (l : List α) : List α := l ++ List.replicate (n - l.length) z
theorem pz_length {α : Type} (z : α) (n : Nat) (l : List α) (h : l.length ≤ n) : (pz z n l).length = n := by
  simp [pz]; omega
theorem pz_getD {α : Type} (z : α) (n : Nat) (l : List α) (i : Nat) : (pz z n l).getD i z = l.getD i z := by
  unfold pz
  rw [List.getD_eq_getElem?_getD, List.getD_eq_getElem?_getD]
  by_cases h : i < l.length
  · rw [List.getElem?_append_left h]
  · rw [List.getElem?_append_right (by omega), List.getElem?_eq_none (l := l) (by omega)]
    by_cases h2 : i - l.length < n - l.length
    · rw [List.getElem?_replicate, if_pos h2]; rfl
    · rw [List.getElem?_replicate, if_neg h2]
theorem pz_set {α : Type} (z : α) (n : Nat) (l : List α) (x : α) (h : l.length < n) : (pz z n l).set l.length x = pz z n (l ++ [x]) := by
  unfold pz
  rw [List.set_append_right _ _ (Nat.le_refl _), Nat.sub_self]
  obtain ⟨m, hm⟩ : ∃ m, n - l.length = m + 1 := ⟨n - l.length - 1, by omega⟩
  rw [hm, List.replicate_succ, List.set_cons_zero, show n - (l ++ [x]).length = m by simp; omega]
  simp
theorem pz_zero {α : Type} (z : α) (n : Nat) (l : List α) (h : l.length < n) : pz z n (l ++ [z]) = pz z n l := by
  unfold pz
  obtain ⟨m, hm⟩ : ∃ m, n - l.length = m + 1 := ⟨n - l.length - 1, by omega⟩
  rw [hm, List.replicate_succ, show n - (l ++ [z]).length = m by simp; omega]
  simp
theorem pz_full {α : Type} (z : α) (n : Nat) (l : List α) (h : l.length = n) : pz z n l = l := by
  unfold pz; rw [h]; simp
theorem take_snocD {α : Type} (z : α) (l : List α) (k : Nat) (h : k < l.length) : l.take (k + 1) = l.take k ++ [l.getD k z] := by
  rw [List.take_succ_eq_append_getElem h, List.getD_eq_getElem?_getD, List.getElem?_eq_getElem h]; rfl

section
variable {P : Program}

theorem wpList_load_row {ops : Array Oper} {rest : List Oper} {op : Oper} {a : Act} {w : World} {Q : Exit → Act → World → Prop} (hgd : op.guard = none) (ty : TypeId) (x : Operand) (ho : op.op = .load ty x)
    (b : Nat) (hx : a.eval x = .pointer (some ⟨b, 0, none⟩)) (t : TypeId) (c : Array Value) (d : TypeDesc) (hg : w.heap[b]? = some (.cells c t))
    (hu : P.underlying ty = some d) (hd : (match d with | .struct _ | .array _ _ => true | _ => false) = true) (hi : (P.info? ty).map (·.size) = some c.size)
    (h : wpList P ops Q rest (a.put op.dst (.agg c)) w) : wpList P ops Q (op :: rest) a w :=
  wpList_plain hgd fun _ hK => by
    unfold Oper.wp execOp
    simp only [ho, hx, Instr.loadAt, Instr.sureAddr, Sem.run_bind, Sem.run_pure, Result.andThen_ok, run_loadVar_row w b t ty c (0, 0) d hg hu hd hi]
    exact hK _ _ h

theorem wpList_store_row {ops : Array Oper} {rest : List Oper} {op : Oper} {a : Act} {w : World} {Q : Exit → Act → World → Prop} (hgd : op.guard = none) (ty : TypeId) (x y : Operand) (ho : op.op = .store ty x y)
    (b : Nat) (cells : Array Value) (hx : a.eval x = .pointer (some ⟨b, 0, none⟩)) (hy : a.eval y = .agg cells) (t : TypeId) (old : Array Value)
    (hg : w.heap[b]? = some (.cells old t)) (hi : (P.info? ty).map (·.size) = some cells.size) (hs : old.size = cells.size) (h1 : cells.all (·.oneCell') = true)
    (h : wpList P ops Q rest (a.put op.dst undef) (w.setRow b cells)) : wpList P ops Q (op :: rest) a w :=
  wpList_plain hgd fun _ hK => by
    unfold Oper.wp execOp
    simp only [ho, hx, hy, Instr.storeAt, Instr.sureAddr, Sem.run_bind, Sem.run_pure, Result.andThen_ok, run_storeVar_row w b t ty old cells hg hi hs h1]
    exact hK _ _ h

theorem results_row {fn : Func} {p : Tmp} {ty : TypeId} (h : fn.results = #[.cell p ty]) (tmps : Array Value) (b : Nat) (hp : tmps.getD p undef = .pointer (some ⟨b, 0, none⟩)) (w : World) (t : TypeId) (c : Array Value) (d : TypeDesc)
    (hg : w.heap[b]? = some (.cells c t)) (hu : P.underlying ty = some d) (hd : (match d with | .struct _ | .array _ _ => true | _ => false) = true) (hi : (P.info? ty).map (·.size) = some c.size) :
    (results fn tmps).run P w = .ok (.agg c) w := by
  have := run_loadVar_row (P := P) w b t ty c (0, 0) d hg hu hd hi
  simp only [results, h]
  have hp' : tmps[p]?.getD undef = .pointer (some ⟨b, 0, none⟩) := by simpa using hp
  simp [hp', this, asAddr]

/-- The end of a call whose one result is a whole array in a block. -/
theorem bodyPost_row {fn : Func} {R : Ending → World → Prop} {a : Act} {w : World} (p : Tmp) (ty : TypeId) (h : fn.results = #[.cell p ty]) (b : Nat) (hp : a.tmps.getD p undef = .pointer (some ⟨b, 0, none⟩)) (t : TypeId) (c : Array Value) (d : TypeDesc)
    (hg : w.heap[b]? = some (.cells c t)) (hu : P.underlying ty = some d) (hd : (match d with | .struct _ | .array _ _ => true | _ => false) = true) (hi : (P.info? ty).map (·.size) = some c.size)
    (hdf : a.defers = []) (hR : R (.returned (.agg c)) w) : bodyPost P fn R .ret a w :=
  bodyPost_ret (results_row h a.tmps b hp w t c d hg hu hd hi) hdf hR

/-- A cell of an array that is a value. -/
theorem run_index_row (t e : TypeId) (n : Nat) (cs : Array Value) (i : Nat) (v : Value) (hu : P.underlying t = some (.array n e)) (ha : ∀ w, (isAgg e).run P w = .ok false w) (hs : ∀ w, (sizeOf e).run P w = .ok 1 w)
    (hi : i < n) (hv : cs[i]? = some v) (w : World) : (Instr.index t (.agg cs) (.int .i64 (i : Int))).run P w = .ok v w := by
  unfold Instr.index
  simp only [Sem.run_bind, asIntOf, Sem.run_pure, Result.andThen_ok, run_underlying hu w]
  rw [if_pos ⟨by omega, by omega⟩]
  simp only [Sem.run_bind, hs, Result.andThen_ok, part, ha]
  simp [hv]

theorem heap_alloc_if (w : World) (o : Obj) (k : Nat) : (w.alloc o).heap[k]? = if k = w.heap.size then some o else w.heap[k]? := by
  show (w.heap.push o)[k]? = _
  rw [Array.getElem?_push]

end
theorem lt_of_some {v : World} {b : Nat} {o : Obj} (h : v.heap[b]? = some o) : b < v.heap.size := (Array.getElem?_eq_some_iff.1 h).1
theorem frozen_row {w : World} {z : Nat} {c : Array Value} {t : TypeId} (h : w.heap[z]? = some (.cells c t)) (j : Nat) : w.frozen? ⟨z, j, none⟩ = false := frozen_of_row w z j c t h
theorem row_one (l : List UInt8) : (row l).all (·.oneCell') = true := by
  unfold row; simp [Value.oneCell']
/-- Nothing old has turned, below a block: 'Below' without the tape. -/
structure Belo (B : Nat) (w w' : World) : Prop where
  os : w'.os = w.os
  output : w'.output = w.output
  size : w.heap.size ≤ w'.heap.size
  block : ∀ k, k < B → w'.heap[k]? = w.heap[k]?
theorem Belo.of {B : Nat} {w w' : World} (h : Below B w w') : Belo B w w' := ⟨h.os, h.output, h.size, h.block⟩
theorem Belo.refl (B : Nat) (w : World) : Belo B w w := ⟨rfl, rfl, Nat.le_refl _, fun _ _ => rfl⟩
theorem Belo.trans {B : Nat} {a b c : World} (h : Belo B a b) (k : Belo B b c) : Belo B a c :=
  ⟨k.os.trans h.os, k.output.trans h.output, Nat.le_trans h.size k.size, fun i hi => (k.block i hi).trans (h.block i hi)⟩
theorem Belo.mono {B B' : Nat} {w w' : World} (h : Belo B w w') (hB : B' ≤ B) : Belo B' w w' := ⟨h.os, h.output, h.size, fun k hk => h.block k (Nat.lt_of_lt_of_le hk hB)⟩
theorem Belo.frame {W w' : World} (h : Belo W.heap.size W w') (may : MemPlace → Prop) : W.keptBut w' may := by
  refine ⟨h.os, h.output, fun i hi => ?_⟩
  rw [h.block i hi]
  split <;> simp_all

def byteL (l : List UInt8) : List Value := l.map fun b => Value.int .u8 (b.toNat : Int)
theorem byteL_length (l : List UInt8) : (byteL l).length = l.length := by simp [byteL]
theorem byteL_append (l m : List UInt8) : byteL (l ++ m) = byteL l ++ byteL m := by simp [byteL]
theorem byteL_one (l : List UInt8) : ∀ u ∈ byteL l, u.oneCell' = true := by
  intro u hu; unfold byteL at hu; rw [List.mem_map] at hu; obtain ⟨b, _, rfl⟩ := hu; rfl
theorem byteL_at (l : List UInt8) (j : Nat) : (byteL l)[j]? = l[j]?.map fun b => Value.int .u8 (b.toNat : Int) := by simp [byteL]

theorem conv_bytes (s : ByteArray) (hs : s.size ≤ 4000) (w : World) : ∃ C W, (convert 9 64 (.string s)).run Tryz.prog w = .ok (.slice (some ⟨w.heap.size, 0, none⟩) s.size C) W ∧
    Came W 1 (some ⟨w.heap.size, 0, none⟩) w.heap.size 0 s.size C (byteL s.data.toList) ∧ C ≤ maxLen ∧ Belo w.heap.size w W ∧ W.heap.size = w.heap.size + 1 := by
  have hr := run_bytes_of_string (P := Tryz.prog) w 9 64 5 s Tryz.underlying9 Tryz.underlying64 Tryz.underlying5
  have hge := grownCap_ge w s.size 0 5
  have hle := grownCap_le_maxLen w s.size 0 5 (by unfold maxLen; omega)
  generalize grownCap w s.size 0 5 = C at hr hge hle
  refine ⟨C, _, hr, ?_, hle, ?_, by simp⟩
  · have hbs : (bytesRow s C).size = C := by simp [bytesRow]; omega
    have hg : (w.drew.alloc (.cells (bytesRow s C) 5 ((bytesRow s C).size, (bytesRow s C).size + 1))).heap[w.heap.size]? = some (.cells (bytesRow s C) 5 ((bytesRow s C).size, (bytesRow s C).size + 1)) := by
      rw [heap_alloc_if, if_pos (by simp)]
    refine ⟨hge, fun _ => rfl, fun _ => by simp, by rw [byteL_length]; simp, fun j u hu => ?_, fun j hj => ?_⟩
    · rw [Nat.zero_add, cell_of_row _ _ j _ _ _ hg]
      rw [byteL_at] at hu
      have hj : j < s.size := by
        cases h : s.data.toList[j]? with
        | none => rw [h] at hu; cases hu
        | some b => have := (List.getElem?_eq_some_iff.1 h).1; simpa using this
      unfold bytesRow
      rw [Array.getElem?_append_left (by simpa using hj), Array.getElem?_map, ← hu]
      simp
    · rw [Nat.zero_add, Nat.mul_one]
      rw [Nat.mul_one] at hj
      constructor
      · rw [cell_of_row _ _ _ _ _ _ hg, Array.getElem?_eq_getElem (by omega)]; rfl
      · unfold World.frozen?
        rw [hg]
        simp [hbs]
        omega
  · exact Belo.of ((Below.refl _ _).drew.alloc (by simp) _)

theorem info5 : (Tryz.prog.info? 5).map (fun i => (i.zero, i.size, i.bytes)) = some (some (.int .u8 0), 1, 1) := by kernel_rfl
theorem info5' : ∃ i, Tryz.prog.info? 5 = some i ∧ i.zero = some (.int .u8 0) ∧ i.size = 1 ∧ i.bytes = 1 := by
  have h := info5
  cases hq : Tryz.prog.info? 5 with
  | none => rw [hq] at h; cases h
  | some i =>
    rw [hq] at h
    simp only [Option.map_some, Option.some.injEq, Prod.mk.injEq] at h
    exact ⟨i, rfl, h.1, h.2.1, h.2.2⟩
theorem src_one (x : UInt8) (w : World) : Src Tryz.prog 1 64 (.slice (some ⟨w.heap.size, 0, none⟩) 1 1) 1 (byteL [x]) (w.alloc (.cells #[.int .u8 (x.toNat : Int)] 5)) :=
  Src.ofSlice _ Tryz.underlying64 _ 1 1 _ rfl (fun j u hu => by
    have hj : j = 0 := by
      have := (List.getElem?_eq_some_iff.1 hu).1
      simp [byteL] at this; omega
    subst hj
    have e : (⟨w.heap.size, 0, none⟩ : Addr).add 0 = ⟨w.heap.size, 0, none⟩ := by unfold Addr.add; split <;> simp_all
    rw [e, cell_of_row _ _ 0 _ _ _ (by rw [heap_alloc_if, if_pos rfl])]
    exact hu) (byteL_one _)

theorem belo_alloc (w : World) (o : Obj) : Belo w.heap.size w (w.alloc o) := Belo.of ((Below.refl _ _).alloc (Nat.le_refl _) _)
theorem Belo.setRow {B : Nat} {w v : World} (h : Belo B w v) {b : Nat} (hb : B ≤ b) (c : Array Value) : Belo B w (v.setRow b c) :=
  ⟨h.os, h.output, by show _ ≤ (v.heap.modify _ _).size; simpa using h.size, fun k hk => by rw [setRow_other _ _ _ _ (by omega)]; exact h.block k hk⟩
theorem Belo.drewN {B : Nat} {w v : World} (h : Belo B w v) (n : Nat) : Belo B w (v.drewN n) := ⟨h.os, h.output, h.size, h.block⟩
theorem Belo.alloc {B : Nat} {w v : World} (h : Belo B w v) (hB : B ≤ v.heap.size) (o : Obj) : Belo B w (v.alloc o) := h.trans ((belo_alloc v o).mono hB)

theorem conv_row (v : World) (b n : Nat) (t : TypeId) (l : List UInt8) (hn : l.length = n) (h : v.heap[b]? = some (.cells (row l) t)) :
    (convert 64 9 (.slice (some ⟨b, 0, none⟩) n n)).run Tryz.prog v = .ok (.string ⟨l.toArray⟩) v := by
  subst hn
  refine run_convert_bytes_back (P := Tryz.prog) v 64 9 5 ⟨b, 0, none⟩ _ l Tryz.underlying64 Tryz.underlying5 Tryz.underlying9 (fun j hj => ?_)
  have e : (⟨b, 0, none⟩ : Addr).add j = ⟨b, j, none⟩ := by unfold Addr.add; split <;> simp_all
  rw [e, cell_of_row v _ j _ _ _ h, row_at _ _ hj, List.getD_eq_getElem?_getD, List.getElem?_eq_getElem hj]; rfl

theorem part5 (x : List UInt8) (i : Nat) (h : i < x.length) (w : World) : (part 5 (row x) i).run Tryz.prog w = .ok (.int .u8 ((x.getD i 0).toNat : Int)) w := by
  unfold part
  simp only [Sem.run_bind, Tryz.isAgg5, Result.andThen_ok]
  rw [row_at x i h]; rfl
theorem items5 (d : Nat) (x y : List UInt8) (w : World) : ∀ is : List Nat, (∀ i ∈ is, i < x.length ∧ i < y.length) → (Op.eqItems (d + 1) 5 1 (row x) (row y) is).run Tryz.prog w = .ok (is.all fun i => x.getD i 0 == y.getD i 0) w
  | [], _ => rfl
  | i :: is, h => by
    have ih := items5 d x y w is (fun j hj => h j (List.mem_cons_of_mem _ hj))
    obtain ⟨h1, h2⟩ := h i List.mem_cons_self
    have he := run_equalIn_int (P := Tryz.prog) w d 5 .u8 .u8 ((x.getD i 0).toNat : Int) ((y.getD i 0).toNat : Int) Tryz.underlying5
    simp only [Op.eqItems, Sem.run_bind, Nat.mul_one, part5 x i h1, part5 y i h2, Result.andThen_ok, he]
    by_cases e : x.getD i 0 = y.getD i 0
    · have e1 : (((x.getD i 0).toNat : Int) == ((y.getD i 0).toNat : Int)) = true := by rw [e]; simp
      rw [e1, List.all_cons, e]
      simpa using ih
    · have e1 : (((x.getD i 0).toNat : Int) == ((y.getD i 0).toNat : Int)) = false := by
        rw [beq_eq_false_iff_ne]; intro h; exact e (UInt8.toNat_inj.mp (by omega))
      have e2 : (x.getD i 0 == y.getD i 0) = false := by rw [beq_eq_false_iff_ne]; exact e
      rw [e1, List.all_cons, e2]
      rfl
theorem all_eq (x y : List UInt8) (hx : x.length = 32) (hy : y.length = 32) : ((List.range 32).all fun i => x.getD i 0 == y.getD i 0) = (x == y) := by
  rw [Bool.eq_iff_iff, List.all_eq_true, beq_iff_eq]
  constructor
  · intro h
    apply List.ext_getElem (by omega)
    intro i h1 h2
    have := h i (List.mem_range.2 (by omega))
    rw [beq_iff_eq, List.getD_eq_getElem?_getD, List.getD_eq_getElem?_getD, List.getElem?_eq_getElem h1, List.getElem?_eq_getElem h2] at this
    exact this
  · intro h i _; rw [h]; simp
theorem eql_dig (x y : List UInt8) (hx : x.length = 32) (hy : y.length = 32) (w : World) : (Op.equalIn 10000 23 (.agg (row x)) (.agg (row y))).run Tryz.prog w = .ok (x == y) w := by
  obtain ⟨i, hi⟩ := info_of_underlying (P := Tryz.prog) Tryz.underlying5
  have := run_equalIn_array (P := Tryz.prog) w 9999 (row x) (row y) Tryz.underlying23 hi
  rw [this]
  have e : Tryz.prog.cellsOf 5 = 1 := by kernel_rfl
  rw [e, items5 9998 x y w _ (fun i hi => by have := List.mem_range.1 hi; omega), all_eq x y hx hy]

theorem came_nil (W : World) : Came W 1 none 0 0 0 0 [] :=
  ⟨Nat.le_refl _, fun h => absurd h (Nat.lt_irrefl _), fun h => absurd h (Nat.lt_irrefl _), rfl, fun j u h => by simp at h, fun j hj => by omega⟩
theorem nil_belo {W wr : World} {v : Value} {m r : Nat} {ks : List Value} (h : Upon W 5 1 none 0 0 0 0 [] wr v m ks r) : Belo W.heap.size W wr :=
  ⟨h.kept.1, h.kept.2.1, h.kept.size, fun i hi => h.kept.block hi (fun p ⟨j, hj, _⟩ => absurd hj (by have := h.rFit; omega))⟩

/-- The datum that 32 bytes are. -/
def digD {H : Type} (l : List UInt8) : DataW H := .agg (l.map fun b => .lit (.int .u8 (b.toNat : Int)))
def byteOf : Value → UInt8
  | .int _ n => UInt8.ofNat n.toNat
  | _ => 0
theorem cells5 : Tryz.prog.cellsOf 5 = 1 := by kernel_rfl
theorem cells28 : Tryz.prog.cellsOf 23 = 32 := by kernel_rfl
theorem take1 (l : List Value) (i : Nat) (v : Value) (h : (l.drop i).take 1 = [v]) : l[i]? = some v := by
  have := congrArg (·[0]?) h
  simpa using this

set_option maxRecDepth 8000 in
theorem open_dig {H : Type} {enc : TypeId × Value → H} {w : World} {base : Nat} {sp : Nat → Bool} {held : Bool} {r : Reach} {b0 : Nat} {v : Value} {d : DataW H} {ps : List MemPlace}
    (hval : Value.okWide Tryz.prog w r b0 23 v) (hd : DataW.Trod enc Tryz.prog w base sp held 23 v d ps) : ∃ l : List UInt8, v = .agg (row l) ∧ d = digD l ∧ ps = [] ∧ l.length = 32 := by
  unfold Value.okWide at hval
  rw [Tryz.underlying23] at hval
  obtain ⟨cs, rfl, hsz, _⟩ := hval
  rw [cells28] at hsz
  obtain ⟨fuel, hf⟩ := hd
  obtain ⟨xs, m, _, hx, _, hxl, hel⟩ := DataW.trod_array Tryz.underlying23 hf
  have each : ∀ i, i < 32 → ∃ b : UInt8, cs[i]? = some (.int .u8 (b.toNat : Int)) ∧ xs[i]? = some (.lit (.int .u8 (b.toNat : Int)), []) := fun i hi => by
    have h1 := hel i hi
    rw [List.getElem?_eq_getElem (by omega)] at h1
    obtain ⟨n, h2, h3, h4⟩ := DataW.trod_int Tryz.underlying5 h1
    rw [cells5, Nat.mul_one] at h2
    have h5 := take1 _ _ _ h2
    have h6 := bounds_u8 h4
    have e : ((UInt8.ofNat n.toNat).toNat : Int) = n := by rw [UInt8.toNat_ofNat']; omega
    refine ⟨UInt8.ofNat n.toNat, ?_, ?_⟩
    · rw [e]; simpa [Value.cells] using h5
    · rw [e, List.getElem?_eq_getElem (by omega), h3]
  have hc : cs = row ((List.range 32).map fun i => byteOf (cs.getD i undef)) := by
    apply Array.ext_getElem?
    intro i
    by_cases hi : i < 32
    · obtain ⟨b, h1, _⟩ := each i hi
      rw [row_at _ _ (by simpa using hi), h1, List.getD_eq_getElem?_getD, List.getElem?_map, List.getElem?_range hi]
      have : byteOf (cs.getD i undef) = b := by
        have e : cs.getD i undef = .int .u8 (b.toNat : Int) := by simp [h1]
        rw [e]; simp [byteOf]
      simp only [Option.map_some, Option.getD_some, this]
    · rw [Array.getElem?_eq_none (by omega), Array.getElem?_eq_none (by rw [row_size]; simp; omega)]
  have hxs : xs = ((List.range 32).map fun i => byteOf (cs.getD i undef)).map fun b => (.lit (.int .u8 (b.toNat : Int)), []) := by
    apply List.ext_getElem?
    intro i
    by_cases hi : i < 32
    · obtain ⟨b, h1, h2⟩ := each i hi
      have : byteOf (cs.getD i undef) = b := by
        have e : cs.getD i undef = .int .u8 (b.toNat : Int) := by simp [h1]
        rw [e]; simp [byteOf]
      rw [h2, List.getElem?_map, List.getElem?_map, List.getElem?_range hi]
      simp only [Option.map_some, this]
    · rw [List.getElem?_eq_none (by omega), List.getElem?_eq_none (by simp; omega)]
  refine ⟨(List.range 32).map fun i => byteOf (cs.getD i undef), ?_, ?_, ?_, by simp⟩
  · exact congrArg Value.agg hc
  · have := congrArg Prod.fst hx
    simp only at this
    rw [this]
    generalize ((List.range 32).map fun i => byteOf (cs.getD i undef)) = l at hxs
    rw [hxs]
    unfold digD
    simp
  · have := congrArg Prod.snd hx
    simp only at this
    rw [this, hxs]
    simp

set_option maxRecDepth 8000 in
theorem shut_dig {H : Type} {enc : TypeId × Value → H} {w : World} {base : Nat} {sp : Nat → Bool} {held : Bool} {l : List UInt8} (hl : l.length = 32) : DataW.Trod enc Tryz.prog w base sp held 23 (.agg (row l)) (digD l) [] := by
  refine ⟨2, ?_⟩
  show DataW.trod enc Tryz.prog w base sp held 2 23 (row l).toList = _
  unfold DataW.trod
  rw [Tryz.underlying23]
  simp only
  rw [if_pos (by rw [cells28]; simp [row, hl])]
  have : (List.range 32).mapM (fun i => DataW.trod enc Tryz.prog w base sp held 1 5 (((row l).toList.drop (i * Tryz.prog.cellsOf 5)).take (Tryz.prog.cellsOf 5))) = some ((List.range 32).map fun i => (.lit (.int .u8 ((l.getD i 0).toNat : Int)), [])) := by
    apply Go.ChangeShapes.mapM_range_of
    intro i hi
    rw [cells5, Nat.mul_one]
    have e : ((row l).toList.drop i).take 1 = [.int .u8 ((l.getD i 0).toNat : Int)] := by
      have h1 : i < (row l).toList.length := by simp [row]; omega
      rw [List.drop_eq_getElem_cons h1]
      simp only [List.take_succ_cons, List.take_zero]
      congr 1
      have := row_at l i (by omega)
      rw [← Array.getElem?_toList, List.getElem?_eq_getElem h1] at this
      exact Option.some.inj this
    rw [e]
    unfold DataW.trod
    rw [Tryz.underlying5]
    generalize l.getD i 0 = b
    have hb := b.toNat_lt
    have hw : (Lit.int .u8 (b.toNat : Int)).wf = true := by
      simp [Lit.wf, IntKind.min, IntKind.max, IntKind.signed, IntKind.bits]; omega
    simp only [hw, and_self, if_true]
  rw [this]
  simp only [Option.map_some]
  unfold digD
  congr 2
  · rw [List.map_map]
    congr 1
    apply List.ext_getElem?
    intro i
    by_cases hi : i < 32
    · rw [List.getElem?_map, List.getElem?_map, List.getElem?_range hi, List.getElem?_eq_getElem (by omega)]
      simp only [Option.map_some, Function.comp]
      rw [List.getD_eq_getElem?_getD, List.getElem?_eq_getElem (by omega)]; rfl
    · rw [List.getElem?_eq_none (by simp; omega), List.getElem?_eq_none (by simp; omega)]
end Go.Proofs.YtfilolmbppjbjaaGreat

namespace Go.Proofs.YtfilolmbppjbjaaGreat
open Go.RowKit

theorem size_li (s : ByteArray) : s.size = (li s).length := (li_len s).symm
/-- What was read: a number, a text, a digest. -/
def rn (n : Int) (r : ByteArray) (ok : Bool) : Value := .agg #[.int .i64 n, .string r, .bool ok]
def em : ByteArray := ⟨#[]⟩

end Go.Proofs.YtfilolmbppjbjaaGreat

namespace Go.Proofs.YtfilolmbppjbjaaGreat
open Go.RowKit

theorem or128 (n : Nat) : bits .or .u8 ((n : Int) % 256) 128 = ((UInt8.ofNat (n % 128 + 128)).toNat : Int) := by
  have h : ∀ i : Fin 256, bits .or .u8 ((i.val : Nat) : Int) 128 = ((UInt8.ofNat (i.val % 128 + 128)).toNat : Int) := by decide +kernel
  have := h ⟨n % 256, by omega⟩
  simp only at this
  rw [show (n : Int) % 256 = ((n % 256 : Nat) : Int) by omega, this, show n % 256 % 128 = n % 128 by omega]
def clI (n : Int) : Nat := min n.toNat big
theorem conv_pre (v : World) (b n c : Nat) (t : TypeId) (l : List UInt8) (hn : n ≤ l.length) (h : v.heap[b]? = some (.cells (row l) t)) :
    (convert 64 9 (.slice (some ⟨b, 0, none⟩) n c)).run Tryz.prog v = .ok (.string ⟨(l.take n).toArray⟩) v := by
  have hl : (l.take n).length = n := by rw [List.length_take]; omega
  have := run_convert_bytes_back (P := Tryz.prog) v 64 9 5 ⟨b, 0, none⟩ c (l.take n) Tryz.underlying64 Tryz.underlying5 Tryz.underlying9 (fun j hj => by
    rw [hl] at hj
    have e : (⟨b, 0, none⟩ : Addr).add j = ⟨b, j, none⟩ := by unfold Addr.add; split <;> simp_all
    rw [e, cell_of_row v _ j _ _ _ h, row_at _ _ (by omega), List.getD_eq_getElem?_getD, List.getElem?_eq_getElem (by omega), List.getElem_take]; rfl)
  rw [hl] at this
  exact this
theorem row8 : #[Value.int .u8 0, .int .u8 0, .int .u8 0, .int .u8 0, .int .u8 0, .int .u8 0, .int .u8 0, .int .u8 0] = row (pz 0 8 []) := rfl
theorem pz_at (p : List UInt8) (h : p.length < 8) : (row (pz 0 8 p))[p.length]? = some (.int .u8 0) := by
  rw [row_at _ _ (by rw [pz_length _ _ _ (by omega)]; omega), pz_getD, List.getD_eq_getElem?_getD, List.getElem?_eq_none (Nat.le_refl _)]; rfl
theorem pow_le7 (m k : Nat) (h : 128 ≤ m) (h2 : m < 128 ^ (8 - k)) : k < 7 := by
  apply Classical.byContradiction
  intro hk
  have : (128 : Nat) ^ (8 - k) ≤ 128 ^ 1 := Nat.pow_le_pow_right (by decide) (by omega)
  omega
theorem pow_next (m k : Nat) (hk : k < 7) (h2 : m < 128 ^ (8 - k)) : m / 128 < 128 ^ (8 - (k + 1)) := by
  have e : (128 : Nat) ^ (8 - k) = 128 ^ (8 - (k + 1)) * 128 := by rw [show 8 - k = 8 - (k + 1) + 1 by omega]; rfl
  rw [e] at h2
  exact Nat.div_lt_of_lt_mul (by rw [Nat.mul_comm]; exact h2)
theorem slice_hm (b k : Nat) (hk : k ≤ 7) (w : World) : (Instr.sliceAt 89 (.pointer (some ⟨b, 0, none⟩)) none (some (.int .i64 ((k : Int) + 1))) (some (.int .i64 ((k : Int) + 1)))).run Tryz.prog w = .ok (.slice (some ⟨b, 0, none⟩) (k + 1) (k + 1)) w := by
  have ht : Tryz.prog.underlying 89 = some (.array (Tryz.prog.arrayLen 89) (Tryz.prog.elem 89)) := by kernel_rfl
  have e1 : Tryz.prog.elem 89 = 5 := by kernel_rfl
  have e2 : Tryz.prog.arrayLen 89 = 8 := by kernel_rfl
  rw [run_sliceAt_array_hm (P := Tryz.prog) w 89 ⟨b, 0, none⟩ ht .i64 .i64 _ _ (by omega) (by omega) (by rw [e2]; omega), e1, Tryz.sizeOf5]
  simp only [Result.andThen_ok, slicedAt]
  rw [if_neg (by omega), show ((k : Int) + 1).toNat = k + 1 by omega]
  have e : (⟨b, 0, none⟩ : Addr).add ((0 : Int).toNat * 1) = ⟨b, 0, none⟩ := by unfold Addr.add; split <;> simp_all
  first | rw [e] | skip
  rfl
/-- The place that Num has come to. -/
structure At (M k m : Nat) (p : List UInt8) : Prop where
  kle : k ≤ 7
  mle : m ≤ big
  lt : m < 128 ^ (8 - k)
  len : p.length = k
  eq : num M = p ++ numF (7 - k) m
theorem At.start {M : Nat} (h : M ≤ big) : At M 0 M [] := ⟨by omega, h, big_lt h, rfl, rfl⟩
theorem At.next {M k m : Nat} {p : List UInt8} (h : At M k m p) (hm : 128 ≤ m) : At M (k + 1) (m / 128) (p ++ [UInt8.ofNat (m % 128 + 128)]) := by
  have hk := pow_le7 m k hm h.lt
  have := h.mle
  refine ⟨by omega, by omega, pow_next m k hk h.lt, by simp [h.len], ?_⟩
  rw [h.eq, show 7 - k = 7 - (k + 1) + 1 by omega, numF_high _ _ hm]
  simp
theorem At.done {M k m : Nat} {p : List UInt8} (h : At M k m p) (hm : m < 128) : num M = p ++ [UInt8.ofNat m] := by
  rw [h.eq, numF_low _ _ hm]

set_option maxHeartbeats 1000000 in
theorem num_neg (n : Int) (hn : n < 0) (hlo : -9223372036854775808 ≤ n) (M : Nat) (hMM : clI n = M) (w : World) :
    Calls Tryz.prog 98 #[.int .i64 n] w fun e w' => e = .returned (.string ⟨(num M).toArray⟩) ∧ Below w.heap.size w w' := by
  have hS := Lib.hid (At.start (M := M) (by rw [← hMM]; exact Nat.min_le_right _ _))
  have t0 : decide (n < 0) = true := by simp; omega
  have hM : Hid (M = 0) := by show _ = _; rw [← hMM]; unfold clI; omega
  go_enter Tryz.func98, Tryz.ntmps98
  go_wp2_with fail
  rw [row8]
  go_loopw [0, 4] (fun a l wr => ∃ (k m : Nat) (p : List UInt8), a = .int .i64 (m : Int) ∧ l = .int .i64 (k : Int) ∧ wr = w.alloc (.cells (row (pz 0 8 p)) 89) ∧ Hid (At M k m p)) (fun a _ _ => (intOf a).toNat)
  case atStart => exact ⟨0, M, [], by rw [hM.out]; rfl, rfl, rfl, hS.out⟩
  case round =>
    obtain ⟨k, m, p, rfl, rfl, rfl, hA⟩ := hrel
    have hmb : m ≤ 1125899906842624 := hA.out.mle
    have hk7 : k ≤ 7 := hA.out.kle
    have hlen := Lib.hid hA.out.len
    by_cases hm : 128 ≤ m
    · have t1 : decide ((128 : Int) ≤ (m : Int)) = true := by simp; omega
      have hk : (k : Int) < 8 := by omega
      have hN := Lib.hid (hA.out.next hm)
      have hc : (row (pz 0 8 p))[k]? = some (.int .u8 0) := by have := pz_at p (by rw [hlen.out]; omega); rw [hlen.out] at this; exact this
      have ho := or128 m
      have hd : Hid ((row (pz 0 8 p)).setIfInBounds k (.int .u8 ((UInt8.ofNat (m % 128 + 128)).toNat : Int)) = row (pz 0 8 (p ++ [UInt8.ofNat (m % 128 + 128)]))) := by
        show _ = _
        rw [row_set, ← hlen.out, pz_set _ _ _ _ (by rw [hlen.out]; omega)]
      revert hN ho hd
      generalize UInt8.ofNat (m % 128 + 128) = x
      intro hN ho hd
      go_wp2_with fail
      go_roundw
      case rel => exact ⟨k + 1, m / 128, p ++ [x], by go_num, by go_num, by rw [← hd.out], hN.out⟩
      case measure => simp [intOf]; omega
    · have t1 : decide ((128 : Int) ≤ (m : Int)) = false := by simp; omega
      have hk : (k : Int) < 8 := by omega
      have hx : ((UInt8.ofNat m).toNat : Int) = (m : Int) := by rw [ofNat_toNat _ (by omega)]
      have hN := Lib.hid (hA.out.done (by omega))
      have hc : (row (pz 0 8 p))[k]? = some (.int .u8 0) := by have := pz_at p (by rw [hlen.out]; omega); rw [hlen.out] at this; exact this
      have hd : (row (pz 0 8 p)).setIfInBounds k (.int .u8 (m : Int)) = row (pz 0 8 (p ++ [UInt8.ofNat m])) := by
        rw [← hx, row_set, ← hlen.out, pz_set _ _ _ _ (by rw [hlen.out]; omega)]
      have hcv := conv_pre (w.alloc (.cells (row (pz 0 8 (p ++ [UInt8.ofNat m]))) 89)) w.heap.size (k + 1) (k + 1) 89 (pz 0 8 (p ++ [UInt8.ofNat m])) (by rw [pz_length _ _ _ (by simp [hlen.out]; omega)]; omega) (by rw [heap_alloc_if, if_pos rfl])
      have hq : (pz 0 8 (p ++ [UInt8.ofNat m])).take (k + 1) = num M := by
        rw [hN.out]; unfold pz; rw [List.take_left' (by simp [hlen.out])]
      rw [hq, ← hd] at hcv
      have hsl := fun v => slice_hm w.heap.size k hk7 v
      clear hq hN hd hx
      go_wp2_with fail
      go_ret
      exact ⟨rfl, by go_grown⟩
set_option maxHeartbeats 1000000 in
theorem num_top (n : Int) (hn : 1125899906842624 < n) (hhi : n ≤ 9223372036854775807) (M : Nat) (hMM : clI n = M) (w : World) :
    Calls Tryz.prog 98 #[.int .i64 n] w fun e w' => e = .returned (.string ⟨(num M).toArray⟩) ∧ Below w.heap.size w w' := by
  have hS := Lib.hid (At.start (M := M) (by rw [← hMM]; exact Nat.min_le_right _ _))
  have t0 : decide (n < 0) = false := by simp; omega
  have t1 : decide (n > 1125899906842624) = true := by simp; omega
  have hM : Hid (M = 1125899906842624) := by show _ = _; rw [← hMM]; unfold clI big; omega
  go_enter Tryz.func98, Tryz.ntmps98
  go_wp2_with fail
  rw [row8]
  go_loopw [0, 4] (fun a l wr => ∃ (k m : Nat) (p : List UInt8), a = .int .i64 (m : Int) ∧ l = .int .i64 (k : Int) ∧ wr = w.alloc (.cells (row (pz 0 8 p)) 89) ∧ Hid (At M k m p)) (fun a _ _ => (intOf a).toNat)
  case atStart => exact ⟨0, M, [], by rw [hM.out]; rfl, rfl, rfl, hS.out⟩
  case round =>
    obtain ⟨k, m, p, rfl, rfl, rfl, hA⟩ := hrel
    have hmb : m ≤ 1125899906842624 := hA.out.mle
    have hk7 : k ≤ 7 := hA.out.kle
    have hlen := Lib.hid hA.out.len
    by_cases hm : 128 ≤ m
    · have t1 : decide ((128 : Int) ≤ (m : Int)) = true := by simp; omega
      have hk : (k : Int) < 8 := by omega
      have hN := Lib.hid (hA.out.next hm)
      have hc : (row (pz 0 8 p))[k]? = some (.int .u8 0) := by have := pz_at p (by rw [hlen.out]; omega); rw [hlen.out] at this; exact this
      have ho := or128 m
      have hd : Hid ((row (pz 0 8 p)).setIfInBounds k (.int .u8 ((UInt8.ofNat (m % 128 + 128)).toNat : Int)) = row (pz 0 8 (p ++ [UInt8.ofNat (m % 128 + 128)]))) := by
        show _ = _
        rw [row_set, ← hlen.out, pz_set _ _ _ _ (by rw [hlen.out]; omega)]
      revert hN ho hd
      generalize UInt8.ofNat (m % 128 + 128) = x
      intro hN ho hd
      go_wp2_with fail
      go_roundw
      case rel => exact ⟨k + 1, m / 128, p ++ [x], by go_num, by go_num, by rw [← hd.out], hN.out⟩
      case measure => simp [intOf]; omega
    · have t1 : decide ((128 : Int) ≤ (m : Int)) = false := by simp; omega
      have hk : (k : Int) < 8 := by omega
      have hx : ((UInt8.ofNat m).toNat : Int) = (m : Int) := by rw [ofNat_toNat _ (by omega)]
      have hN := Lib.hid (hA.out.done (by omega))
      have hc : (row (pz 0 8 p))[k]? = some (.int .u8 0) := by have := pz_at p (by rw [hlen.out]; omega); rw [hlen.out] at this; exact this
      have hd : (row (pz 0 8 p)).setIfInBounds k (.int .u8 (m : Int)) = row (pz 0 8 (p ++ [UInt8.ofNat m])) := by
        rw [← hx, row_set, ← hlen.out, pz_set _ _ _ _ (by rw [hlen.out]; omega)]
      have hcv := conv_pre (w.alloc (.cells (row (pz 0 8 (p ++ [UInt8.ofNat m]))) 89)) w.heap.size (k + 1) (k + 1) 89 (pz 0 8 (p ++ [UInt8.ofNat m])) (by rw [pz_length _ _ _ (by simp [hlen.out]; omega)]; omega) (by rw [heap_alloc_if, if_pos rfl])
      have hq : (pz 0 8 (p ++ [UInt8.ofNat m])).take (k + 1) = num M := by
        rw [hN.out]; unfold pz; rw [List.take_left' (by simp [hlen.out])]
      rw [hq, ← hd] at hcv
      have hsl := fun v => slice_hm w.heap.size k hk7 v
      clear hq hN hd hx
      go_wp2_with fail
      go_ret
      exact ⟨rfl, by go_grown⟩
set_option maxHeartbeats 1000000 in
theorem num_mid (n : Int) (hn : 0 ≤ n) (hhi : n ≤ 1125899906842624) (M : Nat) (hMM : clI n = M) (w : World) :
    Calls Tryz.prog 98 #[.int .i64 n] w fun e w' => e = .returned (.string ⟨(num M).toArray⟩) ∧ Below w.heap.size w w' := by
  have hS := Lib.hid (At.start (M := M) (by rw [← hMM]; exact Nat.min_le_right _ _))
  have t0 : decide (n < 0) = false := by simp; omega
  have t1 : decide (n > 1125899906842624) = false := by simp; omega
  have hM : Hid ((M : Int) = n) := by show _ = _; rw [← hMM]; unfold clI big; omega
  go_enter Tryz.func98, Tryz.ntmps98
  go_wp2_with fail
  rw [row8]
  go_loopw [0, 4] (fun a l wr => ∃ (k m : Nat) (p : List UInt8), a = .int .i64 (m : Int) ∧ l = .int .i64 (k : Int) ∧ wr = w.alloc (.cells (row (pz 0 8 p)) 89) ∧ Hid (At M k m p)) (fun a _ _ => (intOf a).toNat)
  case atStart => exact ⟨0, M, [], by rw [hM.out], rfl, rfl, hS.out⟩
  case round =>
    obtain ⟨k, m, p, rfl, rfl, rfl, hA⟩ := hrel
    have hmb : m ≤ 1125899906842624 := hA.out.mle
    have hk7 : k ≤ 7 := hA.out.kle
    have hlen := Lib.hid hA.out.len
    by_cases hm : 128 ≤ m
    · have t1 : decide ((128 : Int) ≤ (m : Int)) = true := by simp; omega
      have hk : (k : Int) < 8 := by omega
      have hN := Lib.hid (hA.out.next hm)
      have hc : (row (pz 0 8 p))[k]? = some (.int .u8 0) := by have := pz_at p (by rw [hlen.out]; omega); rw [hlen.out] at this; exact this
      have ho := or128 m
      have hd : Hid ((row (pz 0 8 p)).setIfInBounds k (.int .u8 ((UInt8.ofNat (m % 128 + 128)).toNat : Int)) = row (pz 0 8 (p ++ [UInt8.ofNat (m % 128 + 128)]))) := by
        show _ = _
        rw [row_set, ← hlen.out, pz_set _ _ _ _ (by rw [hlen.out]; omega)]
      revert hN ho hd
      generalize UInt8.ofNat (m % 128 + 128) = x
      intro hN ho hd
      go_wp2_with fail
      go_roundw
      case rel => exact ⟨k + 1, m / 128, p ++ [x], by go_num, by go_num, by rw [← hd.out], hN.out⟩
      case measure => simp [intOf]; omega
    · have t1 : decide ((128 : Int) ≤ (m : Int)) = false := by simp; omega
      have hk : (k : Int) < 8 := by omega
      have hx : ((UInt8.ofNat m).toNat : Int) = (m : Int) := by rw [ofNat_toNat _ (by omega)]
      have hN := Lib.hid (hA.out.done (by omega))
      have hc : (row (pz 0 8 p))[k]? = some (.int .u8 0) := by have := pz_at p (by rw [hlen.out]; omega); rw [hlen.out] at this; exact this
      have hd : (row (pz 0 8 p)).setIfInBounds k (.int .u8 (m : Int)) = row (pz 0 8 (p ++ [UInt8.ofNat m])) := by
        rw [← hx, row_set, ← hlen.out, pz_set _ _ _ _ (by rw [hlen.out]; omega)]
      have hcv := conv_pre (w.alloc (.cells (row (pz 0 8 (p ++ [UInt8.ofNat m]))) 89)) w.heap.size (k + 1) (k + 1) 89 (pz 0 8 (p ++ [UInt8.ofNat m])) (by rw [pz_length _ _ _ (by simp [hlen.out]; omega)]; omega) (by rw [heap_alloc_if, if_pos rfl])
      have hq : (pz 0 8 (p ++ [UInt8.ofNat m])).take (k + 1) = num M := by
        rw [hN.out]; unfold pz; rw [List.take_left' (by simp [hlen.out])]
      rw [hq, ← hd] at hcv
      have hsl := fun v => slice_hm w.heap.size k hk7 v
      clear hq hN hd hx
      go_wp2_with fail
      go_ret
      exact ⟨rfl, by go_grown⟩
theorem num_any (n : Int) (h1 : -9223372036854775808 ≤ n) (h2 : n ≤ 9223372036854775807) (w : World) :
    Calls Tryz.prog 98 #[.int .i64 n] w fun e w' => e = .returned (.string ⟨(num (clI n)).toArray⟩) ∧ Below w.heap.size w w' := by
  by_cases k1 : n < 0
  · exact num_neg n k1 h1 _ rfl w
  by_cases k2 : 1125899906842624 < n
  · exact num_top n k2 h2 _ rfl w
  · exact num_mid n (by omega) (by omega) _ rfl w
theorem num_nat (n : Nat) (h : n ≤ 9223372036854775807) (w : World) :
    Calls Tryz.prog 98 #[.int .i64 (n : Int)] w fun e w' => e = .returned (.string ⟨(num (cl n)).toArray⟩) ∧ Below w.heap.size w w' :=
  num_any (n : Int) (by omega) (by omega) w
end Go.Proofs.YtfilolmbppjbjaaGreat

namespace Go.Proofs.YtfilolmbppjbjaaGreat
open Go.RowKit

theorem drop_li (s : ByteArray) (k : Nat) (h : k < s.size) : (li s).drop k = s[k] :: (li s).drop (k + 1) := by
  unfold li; rw [List.drop_eq_getElem_cons (by simpa using h)]; rfl
/-- The place that seeming has come to. -/
structure Se (s : ByteArray) (k m : Nat) : Prop where
  lt : m < 128 ^ k
  eq : seem 8 (li s) = m + 128 ^ k * seem (8 - k) ((li s).drop k)
theorem Se.start (s : ByteArray) : Se s 0 0 := ⟨by simp, by simp⟩
theorem Se.next {s : ByteArray} {k m : Nat} (h : Se s k m) (hk : k < s.size) (h8 : k < 8) (hb : ¬ (s[k]).toNat < 128) : Se s (k + 1) (m + 128 ^ k * ((s[k]).toNat % 128)) := by
  have h1 := h.lt
  have e : (128 : Nat) ^ (k + 1) = 128 ^ k * 128 := rfl
  constructor
  · rw [e]
    have : 128 ^ k * ((s[k]).toNat % 128) ≤ 128 ^ k * 127 := Nat.mul_le_mul_left _ (by omega)
    omega
  · rw [h.eq, drop_li s k hk, show 8 - k = 8 - (k + 1) + 1 by omega, seem, if_neg hb, Nat.mul_add, e]
    generalize seem (8 - (k + 1)) _ = z
    rw [Nat.mul_assoc]
    omega
theorem Se.stop {s : ByteArray} {k m : Nat} (h : Se s k m) (hk : k < s.size) (h8 : k < 8) (hb : (s[k]).toNat < 128) : seem 8 (li s) = m + 128 ^ k * ((s[k]).toNat % 128) := by
  rw [h.eq, drop_li s k hk, show 8 - k = 8 - (k + 1) + 1 by omega, seem, if_pos hb, Nat.add_zero]
theorem Se.done {s : ByteArray} {k m : Nat} (h : Se s k m) (hk : k = s.size ∨ k = 8) : seem 8 (li s) = m := by
  rw [h.eq]
  rcases hk with hk | hk
  · rw [List.drop_of_length_le (by rw [li_len]; omega)]
    cases e : 8 - k <;> simp [seem]
  · subst hk; simp [seem]

end Go.Proofs.YtfilolmbppjbjaaGreat

namespace Go.Proofs.YtfilolmbppjbjaaGreat
open Go.RowKit

def mk (l : List UInt8) : ByteArray := ⟨l.toArray⟩
theorem li_mk' (l : List UInt8) : li (mk l) = l := li_mk l
theorem below_on {w v v' : World} (h : Below w.heap.size w v) (k : Below v.heap.size v v') : Below w.heap.size w v' := h.trans (k.mono h.size)
set_option maxHeartbeats 400000 in
theorem text_any (t : ByteArray) (ht : t.size ≤ 9223372036854775000) (w : World) :
    Calls Tryz.prog 104 #[.string t] w fun e w' => e = .returned (.string (mk (text (li t)))) ∧ Below w.heap.size w w' := by
  have c1 := Lib.hid (fun v => num_nat t.size (by omega) v)
  have hn := num_len (cl t.size)
  have he : Hid (mk (text (li t)) = mk (num (cl t.size)) ++ t) := by
    show _ = _
    apply li_inj
    rw [li_mk', li_app, li_mk']
    unfold text
    rw [li_len]
  have hz : (mk (num (cl t.size))).size ≤ 8 := by rw [size_li, li_mk']; exact hn.2
  rw [he.out]
  clear he hn
  revert c1 hz
  show Hid (∀ v : World, Calls Tryz.prog 98 #[.int .i64 (t.size : Int)] v fun e w' => e = .returned (.string (mk (num (cl t.size)))) ∧ Below v.heap.size v w') → _
  generalize mk (num (cl t.size)) = N
  intro c1 hz
  go_enter Tryz.func104, Tryz.ntmps104
  go_wp2_with fail
  refine (c1.out _).mono ?_
  rintro e w1 ⟨rfl, b1⟩
  go_wp2_with fail
  go_returns
  exact ⟨rfl, b1⟩

end Go.Proofs.YtfilolmbppjbjaaGreat

namespace Go.Proofs.YtfilolmbppjbjaaGreat
open Go.RowKit

theorem text_size (l : List UInt8) : (text l).length ≤ l.length + 8 := by
  have := num_len (cl l.length)
  unfold text; rw [List.length_append]; omega
end Go.Proofs.YtfilolmbppjbjaaGreat

namespace Go.Proofs.YtfilolmbppjbjaaGreat
open Go Go.RowKit
variable {P : Program} {ops : Array Oper} {C : World → Prop} {Q : Act → Prop} {a : Act} {o : Oper} {rest : List Oper}

theorem wpQuiet_val (hw : Region.wanted o (yielded ops a.tmps) = true) (v : Value) (hv : ∀ w, C w → (execOp a.eval o).run P w = .ok (.value v) w)
    (h : wpQuiet P ops C Q rest (a.put o.dst v)) : wpQuiet P ops C Q (o :: rest) a := by
  unfold wpQuiet
  rw [if_pos hw]
  exact ⟨v, fun w hC => by unfold Oper.quietAt; rw [hv w hC]; exact ⟨rfl, rfl⟩, h⟩

theorem wpQuiet_load (hw : Region.wanted o (yielded ops a.tmps) = true) (ty : TypeId) (x : Operand) (ho : o.op = .load ty x) (b : Nat) (hx : a.eval x = .pointer (some ⟨b, 0, none⟩)) (t : TypeId) (c : Array Value) (d : TypeDesc)
    (hg : ∀ w, C w → w.heap[b]? = some (.cells c t)) (hu : P.underlying ty = some d) (hd : (match d with | .struct _ | .array _ _ => true | _ => false) = true) (hi : (P.info? ty).map (·.size) = some c.size)
    (h : wpQuiet P ops C Q rest (a.put o.dst (.agg c))) : wpQuiet P ops C Q (o :: rest) a :=
  wpQuiet_val hw _ (fun w hC => by
    unfold execOp
    simp only [ho, hx, Instr.loadAt, Instr.sureAddr, Sem.run_bind, Sem.run_pure, Result.andThen_ok, run_loadVar_row w b t ty c (0, 0) d (hg w hC) hu hd hi]) h

theorem wpQuiet_conv (hw : Region.wanted o (yielded ops a.tmps) = true) (s t : TypeId) (x : Operand) (ho : o.op = .convert s t x) (u v : Value) (hx : a.eval x = u) (hv : ∀ w, C w → (convert s t u).run P w = .ok v w)
    (h : wpQuiet P ops C Q rest (a.put o.dst v)) : wpQuiet P ops C Q (o :: rest) a :=
  wpQuiet_val hw v (fun w hC => by
    unfold execOp
    simp only [ho, hx, Sem.run_bind, hv w hC, Result.andThen_ok, Sem.run_pure]) h

theorem wpQuiet_call (hw : Region.wanted o (yielded ops a.tmps) = true) (f : FuncId) (xs : Array Operand) (ts : Array TypeId) (ho : o.op = .call { callee := .value (.func f), args := xs, argTypes := ts })
    (he : ∀ args w, (callFunc f args).run P w = .ok (.enter f args) w) (vs : Array Value) (hx : xs.map a.eval = vs) (v : Value) (hc : ∀ w, C w → Calls P f vs w fun e w' => e = .returned v ∧ C w')
    (h : wpQuiet P ops C Q rest (a.put o.dst v)) : wpQuiet P ops C Q (o :: rest) a := by
  unfold wpQuiet
  rw [if_pos hw]
  refine ⟨v, fun w hC => ?_, h⟩
  have : (execOp a.eval o).run P w = .ok (.enter f vs) w := by
    unfold execOp
    simp only [ho]
    simp [resolve, invoke, Deferred.ofValue, hx, he, Act.eval, go_sem]
  unfold Oper.quietAt
  rw [this]
  exact ⟨rfl, hc w hC⟩

theorem wpQuiet_call1 (hw : Region.wanted o (yielded ops a.tmps) = true) (f : FuncId) (x : Operand) (ts : Array TypeId) (ho : o.op = .call { callee := .value (.func f), args := #[x], argTypes := ts })
    (he : ∀ args w, (callFunc f args).run P w = .ok (.enter f args) w) (u : Value) (hx : a.eval x = u) (v : Value) (hc : ∀ w, C w → Calls P f #[u] w fun e w' => e = .returned v ∧ C w')
    (h : wpQuiet P ops C Q rest (a.put o.dst v)) : wpQuiet P ops C Q (o :: rest) a :=
  wpQuiet_call hw f _ ts ho he _ (by rw [← hx]; simp) v hc h
theorem wpQuiet_call2 (hw : Region.wanted o (yielded ops a.tmps) = true) (f : FuncId) (x y : Operand) (ts : Array TypeId) (ho : o.op = .call { callee := .value (.func f), args := #[x, y], argTypes := ts })
    (he : ∀ args w, (callFunc f args).run P w = .ok (.enter f args) w) (u1 u2 : Value) (hx : a.eval x = u1) (hy : a.eval y = u2) (v : Value) (hc : ∀ w, C w → Calls P f #[u1, u2] w fun e w' => e = .returned v ∧ C w')
    (h : wpQuiet P ops C Q rest (a.put o.dst v)) : wpQuiet P ops C Q (o :: rest) a :=
  wpQuiet_call hw f _ ts ho he _ (by rw [← hx, ← hy]; simp) v hc h

theorem wpQuiet_move (hw : Region.wanted o (yielded ops a.tmps) = true) (x : Operand) (ho : o.op = .move x ∨ o.op = .assign x) (v : Value) (hx : a.eval x = v) (h : wpQuiet P ops C Q rest (a.put o.dst v)) : wpQuiet P ops C Q (o :: rest) a :=
  wpQuiet_val hw v (fun w _ => by unfold execOp; rcases ho with ho | ho <;> simp only [ho, hx, Sem.run_pure]) h
theorem wpQuiet_pick (hw : Region.wanted o (yielded ops a.tmps) = true) (c x y : Operand) (ho : o.op = .pick c x y) (b : Bool) (hc : a.eval c = .bool b) (v : Value) (hx : (if b then a.eval x else a.eval y) = v) (h : wpQuiet P ops C Q rest (a.put o.dst v)) : wpQuiet P ops C Q (o :: rest) a :=
  wpQuiet_val hw v (fun w _ => by unfold execOp; rw [← hx]; cases b <;> simp [ho, hc, asBool]) h
theorem wpQuiet_not (hw : Region.wanted o (yielded ops a.tmps) = true) (t : TypeId) (x : Operand) (ho : o.op = .unOp .not t x) (b : Bool) (hx : a.eval x = .bool b) (h : wpQuiet P ops C Q rest (a.put o.dst (.bool (!b)))) : wpQuiet P ops C Q (o :: rest) a :=
  wpQuiet_val hw _ (fun w _ => by unfold execOp; simp only [ho, hx]; simp [Op.unary, go_sem]) h
theorem wpQuiet_seq (hw : Region.wanted o (yielded ops a.tmps) = true) (t t' : TypeId) (x y : Operand) (ho : o.op = .binOp .eql t x y t') (s1 s2 : ByteArray) (hx : a.eval x = .string s1) (hy : a.eval y = .string s2) (r : Bool) (hr : (s1.toList == s2.toList) = r)
    (h : wpQuiet P ops C Q rest (a.put o.dst (.bool r))) : wpQuiet P ops C Q (o :: rest) a :=
  wpQuiet_val hw _ (fun w _ => by unfold execOp; simp only [ho, hx, hy]; simp [eqGuard, go_sem, hr]) h
theorem wpQuiet_sne (hw : Region.wanted o (yielded ops a.tmps) = true) (t t' : TypeId) (x y : Operand) (ho : o.op = .binOp .neq t x y t') (s1 s2 : ByteArray) (hx : a.eval x = .string s1) (hy : a.eval y = .string s2) (r : Bool) (hr : (!(s1.toList == s2.toList)) = r)
    (h : wpQuiet P ops C Q rest (a.put o.dst (.bool r))) : wpQuiet P ops C Q (o :: rest) a :=
  wpQuiet_val hw _ (fun w _ => by unfold execOp; simp only [ho, hx, hy, binOp_string_neq]; rw [hr]; simp [eqGuard, go_sem]) h
theorem wpQuiet_ieq (hw : Region.wanted o (yielded ops a.tmps) = true) (t t' : TypeId) (x y : Operand) (ho : o.op = .binOp .eql t x y t') (k : IntKind) (m n : Int) (hx : a.eval x = .int k m) (hy : a.eval y = .int k n) (r : Bool) (hr : (m == n) = r)
    (h : wpQuiet P ops C Q rest (a.put o.dst (.bool r))) : wpQuiet P ops C Q (o :: rest) a :=
  wpQuiet_val hw _ (fun w _ => by unfold execOp; simp only [ho, hx, hy]; simp [eqGuard, binOp, Op.intCmp, go_sem, hr]) h
theorem wpQuiet_beq (hw : Region.wanted o (yielded ops a.tmps) = true) (t t' : TypeId) (x y : Operand) (ho : o.op = .binOp .eql t x y t') (m n : Bool) (hx : a.eval x = .bool m) (hy : a.eval y = .bool n) (ht : P.underlying t = some .bool) (r : Bool) (hr : (m == n) = r)
    (h : wpQuiet P ops C Q rest (a.put o.dst (.bool r))) : wpQuiet P ops C Q (o :: rest) a :=
  wpQuiet_val hw _ (fun w _ => by unfold execOp; rw [← hr]; simp only [ho, hx, hy]; simp [eqGuard, binOp, Op.equal, run_equalIn_bool w 9999 t m n ht, Op.maxDepth, go_sem]) h
theorem wpQuiet_deq (hw : Region.wanted o (yielded ops a.tmps) = true) (t t' : TypeId) (x y : Operand) (ho : o.op = .binOp .eql t x y t') (c d : Array Value) (hx : a.eval x = .agg c) (hy : a.eval y = .agg d) (hp : P.eqGuardType P.depth t = false) (r : Bool) (hr : ∀ w, (Op.equalIn 10000 t (.agg c) (.agg d)).run P w = .ok r w)
    (h : wpQuiet P ops C Q rest (a.put o.dst (.bool r))) : wpQuiet P ops C Q (o :: rest) a :=
  wpQuiet_val hw _ (fun w _ => by unfold execOp; simp only [ho, hx, hy]; simp [eqGuard, hp, run_eql_struct, hr, go_sem]) h
theorem wpQuiet_len (hw : Region.wanted o (yielded ops a.tmps) = true) (t : TypeId) (x : Operand) (ho : o.op = .call { callee := .builtin .len, args := #[x], argTypes := #[t] }) (s : ByteArray) (hx : a.eval x = .string s) (ht : P.underlying t = some .string)
    (h : wpQuiet P ops C Q rest (a.put o.dst (.int .i64 (s.size : Int)))) : wpQuiet P ops C Q (o :: rest) a :=
  wpQuiet_val hw _ (fun w _ => by unfold execOp; simp only [ho]; simp only [resolve, List.map_toArray, List.map_cons, List.map_nil, hx]; simp [invoke, builtin, Builtin.len_, run_underlying ht, goInt, go_sem]) h

/-- One walk of the lexical order, in a class of worlds. -/
theorem wp_region_class {id : Nat} {Q : Exit → Act → World → Prop} {a : Act} {w : World} {l : List Oper} (C : World → Prop) (hm : P.follows .mixedOrders = true) (hB : Region.lexB .any l.toArray = true) (hC : C w.drew)
    (h : wpQuiet P l.toArray C (fun a' => ∀ w', C w' → Q .normal a' w') l a) : (Code.region id l.toArray true).wp P Q a w :=
  wp_region_quiet hm hB hC (by simpa using h)
end Go.Proofs.YtfilolmbppjbjaaGreat

namespace Go.Proofs.YtfilolmbppjbjaaGreat
open Go Go.RowKit
variable {P : Program}

/-- How many operations are still to be done. -/
def todo (ops : Array Oper) (listed : Array Bool) : Nat := (List.range ops.size).countP fun i => !listed.getD i true

theorem todo_less {ops : Array Oper} {listed : Array Bool} {i : Nat} (h : i ∈ Region.ready .any ops listed) : todo ops (listed.setIfInBounds i true) < todo ops listed := by
  obtain ⟨h1, o, ho, _⟩ := mem_ready.1 h
  have hlt : i < ops.size := (Array.getElem?_eq_some_iff.1 ho).1
  unfold todo
  have key : ∀ l : List Nat, i ∈ l → l.countP (fun j => !(listed.setIfInBounds i true).getD j true) < l.countP (fun j => !listed.getD j true) := by
    intro l
    induction l with
    | nil => intro h; cases h
    | cons x l ih =>
      intro hm
      have hle : ∀ m : List Nat, m.countP (fun j => !(listed.setIfInBounds i true).getD j true) ≤ m.countP (fun j => !listed.getD j true) := fun m => by
        apply List.countP_mono_left
        intro j _ hj
        by_cases e : i = j
        · subst e; rw [h1]; rfl
        · rw [getD_set_ne true e] at hj; exact hj
      rw [List.countP_cons, List.countP_cons]
      by_cases e : i = x
      · subst e
        have e1 : (listed.setIfInBounds i true).getD i true = true := by
          by_cases hb : i < listed.size
          · simp [hb]
          · simp [hb]
        have := hle l
        rw [e1, h1]
        simp only [Bool.not_true, Bool.not_false, if_true, if_false, Bool.false_eq_true]
        omega
      · rw [getD_set_ne true e]
        have := ih (by rcases List.mem_cons.1 hm with h | h; exact absurd h e; exact h)
        omega
  exact key _ (List.mem_range.2 hlt)

theorem wpAny_inv {ops : Array Oper} {Q : Exit → Act → World → Prop} (J : Array Bool → Act → World → Prop)
    (hstep : ∀ listed a w, J listed a w → ∀ i ∈ Region.ready .any ops listed, wpOp P ops Q i (J (listed.setIfInBounds i true)) a w)
    (hend : ∀ listed a w, J listed a w → Region.ready .any ops listed = [] → Q .normal a w) :
    ∀ fuel listed a w, todo ops listed ≤ fuel → J listed a w → wpAny P .any ops Q fuel listed a w := by
  intro fuel
  induction fuel with
  | zero =>
    intro listed a w hf hJ
    have hr : Region.ready .any ops listed = [] := by
      cases h : Region.ready .any ops listed with
      | nil => rfl
      | cons i l => have := todo_less (ops := ops) (listed := listed) (i := i) (by rw [h]; simp); omega
    exact ⟨hr, hend _ _ _ hJ hr⟩
  | succ fuel ih =>
    intro listed a w hf hJ
    refine ⟨hend _ _ _ hJ, fun i hi => wpOp_mono (fun a' w' h' => ih _ _ _ ?_ h') (hstep _ _ _ hJ i hi)⟩
    have := todo_less hi
    omega

def edgeB (ops : Array Oper) (i j : Nat) : Bool := match ops[i]? with
  | some o => o.after.any fun e => Region.binds .any e && e.on == j
  | none => false
theorem ready_edge {ops : Array Oper} {listed : Array Bool} {i j : Nat} (h : i ∈ Region.ready .any ops listed) (he : edgeB ops i j = true) : listed.getD j false = true := by
  obtain ⟨_, o, ho, hall⟩ := mem_ready.1 h
  unfold edgeB at he
  rw [ho] at he
  obtain ⟨e, hm, hb⟩ := Array.any_eq_true'.1 he
  simp only [Bool.and_eq_true, beq_iff_eq] at hb
  rw [← hb.2]
  exact hall e hm hb.1
theorem ready_not {ops : Array Oper} {listed : Array Bool} {i : Nat} (h : i ∈ Region.ready .any ops listed) : listed.getD i true = false := (mem_ready.1 h).1
theorem ready_lt {ops : Array Oper} {listed : Array Bool} {i : Nat} (h : i ∈ Region.ready .any ops listed) : i < ops.size := by
  obtain ⟨_, o, ho, _⟩ := mem_ready.1 h
  exact (Array.getElem?_eq_some_iff.1 ho).1

theorem wpOp_plain {ops : Array Oper} {Q : Exit → Act → World → Prop} {i : Nat} {o : Oper} {K : Act → World → Prop} {a : Act} {w : World} (ho : ops[i]? = some o) (hg : o.guard = none) (h : Oper.wp P o a w K Q) : wpOp P ops Q i K a w :=
  wpOp_step ho fun K' hK => by
    rw [if_pos (by simp [Region.wanted, hg])]
    exact Oper.wp_mono hK h

theorem wp_load_row {op : Oper} {a : Act} {w : World} {K : Act → World → Prop} {Q : Exit → Act → World → Prop} (ty : TypeId) (x : Operand) (ho : op.op = .load ty x)
    (b : Nat) (hx : a.eval x = .pointer (some ⟨b, 0, none⟩)) (t : TypeId) (c : Array Value) (d : TypeDesc) (hg : w.heap[b]? = some (.cells c t))
    (hu : P.underlying ty = some d) (hd : (match d with | .struct _ | .array _ _ => true | _ => false) = true) (hi : (P.info? ty).map (·.size) = some c.size)
    (h : K (a.put op.dst (.agg c)) w) : op.wp P a w K Q := by
  unfold Oper.wp execOp
  simp only [ho, hx, Instr.loadAt, Instr.sureAddr, Sem.run_bind, Sem.run_pure, Result.andThen_ok, run_loadVar_row w b t ty c (0, 0) d hg hu hd hi]
  exact h
theorem wp_store_row {op : Oper} {a : Act} {w : World} {K : Act → World → Prop} {Q : Exit → Act → World → Prop} (ty : TypeId) (x y : Operand) (ho : op.op = .store ty x y)
    (b : Nat) (cells : Array Value) (hx : a.eval x = .pointer (some ⟨b, 0, none⟩)) (hy : a.eval y = .agg cells) (t : TypeId) (old : Array Value)
    (hg : w.heap[b]? = some (.cells old t)) (hi : (P.info? ty).map (·.size) = some cells.size) (hs : old.size = cells.size) (h1 : cells.all (·.oneCell') = true)
    (h : K (a.put op.dst undef) (w.setRow b cells)) : op.wp P a w K Q := by
  unfold Oper.wp execOp
  simp only [ho, hx, hy, Instr.storeAt, Instr.sureAddr, Sem.run_bind, Sem.run_pure, Result.andThen_ok, run_storeVar_row w b t ty old cells hg hi hs h1]
  exact h
theorem wp_alloc_row {op : Oper} {a : Act} {w : World} {K : Act → World → Prop} {Q : Exit → Act → World → Prop} (ty : TypeId) (ho : op.op = .alloc ty) (c : Array Value) (hz : (zeroValue ty).run P w = .ok (.agg c) w)
    (h : K (a.put op.dst (.pointer (some ⟨w.heap.size, 0, none⟩))) (w.alloc (.cells c ty))) : op.wp P a w K Q := by
  unfold Oper.wp execOp
  simp [ho, Instr.alloc, Sem.run_bind, hz, newVar, newRow, Value.cells, go_sem]
  exact h
theorem wp_call_fn {op : Oper} {a : Act} {w : World} {K : Act → World → Prop} {Q : Exit → Act → World → Prop} (f : FuncId) (x : Tmp) (t : TypeId) (ho : op.op = .call { callee := .value (.func f), args := #[.tmp x], argTypes := #[t] })
    (he : ∀ args w, (callFunc f args).run P w = .ok (.enter f args) w) (v : Value) (hx : a.eval (.tmp x) = v)
    (h : Calls P f #[v] w fun e w' => ∃ r, e = .returned r ∧ K (a.put op.dst r) w') : op.wp P a w K Q := by
  have hx' : a.tmps[x]?.getD undef = v := by simpa [Act.eval] using hx
  unfold Oper.wp execOp
  simp [ho, resolve, invoke, he, hx', go_sem]
  refine h.mono ?_
  rintro e w' ⟨r, rfl, hk⟩
  exact hk

/-- Nothing but these is waited for. -/
def onlyB (ops : Array Oper) (i : Nat) (js : List Nat) : Bool := match ops[i]? with
  | some o => o.after.all fun e => !Region.binds .any e || js.contains e.on
  | none => false
theorem done_of {ops : Array Oper} {listed : Array Bool} (hr : Region.ready .any ops listed = []) (i : Nat) (js : List Nat) (ho : onlyB ops i js = true) (hj : ∀ j ∈ js, listed.getD j false = true) : listed.getD i true = true := by
  cases h : listed.getD i true with
  | true => rfl
  | false =>
    have : i ∈ Region.ready .any ops listed := by
      refine mem_ready.2 ⟨h, ?_⟩
      unfold onlyB at ho
      cases hoi : ops[i]? with
      | none => rw [hoi] at ho; cases ho
      | some o =>
        rw [hoi] at ho
        refine ⟨o, rfl, fun e he hb => ?_⟩
        have := Array.all_eq_true_iff_forall_mem.1 ho e he
        rw [hb] at this
        exact hj _ (by simpa using this)
    rw [hr] at this
    cases this

theorem wp_val {op : Oper} {a : Act} {w : World} {K : Act → World → Prop} {Q : Exit → Act → World → Prop} (v : Value) (hv : (execOp a.eval op).run P w = .ok (.value v) w) (h : K (a.put op.dst v) w) : op.wp P a w K Q := by
  unfold Oper.wp
  rw [hv]
  exact h
end Go.Proofs.YtfilolmbppjbjaaGreat

namespace Go.Proofs.YtfilolmbppjbjaaGreat
open Go.RowKit

theorem slice32 (b : Nat) (w : World) : (Instr.sliceAt 23 (.pointer (some ⟨b, 0, none⟩)) none (some (.int .i64 32)) (some (.int .i64 32))).run Tryz.prog w = .ok (.slice (some ⟨b, 0, none⟩) 32 32) w := by
  have ht : Tryz.prog.underlying 23 = some (.array (Tryz.prog.arrayLen 23) (Tryz.prog.elem 23)) := by kernel_rfl
  have e1 : Tryz.prog.elem 23 = 5 := by kernel_rfl
  have e2 : Tryz.prog.arrayLen 23 = 32 := by kernel_rfl
  rw [run_sliceAt_array_hm (P := Tryz.prog) w 23 ⟨b, 0, none⟩ ht .i64 .i64 _ _ (by omega) (by omega) (by rw [e2]; omega), e1, Tryz.sizeOf5]
  rfl
theorem slice_all (b : Nat) (w : World) : (Instr.sliceAt 23 (.pointer (some ⟨b, 0, none⟩)) none none none).run Tryz.prog w = .ok (.slice (some ⟨b, 0, none⟩) 32 32) w := by
  have ht : Tryz.prog.underlying 23 = some (.array (Tryz.prog.arrayLen 23) (Tryz.prog.elem 23)) := by kernel_rfl
  have e1 : Tryz.prog.elem 23 = 5 := by kernel_rfl
  have e2 : Tryz.prog.arrayLen 23 = 32 := by kernel_rfl
  rw [run_sliceAt_array_all (P := Tryz.prog) w 23 ⟨b, 0, none⟩ ht, e1, e2, Tryz.sizeOf5]
  rfl

set_option maxRecDepth 100000 in
set_option maxHeartbeats 400000 in
theorem sum_any (d : List UInt8) (hd : d.length = 32) (w : World) :
    Calls Tryz.prog 123 #[.agg (row d)] w fun e w' => e = .returned (.string (mk d)) ∧ Below w.heap.size w w' := by
  have hsl := fun v => slice32 w.heap.size v
  have hcv := conv_row (w.alloc (.cells (row d) 23)) w.heap.size 32 23 d hd (by rw [heap_alloc_if, if_pos rfl])
  clear hd
  go_enter Tryz.func123, Tryz.ntmps123
  go_wp2_with fail
  go_returns
  exact ⟨rfl, by go_grown⟩

theorem ex32 (d : List UInt8) (hd : d.length = 32) : ∃ b0 b1 b2 b3 b4 b5 b6 b7 b8 b9 b10 b11 b12 b13 b14 b15 b16 b17 b18 b19 b20 b21 b22 b23 b24 b25 b26 b27 b28 b29 b30 b31 : UInt8, d = [b0, b1, b2, b3, b4, b5, b6, b7, b8, b9, b10, b11, b12, b13, b14, b15, b16, b17, b18, b19, b20, b21, b22, b23, b24, b25, b26, b27, b28, b29, b30, b31] := by
  match d, hd with
  | [b0, b1, b2, b3, b4, b5, b6, b7, b8, b9, b10, b11, b12, b13, b14, b15, b16, b17, b18, b19, b20, b21, b22, b23, b24, b25, b26, b27, b28, b29, b30, b31], _ => exact ⟨b0, b1, b2, b3, b4, b5, b6, b7, b8, b9, b10, b11, b12, b13, b14, b15, b16, b17, b18, b19, b20, b21, b22, b23, b24, b25, b26, b27, b28, b29, b30, b31, rfl⟩

/-- A digest that was read, with what is behind it. -/
def rdD (d : List UInt8) (r : ByteArray) (b : Bool) : Array Value := row d ++ #[.string r, .bool b]
theorem info28 : (Tryz.prog.info? 23).map (·.size) = some 32 := by kernel_rfl
theorem wpList_build0 {P : Program} {ops : Array Oper} {rest : List Oper} {op : Oper} {a : Act} {w : World} {Q : Exit → Act → World → Prop} (hgd : op.guard = none) (t : TypeId) (ho : op.op = .build t #[])
    (v : Value) (hv : ∀ w, (Instr.build t #[]).run P w = .ok v w)
    (h : wpList P ops Q rest (a.put op.dst v) w) : wpList P ops Q (op :: rest) a w :=
  wpList_plain hgd fun _ hK => by
    unfold Oper.wp execOp
    simp only [ho, List.map_toArray, List.map_nil, Sem.run_bind, hv, Result.andThen_ok, Sem.run_pure]
    exact hK _ _ h
theorem run_val {m : Sem Value} {x : Value} {v : World} (h : m.run Tryz.prog v = .ok x v) : (do pure (Next.value (← m)) : Sem Next).run Tryz.prog v = .ok (.value x) v := by
  rw [Sem.run_bind, h]; rfl
theorem loadCell (t : TypeId) (z o : Nat) (v : World) (x : Value) (ha : ∀ w, (isAgg t).run Tryz.prog w = .ok false w) (h : v.cell? ⟨z, o, none⟩ = some x) : (Instr.loadAt t (.pointer (some ⟨z, o, none⟩))).run Tryz.prog v = .ok x v := by
  simp [Instr.loadAt, Instr.sureAddr, loadVar, ha, h, go_sem]

def z28 : Array Value := row (List.replicate 32 0)
theorem wp_call_fn2 {P : Program} {op : Oper} {a : Act} {w : World} {K : Act → World → Prop} {Q : Exit → Act → World → Prop} (f : FuncId) (x y : Tmp) (t u : TypeId) (ho : op.op = .call { callee := .value (.func f), args := #[.tmp x, .tmp y], argTypes := #[t, u] })
    (he : ∀ args w, (callFunc f args).run P w = .ok (.enter f args) w) (v1 v2 : Value) (hx : a.eval (.tmp x) = v1) (hy : a.eval (.tmp y) = v2)
    (h : Calls P f #[v1, v2] w fun e w' => ∃ r, e = .returned r ∧ K (a.put op.dst r) w') : op.wp P a w K Q := by
  have hx' : a.tmps[x]?.getD undef = v1 := by simpa [Act.eval] using hx
  have hy' : a.tmps[y]?.getD undef = v2 := by simpa [Act.eval] using hy
  unfold Oper.wp execOp
  simp [ho, resolve, invoke, he, hx', hy', go_sem]
  refine h.mono ?_
  rintro e w' ⟨r, rfl, hk⟩
  exact hk
end Go.Proofs.YtfilolmbppjbjaaGreat
