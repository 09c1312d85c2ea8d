/-
  Digits and what they tell, and the table of four bits: plain facts. No call is walked here.
-/
import Derived.Test.YtcfifhanhkjdmaaWords
import Derived.Below
namespace Go.Proofs.Ytcfifhanhkjdmaa
open Go.RowKit

def digs : ByteArray := ⟨#[48, 49, 50, 51, 52, 53, 54, 55, 56, 57, 97, 98, 99, 100, 101, 102]⟩

def dg (n : Nat) : UInt8 := digs.data.toList.getD n 0

theorem dg_at (n : Nat) (h : n < digs.size) : digs[n] = dg n := by
  unfold dg
  rw [List.getD_eq_getElem?_getD, List.getElem?_eq_getElem (by simpa using h)]
  rfl

theorem dg_low (n : Nat) (h : n < 16) : (dg n).toNat < 128 := by
  have : ∀ i : Fin 16, (dg i.val).toNat < 128 := by decide
  exact this ⟨n, h⟩

theorem dg_inj (m n : Nat) (h : m < 16) (k : n < 16) (e : (dg m).toNat = (dg n).toNat) : m = n := by
  have : ∀ i j : Fin 16, (dg i.val).toNat = (dg j.val).toNat → i.val = j.val := by decide
  exact this ⟨m, h⟩ ⟨n, k⟩ e

theorem digs_lit : ({ data := #[48, 49, 50, 51, 52, 53, 54, 55, 56, 57, 97, 98, 99, 100, 101, 102] } : ByteArray) = digs := rfl

/-- The j-th digit, the highest first. -/
def txb (c : BitVec 32) (j : Nat) : UInt8 := dg ((c <<< (4 * j)) >>> (28 : Nat)).toNat

def tcell (c : BitVec 32) (k j : Nat) : Value := .int .u8 (if j < k then ((txb c j).toNat : Int) else 0)

def tcells (c : BitVec 32) (k : Nat) : Array Value := ((List.range 8).map (tcell c k)).toArray

theorem tcells_zero (c : BitVec 32) : tcells c 0 = #[.int .u8 0, .int .u8 0, .int .u8 0, .int .u8 0, .int .u8 0, .int .u8 0, .int .u8 0, .int .u8 0] := rfl

theorem tcells_size (c : BitVec 32) (k : Nat) : (tcells c k).size = 8 := by simp [tcells]

theorem tcells_at (c : BitVec 32) (k j : Nat) (h : j < 8) : (tcells c k)[j]? = some (tcell c k j) := by
  unfold tcells
  rw [List.getElem?_toArray, List.getElem?_map, List.getElem?_range h]; rfl

theorem tcells_set (c : BitVec 32) (k : Nat) : (tcells c k).setIfInBounds k (.int .u8 (txb c k).toNat) = tcells c (k + 1) := by
  apply Array.ext_getElem?
  intro i
  rw [Array.getElem?_setIfInBounds, tcells_size]
  by_cases hi : i < 8
  · rw [tcells_at _ _ _ hi, tcells_at _ _ _ hi]
    unfold tcell
    by_cases h : k = i
    · subst h; simp [hi]
    · rw [if_neg h]
      by_cases h3 : i < k
      · rw [if_pos h3, if_pos (by omega)]
      · rw [if_neg h3, if_neg (by omega)]
  · have e : ∀ n, (tcells c n)[i]? = none := fun n => Array.getElem?_eq_none (by rw [tcells_size]; omega)
    rw [e, e]
    by_cases h : k = i
    · subst h; simp [hi]
    · rw [if_neg h]

theorem shr28 (a : BitVec 32) : V a / (268435456 : Int) = ((a >>> (28 : Nat)).toNat : Int) := shrV a 28

theorem shr28_lt (a : BitVec 32) : (a >>> (28 : Nat)).toNat < 16 := by
  rw [BitVec.toNat_ushiftRight, Nat.shiftRight_eq_div_pow]; have := a.isLt; omega

theorem shl4 (a : BitVec 32) : V a * 16 % (4294967296 : Int) = V (a <<< (4 : Nat)) := by
  unfold V; rw [BitVec.toNat_shiftLeft, Nat.shiftLeft_eq]; omega

/-- The digits. -/
def txt (c : BitVec 32) : List UInt8 := (List.range 8).map (txb c)

theorem txt_length (c : BitVec 32) : (txt c).length = 8 := by simp [txt]

theorem digs_at (c : BitVec 32) (k : Nat) (z : Int) (hz : z = V (c <<< (4 * k)) / (268435456 : Int)) (hn : z.toNat < digs.size) : Value.int .u8 (digs[z.toNat].toNat : Int) = .int .u8 ((txb c k).toNat : Int) := by
  rw [dg_at, show z.toNat = ((c <<< (4 * k)) >>> (28 : Nat)).toNat by rw [shr28] at hz; omega]; rfl

/-- The number that a byte stands for. -/
def val (b : UInt8) : Option Nat := (List.range 16).find? (fun n => dg n == b)

theorem val_dg (n : Nat) (h : n < 16) : val (dg n) = some n := by
  have : ∀ i : Fin 16, val (dg i.val) = some i.val := by decide
  exact this ⟨n, h⟩

theorem val_some {b : UInt8} {n : Nat} (h : val b = some n) : n < 16 ∧ b = dg n := by
  have h1 := List.mem_of_find?_eq_some h
  have h2 := List.find?_some h
  exact ⟨by simpa using h1, by simpa using (beq_iff_eq.1 h2).symm⟩

theorem val_none {b : UInt8} (h : val b = none) (n : Nat) (hn : n < 16) : (dg n).toNat ≠ b.toNat := by
  intro e
  have : dg n = b := UInt8.toNat_inj.mp e
  rw [← this, val_dg n hn] at h
  cases h

/-- One digit more. -/
def put (c : BitVec 32) (n : Nat) : BitVec 32 := (c <<< (4 : Nat)) ||| BitVec.ofNat 32 n

def numTo : List UInt8 → BitVec 32 → Option (BitVec 32)
  | [], c => some c
  | b :: l, c => match val b with
    | none => none
    | some n => numTo l (put c n)

/-- The word that digits are. -/
def num (l : List UInt8) : Option (BitVec 32) := if l.length = 8 then numTo l 0#32 else none

def numV (l : List UInt8) : Int := match num l with | some c => V c | none => 0

def numB (l : List UInt8) : Bool := (num l).isSome

def numR (l : List UInt8) : Ending := .returned (.tuple #[.int .u32 (numV l), .bool (numB l)])

theorem numR_none {l : List UInt8} (h : num l = none) : numR l = .returned (.tuple #[.int .u32 0, .bool false]) := by
  unfold numR numV numB; rw [h]; rfl

theorem numR_some {l : List UInt8} {c : BitVec 32} (h : num l = some c) : numR l = .returned (.tuple #[.int .u32 (V c), .bool true]) := by
  unfold numR numV numB; rw [h]; rfl

theorem orShl (c : BitVec 32) (n : Nat) (h : n < 16) : bits .or .u32 (V c * 16 % (4294967296 : Int)) (n : Int) = V (put c n) := by
  have e : (n : Int) = V (BitVec.ofNat 32 n) := (V_ofNat n (by omega)).symm
  rw [shl4, e, orV]; rfl

theorem drop_at (s : ByteArray) (k : Nat) (h : k < s.size) : s.data.toList.drop k = s[k] :: s.data.toList.drop (k + 1) := by
  rw [List.drop_eq_getElem_cons (by simpa using h)]; rfl

theorem numTo_at {s : ByteArray} {k : Nat} (h : k < s.size) (c : BitVec 32) : numTo (s.data.toList.drop k) c = match val s[k] with | none => none | some n => numTo (s.data.toList.drop (k + 1)) (put c n) := by
  rw [drop_at s k h]; rfl

theorem tdiv16 (a : BitVec 32) : (V a).tdiv (16 : Int) % (4294967296 : Int) = V (a >>> (4 : Nat)) := by
  rw [Int.tdiv_eq_ediv_of_nonneg (V_lo a), shr4]
  have := V_lo (a >>> (4 : Nat)); have := V_hi (a >>> (4 : Nat)); omega

theorem tmod16 (a : BitVec 32) : (V a).tmod (16 : Int) = ((a.toNat % 16 : Nat) : Int) := by
  rw [Int.tmod_eq_emod_of_nonneg (V_lo a)]; unfold V; omega

/-- The lowest digits. -/
def rtl (c : BitVec 32) : Nat → List UInt8
  | 0 => []
  | k + 1 => dg ((c >>> (4 * k)).toNat % 16) :: rtl c k

theorem rtl_length (c : BitVec 32) (k : Nat) : (rtl c k).length = k := by
  induction k with
  | zero => rfl
  | succ k ih => simp [rtl, ih]

theorem rtl_txt (c : BitVec 32) : rtl c 8 = txt c := by
  have h := c.isLt
  have e : ∀ j k, j + k = 7 → (c >>> (4 * k)).toNat % 16 = ((c <<< (4 * j)) >>> (28 : Nat)).toNat := by
    intro j k hjk
    rw [BitVec.toNat_ushiftRight, BitVec.toNat_ushiftRight, BitVec.toNat_shiftLeft, Nat.shiftRight_eq_div_pow, Nat.shiftRight_eq_div_pow, Nat.shiftLeft_eq]
    obtain ⟨rfl, rfl⟩ | ⟨rfl, rfl⟩ | ⟨rfl, rfl⟩ | ⟨rfl, rfl⟩ | ⟨rfl, rfl⟩ | ⟨rfl, rfl⟩ | ⟨rfl, rfl⟩ | ⟨rfl, rfl⟩ : (j = 0 ∧ k = 7) ∨ (j = 1 ∧ k = 6) ∨ (j = 2 ∧ k = 5) ∨ (j = 3 ∧ k = 4) ∨ (j = 4 ∧ k = 3) ∨ (j = 5 ∧ k = 2) ∨ (j = 6 ∧ k = 1) ∨ (j = 7 ∧ k = 0) := by omega
    all_goals omega
  show [_, _, _, _, _, _, _, _] = [txb c 0, txb c 1, txb c 2, txb c 3, txb c 4, txb c 5, txb c 6, txb c 7]
  simp only [txb]
  rw [e 0 7 rfl, e 1 6 rfl, e 2 5 rfl, e 3 4 rfl, e 4 3 rfl, e 5 2 rfl, e 6 1 rfl, e 7 0 rfl]

theorem digs_cut (n : Nat) (h : n < 16) (l : List UInt8) : digs.extract n (n + 1) ++ ⟨l.toArray⟩ = ⟨(dg n :: l).toArray⟩ := by
  have e : digs.extract n (n + 1) = ⟨#[dg n]⟩ := by
    have : ∀ i : Fin 16, digs.extract i.val (i.val + 1) = ⟨#[dg i.val]⟩ := by decide
    exact this ⟨n, h⟩
  rw [e]
  apply ByteArray.ext
  rw [ByteArray.data_append]
  apply Array.toList_inj.mp
  simp

/-- The last place, of the first so many, at which a digit stands. -/
def lst (b : UInt8) (j : Nat) : Int := match val b with
  | some v => if v < j then (v : Int) else -1
  | none => -1

theorem lst_zero (b : UInt8) : lst b 0 = -1 := by unfold lst; cases val b <;> simp

theorem lst_yes {b : UInt8} {j : Nat} (hj : j < 16) (h : dg j = b) : lst b (j + 1) = j := by
  unfold lst; rw [← h, val_dg j hj]; simp

theorem lst_no {b : UInt8} {j : Nat} (h : dg j ≠ b) : lst b (j + 1) = lst b j := by
  unfold lst
  cases hv : val b with
  | none => rfl
  | some v =>
    have : v ≠ j := fun e => h (by rw [← e]; exact (val_some hv).2.symm)
    by_cases h1 : v < j
    · simp [h1, show v < j + 1 by omega]
    · simp [h1, show ¬ v < j + 1 by omega]

theorem lst_some {b : UInt8} {v : Nat} (h : val b = some v) : lst b 16 = v := by
  unfold lst; rw [h]; simp [(val_some h).1]

theorem lst_none {b : UInt8} (h : val b = none) (j : Nat) : lst b j = -1 := by
  unfold lst; rw [h]

theorem addShl (c : BitVec 32) (n : Nat) (h : n < 16) : V c * 16 % (4294967296 : Int) + (n : Int) = V (put c n) := by
  unfold put V
  rw [BitVec.toNat_or, BitVec.toNat_shiftLeft, Nat.shiftLeft_eq, BitVec.toNat_ofNat, nat_join 4 _ _ (by omega) (by omega)]
  omega

theorem dg_eq (j : Nat) (b : UInt8) (h : j < digs.size) (e : ((digs[j].toNat : Int) == (b.toNat : Int)) = true) : dg j = b := by
  rw [dg_at] at e
  have := beq_iff_eq.1 e
  exact UInt8.toNat_inj.mp (by omega)

theorem dg_ne (j : Nat) (b : UInt8) (h : j < digs.size) (e : ((digs[j].toNat : Int) == (b.toNat : Int)) = false) : dg j ≠ b := by
  rw [dg_at] at e
  intro he
  rw [he] at e
  simp at e

def T (i : Nat) : Int := V (hv 4 (BitVec.ofNat 32 i))

/-- What a byte comes to, in the walk's own words. -/
structure Nibs (d : BitVec 32) (b : UInt8) (x y : BitVec 32) (i j : Nat) : Prop where
  hi : i < 16
  hj : j < 16
  r0 : (b.toNat : Int) % 4294967296 = V (byte b)
  r1 : bits .xor .u32 (V d) (V (byte b)) = V x
  r2 : bits .and .u32 (V x) 15 = (i : Int)
  r3 : bits .xor .u32 (T i) (V x / (16 : Int)) = V y
  r4 : bits .and .u32 (V y) 15 = (j : Int)
  r5 : bits .xor .u32 (T j) (V y / (16 : Int)) = V (stp d b)

theorem nibs_of (d : BitVec 32) (b : UInt8) : ∃ x y i j, Nibs d b x y i j := by
  have key : ∀ x : BitVec 32, bits .xor .u32 (T (x &&& 15#32).toNat) (V x / (16 : Int)) = V (hv 4 x) := fun x => by
    rw [shr4]
    unfold T
    rw [BitVec.ofNat_toNat, BitVec.setWidth_eq, xorV, ← hv4]
  refine ⟨d ^^^ byte b, hv 4 (d ^^^ byte b), _, _, and15_lt _, and15_lt _, byteV b, xorV _ _, and15 _, key _, and15 _, ?_⟩
  rw [key, ← hv8]; rfl

theorem max_u32 : IntKind.u32.max = 4294967295 := by decide

theorem run_snoc (c : BitVec 32) (s : ByteArray) (k : Nat) (h : k < s.size) : run c (s.data.toList.take (k + 1)) = stp (run c (s.data.toList.take k)) s[k] := by
  rw [List.take_succ_eq_append_getElem (by simpa using h), run_append]
  rfl

theorem tab_at (i : Nat) (h : i < 16) : (#[.int .u32 (T 0), .int .u32 (T 1), .int .u32 (T 2), .int .u32 (T 3), .int .u32 (T 4), .int .u32 (T 5), .int .u32 (T 6), .int .u32 (T 7), .int .u32 (T 8), .int .u32 (T 9), .int .u32 (T 10), .int .u32 (T 11), .int .u32 (T 12), .int .u32 (T 13), .int .u32 (T 14), .int .u32 (T 15)] : Array Value)[i]? = some (.int .u32 (T i)) := by
  obtain rfl | rfl | rfl | rfl | rfl | rfl | rfl | rfl | rfl | rfl | rfl | rfl | rfl | rfl | rfl | rfl : i = 0 ∨ i = 1 ∨ i = 2 ∨ i = 3 ∨ i = 4 ∨ i = 5 ∨ i = 6 ∨ i = 7 ∨ i = 8 ∨ i = 9 ∨ i = 10 ∨ i = 11 ∨ i = 12 ∨ i = 13 ∨ i = 14 ∨ i = 15 := by omega
  all_goals rfl

end Go.Proofs.Ytcfifhanhkjdmaa
