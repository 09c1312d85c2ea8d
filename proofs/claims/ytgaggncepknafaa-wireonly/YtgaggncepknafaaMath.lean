/-
  Plain facts on 32-bit words: halving and turning, byte by byte and nibble by nibble. No Go text is named here.
-/
import Derived.Laws.BitsAllLaws
namespace Go.Proofs.Ytgaggncepknafaa

def poly : BitVec 32 := 3988292384#32
/-- One halving. -/
def hv1 (c : BitVec 32) : BitVec 32 := if c.getLsbD 0 then (c >>> 1) ^^^ poly else c >>> 1
/-- So many halvings. -/
def hv : Nat → BitVec 32 → BitVec 32
  | 0, c => c
  | n + 1, c => hv1 (hv n c)

theorem hv1_xor (a b : BitVec 32) : hv1 (a ^^^ b) = hv1 a ^^^ hv1 b := by
  have hx : ∀ p q r : BitVec 32, p ^^^ r ^^^ (q ^^^ r) = p ^^^ q := fun p q r => by
    apply BitVec.eq_of_getLsbD_eq; intro i hi; simp only [BitVec.getLsbD_xor]; cases p.getLsbD i <;> cases q.getLsbD i <;> cases r.getLsbD i <;> rfl
  have hy : ∀ p q r : BitVec 32, p ^^^ q ^^^ r = p ^^^ r ^^^ q := fun p q r => by
    apply BitVec.eq_of_getLsbD_eq; intro i hi; simp only [BitVec.getLsbD_xor]; cases p.getLsbD i <;> cases q.getLsbD i <;> cases r.getLsbD i <;> rfl
  have hz : ∀ p q r : BitVec 32, p ^^^ q ^^^ r = p ^^^ (q ^^^ r) := fun p q r => BitVec.xor_assoc _ _ _
  unfold hv1
  rw [BitVec.getLsbD_xor, BitVec.ushiftRight_xor_distrib]
  cases ha : a.getLsbD 0 <;> cases hb : b.getLsbD 0
  · simp
  · simp [hz]
  · simp [hy]
  · simp [hx]

theorem hv_xor (n : Nat) (a b : BitVec 32) : hv n (a ^^^ b) = hv n a ^^^ hv n b := by
  induction n with
  | zero => rfl
  | succ n ih => simp only [hv, ih, hv1_xor]

theorem hv_add (m n : Nat) (c : BitVec 32) : hv (m + n) c = hv n (hv m c) := by
  induction n with
  | zero => rfl
  | succ n ih => show hv1 (hv (m + n) c) = hv1 (hv n (hv m c)); rw [ih]

/-- Where the lowest bits are 0 halvings only move down. -/
theorem hv_low (n : Nat) (y : BitVec 32) (h : ∀ i, i < n → y.getLsbD i = false) : hv n y = y >>> n := by
  induction n with
  | zero => simp [hv]
  | succ n ih =>
    show hv1 (hv n y) = _
    rw [ih (fun i hi => h i (by omega))]
    unfold hv1
    have : (y >>> n).getLsbD 0 = false := by rw [BitVec.getLsbD_ushiftRight]; simpa using h n (by omega)
    rw [this]
    simp [BitVec.shiftRight_add]

theorem hv1_zero (d : BitVec 32) (h : hv1 d = 0#32) : d = 0#32 := by
  unfold hv1 at h
  cases hd : d.getLsbD 0
  · rw [hd] at h
    simp only [Bool.false_eq_true, if_false] at h
    apply BitVec.eq_of_getLsbD_eq
    intro i hi
    cases i with
    | zero => rw [hd]; rfl
    | succ i =>
      have := congrArg (fun v => BitVec.getLsbD v i) h
      simp only [BitVec.getLsbD_ushiftRight] at this
      rw [Nat.add_comm, this]; simp
  · rw [hd] at h
    simp only [if_true] at h
    have := congrArg (fun v => BitVec.getLsbD v 31) h
    have hp : poly.getLsbD 31 = true := by decide
    simp only [BitVec.getLsbD_xor, BitVec.getLsbD_ushiftRight, hp, BitVec.getLsbD_zero] at this
    rw [BitVec.getLsbD_of_ge _ _ (by decide)] at this
    exact absurd this (by decide)

theorem hv_zero (n : Nat) (d : BitVec 32) (h : hv n d = 0#32) : d = 0#32 := by
  induction n with
  | zero => exact h
  | succ n ih => exact ih (hv1_zero _ h)

theorem xor_zero_eq (a b : BitVec 32) (h : a ^^^ b = 0#32) : a = b := by
  apply BitVec.eq_of_getLsbD_eq
  intro i hi
  have := congrArg (fun v => BitVec.getLsbD v i) h
  simp only [BitVec.getLsbD_xor, BitVec.getLsbD_zero] at this
  cases ha : a.getLsbD i <;> cases hb : b.getLsbD i <;> simp_all

theorem hv_inj (n : Nat) (a b : BitVec 32) (h : hv n a = hv n b) : a = b := by
  apply xor_zero_eq
  apply hv_zero n
  rw [hv_xor, h, BitVec.xor_self]

/-- A byte as a word. -/
def byte (b : UInt8) : BitVec 32 := BitVec.ofNat 32 b.toNat
/-- A word behind one byte. -/
def stp (c : BitVec 32) (b : UInt8) : BitVec 32 := hv 8 (c ^^^ byte b)
/-- A word behind bytes. -/
def run (c : BitVec 32) (l : List UInt8) : BitVec 32 := l.foldl stp c
/-- The check. -/
def more (c : BitVec 32) (l : List UInt8) : BitVec 32 := ~~~(run (~~~c) l)

theorem byte_inj (a b : UInt8) (h : byte a = byte b) : a = b := by
  have := congrArg BitVec.toNat h
  simp only [byte, BitVec.toNat_ofNat] at this
  have ha := a.toNat_lt; have hb := b.toNat_lt
  apply UInt8.toNat_inj.mp
  omega

/-- The four lowest bits by a table, the others moved down. -/
theorem hv4 (x : BitVec 32) : hv 4 x = hv 4 (x &&& 15#32) ^^^ (x >>> 4) := by
  have h1 : x = (x &&& 15#32) ^^^ (x &&& ~~~15#32) := by
    apply BitVec.eq_of_getLsbD_eq; intro i hi
    simp only [BitVec.getLsbD_xor, BitVec.getLsbD_and, BitVec.getLsbD_not, hi, decide_true, Bool.true_and]
    cases x.getLsbD i <;> cases (15#32).getLsbD i <;> rfl
  have h2 : hv 4 (x &&& ~~~15#32) = x >>> 4 := by
    rw [hv_low]
    · apply BitVec.eq_of_getLsbD_eq; intro i hi
      rw [BitVec.getLsbD_ushiftRight, BitVec.getLsbD_ushiftRight, BitVec.getLsbD_and, BitVec.getLsbD_not]
      by_cases h : 4 + i < 32
      · have hm : (15#32).getLsbD (4 + i) = false := by
          have : ∀ j : Fin 28, (15#32).getLsbD (4 + j.val) = false := by decide
          exact this ⟨i, by omega⟩
        rw [hm, decide_eq_true h]; cases x.getLsbD (4 + i) <;> rfl
      · have : x.getLsbD (4 + i) = false := BitVec.getLsbD_of_ge _ _ (by omega)
        simp [this]
    · intro i hi
      have hm : (15#32).getLsbD i = true := by
        have : ∀ j : Fin 4, (15#32).getLsbD j.val = true := by decide
        exact this ⟨i, hi⟩
      rw [BitVec.getLsbD_and, BitVec.getLsbD_not, hm]; simp
  calc hv 4 x = hv 4 ((x &&& 15#32) ^^^ (x &&& ~~~15#32)) := by rw [← h1]
    _ = _ := by rw [hv_xor, h2]

theorem hv8 (x : BitVec 32) : hv 8 x = hv 4 (hv 4 x) := hv_add 4 4 x

theorem run_append (c : BitVec 32) (a b : List UInt8) : run c (a ++ b) = run (run c a) b := by
  unfold run; rw [List.foldl_append]

theorem more_append (c : BitVec 32) (a b : List UInt8) : more c (a ++ b) = more (more c a) b := by
  unfold more; rw [run_append, BitVec.not_not]

theorem run_inj (a b : BitVec 32) (l : List UInt8) (h : run a l = run b l) : a = b := by
  induction l generalizing a b with
  | nil => exact h
  | cons x l ih =>
    have := ih _ _ h
    have := hv_inj 8 _ _ this
    have := congrArg (· ^^^ byte x) this
    simpa [BitVec.xor_assoc] using this

theorem not_inj (a b : BitVec 32) (h : ~~~a = ~~~b) : a = b := by
  have := congrArg (~~~ ·) h
  simpa using this

/-- One byte that is another one is told. -/
theorem more_byte (c : BitVec 32) (a b : List UInt8) (x y : UInt8) (h : more c (a ++ (x :: b)) = more c (a ++ (y :: b))) : x = y := by
  have h1 := not_inj _ _ h
  rw [run_append, run_append] at h1
  have h2 : run (stp (run (~~~c) a) x) b = run (stp (run (~~~c) a) y) b := h1
  have h3 := hv_inj 8 _ _ (run_inj _ _ _ h2)
  apply byte_inj
  have := congrArg (run (~~~c) a ^^^ ·) h3
  simpa [← BitVec.xor_assoc] using this

end Go.Proofs.Ytgaggncepknafaa
