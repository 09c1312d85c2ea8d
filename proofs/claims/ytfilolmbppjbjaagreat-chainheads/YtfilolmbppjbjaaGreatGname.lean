/-
  NMath · NQuoted · NBridge · NLeafs · NLess · NValid: merged.
-/
import Derived.Lib.Strings
import Derived.Lib.RuneBytes
import Derived.Laws.RangeAny
import Derived.Lib.Bytealg
import Derived.Test.YtfilolmbppjbjaaGreatRows
import Derived.WalkKit
import Derived.WalkSpells
import Derived.WalkLawsBesides
import Derived.Handy
import Derived.Lib.Hide
import Derived.Laws.IdiomStrings
import Derived.Lib.OthersKept
import Derived.BigQuiet
import Derived.Deep.QuietTactic
import Derived.Test.YtfilolmbppjbjaaGreatGwire
namespace Go.Proofs.YtfilolmbppjbjaaGreat.nm

/-- The rune and its width, by the first four bytes; 1114112 and more: a broken byte. -/
def dec4 (a b c d : Nat) : Nat × Nat :=
  if a < 128 then (a, 1)
  else if 194 ≤ a ∧ a < 224 ∧ 128 ≤ b ∧ b < 192 then ((a - 192) * 64 + (b - 128), 2)
  else if 224 ≤ a ∧ a < 240 ∧ 128 ≤ b ∧ b < 192 ∧ 128 ≤ c ∧ c < 192 ∧ 2048 ≤ (a - 224) * 4096 + (b - 128) * 64 + (c - 128) ∧ ¬ (55296 ≤ (a - 224) * 4096 + (b - 128) * 64 + (c - 128) ∧ (a - 224) * 4096 + (b - 128) * 64 + (c - 128) ≤ 57343) then ((a - 224) * 4096 + (b - 128) * 64 + (c - 128), 3)
  else if 240 ≤ a ∧ a < 245 ∧ 128 ≤ b ∧ b < 192 ∧ 128 ≤ c ∧ c < 192 ∧ 128 ≤ d ∧ d < 192 ∧ 65536 ≤ (a - 240) * 262144 + (b - 128) * 4096 + (c - 128) * 64 + (d - 128) ∧ (a - 240) * 262144 + (b - 128) * 4096 + (c - 128) * 64 + (d - 128) ≤ 1114111 then ((a - 240) * 262144 + (b - 128) * 4096 + (c - 128) * 64 + (d - 128), 4)
  else (1114112 + a, 1)

def byt (l : List UInt8) (k : Nat) : Nat := (l.getD k 0).toNat
def dec (l : List UInt8) : Nat × Nat := dec4 (byt l 0) (byt l 1) (byt l 2) (byt l 3)

def b8 (n : Nat) : UInt8 := UInt8.ofNat n
theorem b8_toNat (n : Nat) (h : n < 256) : (b8 n).toNat = n := by
  unfold b8; rw [UInt8.toNat_ofNat']; exact Nat.mod_eq_of_lt h
theorem b8_eq (x : UInt8) (n : Nat) (h : n = x.toNat) : b8 n = x := by subst h; unfold b8; simp

/-- The bytes of a rune, or of a broken byte. -/
def enc (p : Nat) : List UInt8 :=
  if 1114112 ≤ p then [b8 (p - 1114112)]
  else if p < 128 then [b8 p]
  else if p < 2048 then [b8 (192 + p / 64), b8 (128 + p % 64)]
  else if p < 65536 then [b8 (224 + p / 4096), b8 (128 + p / 64 % 64), b8 (128 + p % 64)]
  else [b8 (240 + p / 262144), b8 (128 + p / 4096 % 64), b8 (128 + p / 64 % 64), b8 (128 + p % 64)]

theorem byt_lt (l : List UInt8) (k : Nat) : byt l k < 256 := (l.getD k 0).toNat_lt

/-- The five ways in which a text begins. -/
theorem dec_ways (l : List UInt8) (hl : l ≠ []) :
    (∃ a t, l = a :: t ∧ a.toNat < 128 ∧ dec l = (a.toNat, 1)) ∨
    (∃ a b t, l = a :: b :: t ∧ 194 ≤ a.toNat ∧ a.toNat < 224 ∧ 128 ≤ b.toNat ∧ b.toNat < 192 ∧ dec l = ((a.toNat - 192) * 64 + (b.toNat - 128), 2)) ∨
    (∃ a b c t, l = a :: b :: c :: t ∧ 224 ≤ a.toNat ∧ a.toNat < 240 ∧ 128 ≤ b.toNat ∧ b.toNat < 192 ∧ 128 ≤ c.toNat ∧ c.toNat < 192 ∧ 2048 ≤ (a.toNat - 224) * 4096 + (b.toNat - 128) * 64 + (c.toNat - 128) ∧ ¬ (55296 ≤ (a.toNat - 224) * 4096 + (b.toNat - 128) * 64 + (c.toNat - 128) ∧ (a.toNat - 224) * 4096 + (b.toNat - 128) * 64 + (c.toNat - 128) ≤ 57343) ∧ dec l = ((a.toNat - 224) * 4096 + (b.toNat - 128) * 64 + (c.toNat - 128), 3)) ∨
    (∃ a b c d t, l = a :: b :: c :: d :: t ∧ 240 ≤ a.toNat ∧ a.toNat < 245 ∧ 128 ≤ b.toNat ∧ b.toNat < 192 ∧ 128 ≤ c.toNat ∧ c.toNat < 192 ∧ 128 ≤ d.toNat ∧ d.toNat < 192 ∧ 65536 ≤ (a.toNat - 240) * 262144 + (b.toNat - 128) * 4096 + (c.toNat - 128) * 64 + (d.toNat - 128) ∧ (a.toNat - 240) * 262144 + (b.toNat - 128) * 4096 + (c.toNat - 128) * 64 + (d.toNat - 128) ≤ 1114111 ∧ dec l = ((a.toNat - 240) * 262144 + (b.toNat - 128) * 4096 + (c.toNat - 128) * 64 + (d.toNat - 128), 4)) ∨
    (∃ a t, l = a :: t ∧ 128 ≤ a.toNat ∧ dec l = (1114112 + a.toNat, 1)) := by
  obtain ⟨a, t, rfl⟩ : ∃ a t, l = a :: t := by
    cases l with
    | nil => exact absurd rfl hl
    | cons a t => exact ⟨a, t, rfl⟩
  have h0 : byt (a :: t) 0 = a.toNat := rfl
  by_cases c1 : a.toNat < 128
  · exact .inl ⟨a, t, rfl, c1, by unfold dec dec4; rw [h0, if_pos c1]⟩
  right
  by_cases c2 : 194 ≤ a.toNat ∧ a.toNat < 224 ∧ 128 ≤ byt (a :: t) 1 ∧ byt (a :: t) 1 < 192
  · left
    cases t with
    | nil => have : byt [a] 1 = 0 := rfl; omega
    | cons b t => exact ⟨a, b, t, rfl, c2.1, c2.2.1, c2.2.2.1, c2.2.2.2, by unfold dec dec4; rw [h0, if_neg c1, if_pos c2]; rfl⟩
  right
  by_cases c3 : 224 ≤ a.toNat ∧ a.toNat < 240 ∧ 128 ≤ byt (a :: t) 1 ∧ byt (a :: t) 1 < 192 ∧ 128 ≤ byt (a :: t) 2 ∧ byt (a :: t) 2 < 192 ∧ 2048 ≤ (a.toNat - 224) * 4096 + (byt (a :: t) 1 - 128) * 64 + (byt (a :: t) 2 - 128) ∧ ¬ (55296 ≤ (a.toNat - 224) * 4096 + (byt (a :: t) 1 - 128) * 64 + (byt (a :: t) 2 - 128) ∧ (a.toNat - 224) * 4096 + (byt (a :: t) 1 - 128) * 64 + (byt (a :: t) 2 - 128) ≤ 57343)
  · left
    match t, c2, c3 with
    | [], _, c3 => have : byt [a] 1 = 0 := rfl; omega
    | [b], _, c3 => have : byt [a, b] 2 = 0 := rfl; omega
    | b :: c :: t, c2, c3 =>
      obtain ⟨q1, q2, q3, q4, q5, q6, q7, q8⟩ := c3
      exact ⟨a, b, c, t, rfl, q1, q2, q3, q4, q5, q6, q7, q8, by unfold dec dec4; rw [h0, if_neg c1, if_neg c2, if_pos ⟨q1, q2, q3, q4, q5, q6, q7, q8⟩]; rfl⟩
  right
  by_cases c4 : 240 ≤ a.toNat ∧ a.toNat < 245 ∧ 128 ≤ byt (a :: t) 1 ∧ byt (a :: t) 1 < 192 ∧ 128 ≤ byt (a :: t) 2 ∧ byt (a :: t) 2 < 192 ∧ 128 ≤ byt (a :: t) 3 ∧ byt (a :: t) 3 < 192 ∧ 65536 ≤ (a.toNat - 240) * 262144 + (byt (a :: t) 1 - 128) * 4096 + (byt (a :: t) 2 - 128) * 64 + (byt (a :: t) 3 - 128) ∧ (a.toNat - 240) * 262144 + (byt (a :: t) 1 - 128) * 4096 + (byt (a :: t) 2 - 128) * 64 + (byt (a :: t) 3 - 128) ≤ 1114111
  · left
    match t, c2, c3, c4 with
    | [], _, _, c4 => have : byt [a] 1 = 0 := rfl; omega
    | [b], _, _, c4 => have : byt [a, b] 2 = 0 := rfl; omega
    | [b, c], _, _, c4 => have : byt [a, b, c] 3 = 0 := rfl; omega
    | b :: c :: d :: t, c2, c3, c4 =>
      obtain ⟨q1, q2, q3, q4, q5, q6, q7, q8, q9, q10⟩ := c4
      exact ⟨a, b, c, d, t, rfl, q1, q2, q3, q4, q5, q6, q7, q8, q9, q10, by unfold dec dec4; rw [h0, if_neg c1, if_neg c2, if_neg c3, if_pos ⟨q1, q2, q3, q4, q5, q6, q7, q8, q9, q10⟩]; rfl⟩
  right
  exact ⟨a, t, rfl, by omega, by unfold dec dec4; rw [h0, if_neg c1, if_neg c2, if_neg c3, if_neg c4]⟩

/-- A place that a rune has. -/
def okv (p : Nat) : Prop := p < 1114112 ∧ ¬ (55296 ≤ p ∧ p ≤ 57343)
/-- A place that a rune or a broken byte has. -/
def okp (p : Nat) : Prop := okv p ∨ (1114112 + 128 ≤ p ∧ p < 1114112 + 256)

theorem dec_okp (l : List UInt8) (hl : l ≠ []) : okp (dec l).1 := by
  rcases dec_ways l hl with ⟨a, t, rfl, h1, e⟩ | ⟨a, b, t, rfl, h1, h2, h3, h4, e⟩ | ⟨a, b, c, t, rfl, h1, h2, h3, h4, h5, h6, h7, h8, e⟩ | ⟨a, b, c, d, t, rfl, h1, h2, h3, h4, h5, h6, h7, h8, h9, h10, e⟩ | ⟨a, t, rfl, h1, e⟩
  all_goals rw [e]; unfold okp okv; have := a.toNat_lt; simp only; omega

theorem dec_width (l : List UInt8) (hl : l ≠ []) : 1 ≤ (dec l).2 ∧ (dec l).2 ≤ l.length ∧ (dec l).2 ≤ 4 := by
  rcases dec_ways l hl with ⟨a, t, rfl, h1, e⟩ | ⟨a, b, t, rfl, h1, h2, h3, h4, e⟩ | ⟨a, b, c, t, rfl, h1, h2, h3, h4, h5, h6, h7, h8, e⟩ | ⟨a, b, c, d, t, rfl, h1, h2, h3, h4, h5, h6, h7, h8, h9, h10, e⟩ | ⟨a, t, rfl, h1, e⟩
  all_goals rw [e]; simp

/-- What a text begins with is the bytes of its first place. -/
theorem dec_take (l : List UInt8) (hl : l ≠ []) : enc (dec l).1 ++ l.drop (dec l).2 = l := by
  rcases dec_ways l hl with ⟨a, t, rfl, h1, e⟩ | ⟨a, b, t, rfl, h1, h2, h3, h4, e⟩ | ⟨a, b, c, t, rfl, h1, h2, h3, h4, h5, h6, h7, h8, e⟩ | ⟨a, b, c, d, t, rfl, h1, h2, h3, h4, h5, h6, h7, h8, h9, h10, e⟩ | ⟨a, t, rfl, h1, e⟩
  · rw [e]; unfold enc; simp only
    rw [if_neg (by omega), if_pos (by omega), b8_eq a _ rfl]; rfl
  · rw [e]; unfold enc; simp only
    rw [if_neg (by omega), if_neg (by omega), if_pos (by omega), b8_eq a _ (by omega), b8_eq b _ (by omega)]; rfl
  · rw [e]; unfold enc; simp only
    rw [if_neg (by omega), if_neg (by omega), if_neg (by omega), if_pos (by omega), b8_eq a _ (by omega), b8_eq b _ (by omega), b8_eq c _ (by omega)]; rfl
  · rw [e]; unfold enc; simp only
    rw [if_neg (by omega), if_neg (by omega), if_neg (by omega), if_neg (by omega), b8_eq a _ (by omega), b8_eq b _ (by omega), b8_eq c _ (by omega), b8_eq d _ (by omega)]; rfl
  · rw [e]; unfold enc; simp only
    rw [if_pos (by omega), b8_eq a _ (by omega)]; rfl

theorem enc_length (p : Nat) : 1 ≤ (enc p).length ∧ (enc p).length ≤ 4 := by
  unfold enc
  repeat' split
  all_goals simp

theorem dec_len (l : List UInt8) (hl : l ≠ []) : (dec l).2 = (enc (dec l).1).length := by
  have h := congrArg List.length (dec_take l hl)
  have := (dec_width l hl).2.1
  rw [List.length_append, List.length_drop] at h
  omega

/-- The bytes of a rune, and whatever behind them, begin with that rune. -/
theorem dec_enc (p : Nat) (h : okv p) (r : List UInt8) : dec (enc p ++ r) = (p, (enc p).length) := by
  unfold okv at h
  unfold enc
  rw [if_neg (by omega)]
  split
  · rename_i c; unfold dec dec4
    have h0 : byt ([b8 p] ++ r) 0 = p := b8_toNat p (by omega)
    rw [h0, if_pos c]; rfl
  split
  · rename_i _ c; unfold dec dec4
    have h0 : byt ([b8 (192 + p / 64), b8 (128 + p % 64)] ++ r) 0 = 192 + p / 64 := b8_toNat _ (by omega)
    have h1 : byt ([b8 (192 + p / 64), b8 (128 + p % 64)] ++ r) 1 = 128 + p % 64 := b8_toNat _ (by omega)
    rw [h0, h1, if_neg (by omega), if_pos (by omega)]
    refine Prod.ext ?_ rfl
    simp only; omega
  split
  · rename_i _ _ c; unfold dec dec4
    have h0 : byt ([b8 (224 + p / 4096), b8 (128 + p / 64 % 64), b8 (128 + p % 64)] ++ r) 0 = 224 + p / 4096 := b8_toNat _ (by omega)
    have h1 : byt ([b8 (224 + p / 4096), b8 (128 + p / 64 % 64), b8 (128 + p % 64)] ++ r) 1 = 128 + p / 64 % 64 := b8_toNat _ (by omega)
    have h2 : byt ([b8 (224 + p / 4096), b8 (128 + p / 64 % 64), b8 (128 + p % 64)] ++ r) 2 = 128 + p % 64 := b8_toNat _ (by omega)
    rw [h0, h1, h2]
    have e : (224 + p / 4096 - 224) * 4096 + (128 + p / 64 % 64 - 128) * 64 + (128 + p % 64 - 128) = p := by omega
    rw [if_neg (by omega), if_neg (by omega), e, if_pos (by omega)]
    rfl
  · rename_i _ _ c; unfold dec dec4
    have h0 : byt ([b8 (240 + p / 262144), b8 (128 + p / 4096 % 64), b8 (128 + p / 64 % 64), b8 (128 + p % 64)] ++ r) 0 = 240 + p / 262144 := b8_toNat _ (by omega)
    have h1 : byt ([b8 (240 + p / 262144), b8 (128 + p / 4096 % 64), b8 (128 + p / 64 % 64), b8 (128 + p % 64)] ++ r) 1 = 128 + p / 4096 % 64 := b8_toNat _ (by omega)
    have h2 : byt ([b8 (240 + p / 262144), b8 (128 + p / 4096 % 64), b8 (128 + p / 64 % 64), b8 (128 + p % 64)] ++ r) 2 = 128 + p / 64 % 64 := b8_toNat _ (by omega)
    have h3 : byt ([b8 (240 + p / 262144), b8 (128 + p / 4096 % 64), b8 (128 + p / 64 % 64), b8 (128 + p % 64)] ++ r) 3 = 128 + p % 64 := b8_toNat _ (by omega)
    rw [h0, h1, h2, h3]
    have e : (240 + p / 262144 - 240) * 262144 + (128 + p / 4096 % 64 - 128) * 4096 + (128 + p / 64 % 64 - 128) * 64 + (128 + p % 64 - 128) = p := by omega
    rw [if_neg (by omega), if_neg (by omega), if_neg (by omega), e, if_pos (by omega)]
    rfl

/-- All places of a text. -/
def plF : Nat → List UInt8 → List Nat
  | 0, _ => []
  | f + 1, l => if l = [] then [] else (dec l).1 :: plF f (l.drop (dec l).2)
def pl (l : List UInt8) : List Nat := plF l.length l

theorem plF_more (f g : Nat) (l : List UInt8) (hf : l.length ≤ f) (hg : l.length ≤ g) : plF f l = plF g l := by
  induction f generalizing g l with
  | zero =>
    have : l = [] := List.length_eq_zero_iff.mp (by omega)
    subst this
    cases g <;> simp [plF]
  | succ f ih =>
    by_cases h : l = []
    · subst h
      cases g <;> simp [plF]
    · have hw := dec_width l h
      obtain ⟨g', rfl⟩ : ∃ g', g = g' + 1 := ⟨g - 1, by omega⟩
      simp only [plF, if_neg h]
      rw [ih g' _ (by rw [List.length_drop]; omega) (by rw [List.length_drop]; omega)]

theorem pl_nil : pl [] = [] := rfl
theorem pl_cons (l : List UInt8) (h : l ≠ []) : pl l = (dec l).1 :: pl (l.drop (dec l).2) := by
  have hw := dec_width l h
  unfold pl
  obtain ⟨n, hn⟩ : ∃ n, l.length = n + 1 := ⟨l.length - 1, by omega⟩
  conv => lhs; rw [hn]
  simp only [plF, if_neg h]
  rw [plF_more n _ (l.drop (dec l).2) (by rw [List.length_drop]; omega) (Nat.le_refl _)]

/-- Induction along the places. -/
theorem pl_induct {P : List UInt8 → Prop} (h0 : P []) (h1 : ∀ l, l ≠ [] → P (l.drop (dec l).2) → P l) (l : List UInt8) : P l := by
  have : ∀ n, ∀ l : List UInt8, l.length ≤ n → P l := by
    intro n
    induction n with
    | zero => intro l hl; have : l = [] := List.length_eq_zero_iff.mp (by omega); subst this; exact h0
    | succ n ih =>
      intro l hl
      by_cases h : l = []
      · subst h; exact h0
      · exact h1 l h (ih _ (by have := dec_width l h; rw [List.length_drop]; omega))
  exact this l.length l (Nat.le_refl _)

theorem pl_join (l : List UInt8) : (pl l).flatMap enc = l := by
  induction l using pl_induct with
  | h0 => rfl
  | h1 l h ih => rw [pl_cons l h, List.flatMap_cons, ih, dec_take l h]

theorem pl_inj (a b : List UInt8) (h : pl a = pl b) : a = b := by rw [← pl_join a, h, pl_join b]

theorem pl_okp (l : List UInt8) : ∀ p ∈ pl l, okp p := by
  induction l using pl_induct with
  | h0 => intro p hp; cases hp
  | h1 l h ih =>
    rw [pl_cons l h]
    intro p hp
    rcases List.mem_cons.1 hp with rfl | hp
    · exact dec_okp l h
    · exact ih p hp

theorem pl_le (l : List UInt8) : (pl l).length ≤ l.length := by
  induction l using pl_induct with
  | h0 => simp [pl_nil]
  | h1 l h ih =>
    rw [pl_cons l h]
    have := dec_width l h
    rw [List.length_drop] at ih
    rw [List.length_cons]
    omega

theorem pl_ne (l : List UInt8) (h : l ≠ []) : pl l ≠ [] := by rw [pl_cons l h]; simp

theorem enc_ne (p : Nat) (r : List UInt8) : enc p ++ r ≠ [] := by
  intro h
  have := enc_length p
  have h2 := congrArg List.length h
  rw [List.length_append] at h2
  simp only [List.length_nil] at h2
  omega

/-- Runes, and whatever behind them, are read as these runes. -/
theorem pl_enc (Q : List Nat) (h : ∀ p ∈ Q, okv p) (r : List UInt8) : pl (Q.flatMap enc ++ r) = Q ++ pl r := by
  induction Q with
  | nil => rfl
  | cons p Q ih =>
    rw [List.flatMap_cons, List.append_assoc, pl_cons _ (enc_ne _ _), dec_enc p (h p List.mem_cons_self), List.drop_append_of_le_length (Nat.le_refl _), List.drop_length, List.nil_append, ih (fun q hq => h q (List.mem_cons_of_mem _ hq))]
    rfl

/-- No broken byte. -/
def whole (l : List UInt8) : Prop := ∀ p ∈ pl l, p < 1114112
theorem whole_okv {l : List UInt8} (h : whole l) : ∀ p ∈ pl l, okv p := fun p hp => by
  rcases pl_okp l p hp with h1 | h1
  · exact h1
  · have := h p hp; omega

theorem pl_app (a b : List UInt8) (h : whole a) : pl (a ++ b) = pl a ++ pl b := by
  have := pl_enc (pl a) (whole_okv h) b
  rw [pl_join] at this
  exact this

/-- A continuation byte at the head is broken. -/
theorem dec_cont (x : UInt8) (t : List UInt8) (h : 128 ≤ x.toNat) (k : x.toNat < 192) : dec (x :: t) = (1114112 + x.toNat, 1) := by
  unfold dec dec4
  have h0 : byt (x :: t) 0 = x.toNat := rfl
  rw [h0, if_neg (by omega), if_neg (by omega), if_neg (by omega), if_neg (by omega)]
theorem cnt_cont (x : UInt8) (t : List UInt8) (h : 128 ≤ x.toNat) (k : x.toNat < 192) : (pl (x :: t)).length = 1 + (pl t).length := by
  rw [pl_cons _ (by simp), dec_cont x t h k]
  simp [List.drop]
  omega

/-- Of two texts, one behind the other, there are no more than of both. -/
theorem cnt_app (a b : List UInt8) : (pl (a ++ b)).length ≤ (pl a).length + (pl b).length := by
  induction a using pl_induct with
  | h0 => simp [pl_nil]
  | h1 a h ih =>
    have hab : a ++ b ≠ [] := by simp [h]
    have hla : (pl a).length = 1 + (pl (a.drop (dec a).2)).length := by rw [pl_cons a h, List.length_cons]; omega
    rcases Nat.lt_or_ge (dec a).1 1114112 with hw | hw
    · have ho : okv (dec a).1 := by rcases dec_okp a h with h1 | h1; exact h1; omega
      have e : pl (a ++ b) = (dec a).1 :: pl (a.drop (dec a).2 ++ b) := by
        have := pl_enc [(dec a).1] (fun p hp => by rw [List.mem_singleton.1 hp]; exact ho) (a.drop (dec a).2 ++ b)
        rw [List.flatMap_cons, List.flatMap_nil, List.append_nil, ← List.append_assoc, dec_take a h] at this
        exact this
      rw [e, List.length_cons]
      omega
    · -- a begins with a broken byte
      have hd1 : (dec a).2 = 1 := by
        rcases dec_ways a h with ⟨x, t, rfl, h1, e⟩ | ⟨x, y, t, rfl, h1, h2, h3, h4, e⟩ | ⟨x, y, z, t, rfl, h1, h2, h3, h4, h5, h6, h7, h8, e⟩ | ⟨x, y, z, u, t, rfl, h1, h2, h3, h4, h5, h6, h7, h8, h9, h10, e⟩ | ⟨x, t, rfl, h1, e⟩
        all_goals (rw [e] at hw ⊢; try rfl)
        all_goals (simp only at hw; omega)
      rw [hd1] at hla ih
      obtain ⟨x, t, rfl⟩ : ∃ x t, a = x :: t := by
        cases a with
        | nil => exact absurd rfl h
        | cons x t => exact ⟨x, t, rfl⟩
      rw [show (x :: t).drop 1 = t from rfl] at hla ih
      have one : ∀ q, dec (x :: t ++ b) = (q, 1) → (pl (x :: t ++ b)).length ≤ (pl (x :: t)).length + (pl b).length := fun q e => by
        rw [pl_cons _ hab, e, List.length_cons, show (x :: t ++ b).drop 1 = t ++ b from rfl]
        omega
      rcases dec_ways (x :: t ++ b) hab with ⟨x', t', e0, h1, e⟩ | ⟨x', y, t', e0, h1, h2, h3, h4, e⟩ | ⟨x', y, z, t', e0, h1, h2, h3, h4, h5, h6, h7, h8, e⟩ | ⟨x', y, z, u, t', e0, h1, h2, h3, h4, h5, h6, h7, h8, h9, h10, e⟩ | ⟨x', t', e0, h1, e⟩
      · exact one _ e
      · rw [List.cons_append] at e0
        obtain ⟨rfl, e1⟩ := List.cons.inj e0
        match t, e1 with
        | [], e1 =>
          rw [List.nil_append] at e1
          subst e1
          rw [pl_cons _ hab, e, List.length_cons]
          have := cnt_cont y t' h3 h4
          show (pl t').length + 1 ≤ _
          omega
        | y' :: t, e1 =>
          obtain ⟨rfl, e2⟩ := List.cons.inj e1
          exfalso
          have : dec (x :: y' :: t) = ((x.toNat - 192) * 64 + (y'.toNat - 128), 2) := by
            unfold dec dec4
            rw [show byt (x :: y' :: t) 0 = x.toNat from rfl, show byt (x :: y' :: t) 1 = y'.toNat from rfl, if_neg (by omega), if_pos ⟨h1, h2, h3, h4⟩]
          rw [this] at hw
          simp only at hw
          omega
      · rw [List.cons_append] at e0
        obtain ⟨rfl, e1⟩ := List.cons.inj e0
        match t, e1 with
        | [], e1 =>
          rw [List.nil_append] at e1
          subst e1
          rw [pl_cons _ hab, e, List.length_cons]
          have q1 := cnt_cont y (z :: t') h3 h4
          have q2 := cnt_cont z t' h5 h6
          show (pl t').length + 1 ≤ _
          omega
        | [y'], e1 =>
          obtain ⟨rfl, e2⟩ := List.cons.inj e1
          have e2' : b = _ := e2
          subst e2'
          rw [pl_cons _ hab, e, List.length_cons]
          have q2 := cnt_cont z t' h5 h6
          show (pl t').length + 1 ≤ _
          omega
        | y' :: z' :: t, e1 =>
          obtain ⟨rfl, e2⟩ := List.cons.inj e1
          obtain ⟨rfl, e3⟩ := List.cons.inj e2
          exfalso
          have : dec (x :: y' :: z' :: t) = ((x.toNat - 224) * 4096 + (y'.toNat - 128) * 64 + (z'.toNat - 128), 3) := by
            unfold dec dec4
            rw [show byt (x :: y' :: z' :: t) 0 = x.toNat from rfl, show byt (x :: y' :: z' :: t) 1 = y'.toNat from rfl, show byt (x :: y' :: z' :: t) 2 = z'.toNat from rfl, if_neg (by omega), if_neg (by omega), if_pos ⟨h1, h2, h3, h4, h5, h6, h7, h8⟩]
          rw [this] at hw
          simp only at hw
          omega
      · rw [List.cons_append] at e0
        obtain ⟨rfl, e1⟩ := List.cons.inj e0
        match t, e1 with
        | [], e1 =>
          rw [List.nil_append] at e1
          subst e1
          rw [pl_cons _ hab, e, List.length_cons]
          have q1 := cnt_cont y (z :: u :: t') h3 h4
          have q2 := cnt_cont z (u :: t') h5 h6
          have q3 := cnt_cont u t' h7 h8
          show (pl t').length + 1 ≤ _
          omega
        | [y'], e1 =>
          obtain ⟨rfl, e2⟩ := List.cons.inj e1
          have e2' : b = _ := e2
          subst e2'
          rw [pl_cons _ hab, e, List.length_cons]
          have q2 := cnt_cont z (u :: t') h5 h6
          have q3 := cnt_cont u t' h7 h8
          show (pl t').length + 1 ≤ _
          omega
        | [y', z'], e1 =>
          obtain ⟨rfl, e2⟩ := List.cons.inj e1
          obtain ⟨rfl, e3⟩ := List.cons.inj e2
          have e3' : b = _ := e3
          subst e3'
          rw [pl_cons _ hab, e, List.length_cons]
          have q3 := cnt_cont u t' h7 h8
          show (pl t').length + 1 ≤ _
          omega
        | y' :: z' :: u' :: t, e1 =>
          obtain ⟨rfl, e2⟩ := List.cons.inj e1
          obtain ⟨rfl, e3⟩ := List.cons.inj e2
          obtain ⟨rfl, e4⟩ := List.cons.inj e3
          exfalso
          have : dec (x :: y' :: z' :: u' :: t) = ((x.toNat - 240) * 262144 + (y'.toNat - 128) * 4096 + (z'.toNat - 128) * 64 + (u'.toNat - 128), 4) := by
            unfold dec dec4
            rw [show byt (x :: y' :: z' :: u' :: t) 0 = x.toNat from rfl, show byt (x :: y' :: z' :: u' :: t) 1 = y'.toNat from rfl, show byt (x :: y' :: z' :: u' :: t) 2 = z'.toNat from rfl, show byt (x :: y' :: z' :: u' :: t) 3 = u'.toNat from rfl, if_neg (by omega), if_neg (by omega), if_neg (by omega), if_pos ⟨h1, h2, h3, h4, h5, h6, h7, h8, h9, h10⟩]
          rw [this] at hw
          simp only at hw
          omega
      · exact one _ e

end Go.Proofs.YtfilolmbppjbjaaGreat.nm

namespace Go.Proofs.YtfilolmbppjbjaaGreat.nm

/-- A digit of 16, as its rune. -/
def dg (n : Nat) : Nat := if n < 10 then 48 + n else 87 + n
/-- A digit's number; 255 of any other byte. -/
def hxv (c : Nat) : Nat := if 48 ≤ c ∧ c ≤ 57 then c - 48 else if 97 ≤ c ∧ c ≤ 102 then c - 87 else 255
theorem hxv_dg (n : Nat) (h : n < 16) : hxv (dg n) = n := by unfold hxv dg; split <;> (repeat' split) <;> omega
theorem dg_rng (n : Nat) (h : n < 16) : 48 ≤ dg n ∧ dg n ≤ 102 := by unfold dg; split <;> omega
theorem hxv_cases (c : Nat) : hxv c < 16 ∨ hxv c = 255 := by
  unfold hxv
  split
  · omega
  · split <;> omega

/-- The byte of a place that is told by its digits. -/
def low (p : Nat) : Nat := if 1114112 ≤ p then p - 1114112 else p
/-- The runes by which a place is shown. -/
def pp (p : Nat) : List Nat :=
  if p = 34 ∨ p = 92 then [92, p]
  else if p = 10 then [92, 110]
  else if p < 32 ∨ p = 127 ∨ 1114112 ≤ p then [92, 120, dg (low p / 16), dg (low p % 16)]
  else [p]
def shown (l : List UInt8) : List Nat := 34 :: ((pl l).flatMap pp ++ [34])
def quote (l : List UInt8) : List UInt8 := (shown l).flatMap enc

theorem okv_small (p : Nat) (h : p < 55296) : okv p := ⟨by omega, by omega⟩

theorem low_lt (p : Nat) (h : okp p) (k : p < 32 ∨ p = 127 ∨ 1114112 ≤ p) : low p < 256 := by
  unfold low; unfold okp okv at h; split <;> omega

theorem pp_ok (p : Nat) (h : okp p) : ∀ q ∈ pp p, okv q ∧ 32 ≤ q := by
  intro q hq
  unfold pp at hq
  split at hq
  · simp only [List.mem_cons, List.not_mem_nil, or_false] at hq
    rcases hq with rfl | rfl
    · exact ⟨okv_small _ (by omega), by omega⟩
    · exact ⟨okv_small _ (by omega), by omega⟩
  split at hq
  · simp only [List.mem_cons, List.not_mem_nil, or_false] at hq
    rcases hq with rfl | rfl
    · exact ⟨okv_small _ (by omega), by omega⟩
    · exact ⟨okv_small _ (by omega), by omega⟩
  split at hq
  · rename_i k
    have hl := low_lt p h k
    have r1 := dg_rng (low p / 16) (by omega)
    have r2 := dg_rng (low p % 16) (by omega)
    simp only [List.mem_cons, List.not_mem_nil, or_false] at hq
    rcases hq with rfl | rfl | rfl | rfl
    all_goals exact ⟨okv_small _ (by omega), by omega⟩
  · rename_i k
    rw [List.mem_singleton] at hq
    subst hq
    unfold okp at h
    rcases h with h | h
    · exact ⟨h, by omega⟩
    · omega

theorem shown_ok (l : List UInt8) : ∀ q ∈ shown l, okv q ∧ 32 ≤ q := by
  intro q hq
  unfold shown at hq
  rcases List.mem_cons.1 hq with rfl | hq
  · exact ⟨okv_small _ (by omega), by omega⟩
  rcases List.mem_append.1 hq with hq | hq
  · obtain ⟨p, hp, hq⟩ := List.mem_flatMap.1 hq
    exact pp_ok p (pl_okp l p hp) q hq
  · rw [List.mem_singleton] at hq
    subst hq
    exact ⟨okv_small _ (by omega), by omega⟩

/-- The runes of what is quoted. -/
theorem pl_quote (l : List UInt8) : pl (quote l) = shown l := by
  have h := pl_enc (shown l) (fun p hp => (shown_ok l p hp).1) []
  rw [List.append_nil, pl_nil, List.append_nil] at h
  exact h

def body (l : List UInt8) : List UInt8 := ((pl l).flatMap pp).flatMap enc
theorem enc34 : enc 34 = [34] := by decide
theorem quote_eq (l : List UInt8) : quote l = 34 :: (body l ++ [34]) := by
  unfold quote shown body
  rw [List.flatMap_cons, List.flatMap_append, enc34, List.flatMap_cons, List.flatMap_nil, enc34]
  rfl

/-- What a backslash at the head means: a byte, and how many bytes tell it. -/
def ebyte (h k : Nat) : Nat := if h < 16 ∧ k < 16 then h * 16 + k else if h < 16 then 255 else if k < 16 then 240 + k else 255
def esc (l : List UInt8) : Nat × Nat :=
  if l.length < 2 then (92, 1)
  else if byt l 1 = 110 then (10, 2)
  else if byt l 1 = 120 ∧ 4 ≤ l.length then (ebyte (hxv (byt l 2)) (hxv (byt l 3)), 4)
  else (byt l 1, 2)
/-- The rune that a range tells of a place. -/
def rn (p : Nat) : Nat := if 1114112 ≤ p then 65533 else p

def mntF : Nat → List UInt8 → Nat → List UInt8
  | 0, _, _ => []
  | f + 1, l, k =>
    if l = [] then []
    else if 0 < k then mntF f (l.drop (dec l).2) (k - (dec l).2)
    else if (dec l).1 = 92 then b8 (esc l).1 :: mntF f (l.drop (dec l).2) ((esc l).2 - (dec l).2)
    else enc (rn (dec l).1) ++ mntF f (l.drop (dec l).2) 0
def mnt (l : List UInt8) (k : Nat) : List UInt8 := mntF l.length l k

theorem mntF_more (f g : Nat) (l : List UInt8) (k : Nat) (hf : l.length ≤ f) (hg : l.length ≤ g) : mntF f l k = mntF g l k := by
  induction f generalizing g l k with
  | zero =>
    have : l = [] := List.length_eq_zero_iff.mp (by omega)
    subst this
    cases g <;> simp [mntF]
  | succ f ih =>
    by_cases h : l = []
    · subst h
      cases g <;> simp [mntF]
    · have hw := dec_width l h
      obtain ⟨g', rfl⟩ : ∃ g', g = g' + 1 := ⟨g - 1, by omega⟩
      have hl : (l.drop (dec l).2).length ≤ f := by rw [List.length_drop]; omega
      have hl' : (l.drop (dec l).2).length ≤ g' := by rw [List.length_drop]; omega
      simp only [mntF, if_neg h]
      rw [ih g' _ _ hl hl', ih g' _ _ hl hl', ih g' _ _ hl hl']

theorem mnt_nil (k : Nat) : mnt [] k = [] := rfl
theorem mnt_cons (l : List UInt8) (k : Nat) (h : l ≠ []) : mnt l k =
    if 0 < k then mnt (l.drop (dec l).2) (k - (dec l).2)
    else if (dec l).1 = 92 then b8 (esc l).1 :: mnt (l.drop (dec l).2) ((esc l).2 - (dec l).2)
    else enc (rn (dec l).1) ++ mnt (l.drop (dec l).2) 0 := by
  have hw := dec_width l h
  unfold mnt
  obtain ⟨n, hn⟩ : ∃ n, l.length = n + 1 := ⟨l.length - 1, by omega⟩
  have hl : (l.drop (dec l).2).length ≤ n := by rw [List.length_drop]; omega
  conv => lhs; rw [hn]
  simp only [mntF, if_neg h]
  rw [mntF_more n _ _ _ hl (Nat.le_refl _), mntF_more n _ _ _ hl (Nat.le_refl _), mntF_more n _ _ _ hl (Nat.le_refl _)]
theorem mnt_skip (l : List UInt8) (k : Nat) (h : l ≠ []) (hk : 0 < k) : mnt l k = mnt (l.drop (dec l).2) (k - (dec l).2) := by rw [mnt_cons l k h, if_pos hk]
theorem mnt_esc (l : List UInt8) (h : l ≠ []) (hp : (dec l).1 = 92) : mnt l 0 = b8 (esc l).1 :: mnt (l.drop (dec l).2) ((esc l).2 - (dec l).2) := by
  rw [mnt_cons l 0 h, if_neg (by omega), if_pos hp]
theorem mnt_rune (l : List UInt8) (h : l ≠ []) (hp : (dec l).1 ≠ 92) : mnt l 0 = enc (rn (dec l).1) ++ mnt (l.drop (dec l).2) 0 := by
  rw [mnt_cons l 0 h, if_neg (by omega), if_neg hp]

/-- A plain byte at the head. -/
theorem dec_low (c : Nat) (h : c < 128) (r : List UInt8) : dec (b8 c :: r) = (c, 1) := by
  unfold dec dec4
  have h0 : byt (b8 c :: r) 0 = c := b8_toNat c (by omega)
  rw [h0, if_pos h]
theorem mnt_skip_low (c k : Nat) (h : c < 128) (r : List UInt8) : mnt (b8 c :: r) (k + 1) = mnt r k := by
  rw [mnt_skip _ _ (by simp) (by omega), dec_low c h]; rfl
theorem enc_low (c : Nat) (h : c < 128) : enc c = [b8 c] := by unfold enc; rw [if_neg (by omega), if_pos h]

theorem mnt_pp (p : Nat) (h : okp p) (r : List UInt8) : mnt ((pp p).flatMap enc ++ r) 0 = enc p ++ mnt r 0 := by
  unfold pp
  split
  · rename_i k
    have hp : p < 128 := by omega
    have e : [92, p].flatMap enc ++ r = b8 92 :: b8 p :: r := by simp [List.flatMap_cons, enc_low 92 (by omega), enc_low p hp]
    rw [e, mnt_esc _ (by simp) (by rw [dec_low 92 (by omega)]), dec_low 92 (by omega), enc_low p hp]
    have h1 : byt (b8 92 :: b8 p :: r) 1 = p := b8_toNat p (by omega)
    have e2 : esc (b8 92 :: b8 p :: r) = (p, 2) := by
      unfold esc
      rw [h1, if_neg (by simp), if_neg (by omega), if_neg (by omega)]
    rw [e2]
    show b8 p :: mnt (b8 p :: r) 1 = b8 p :: mnt r 0
    rw [mnt_skip_low p 0 hp]
  split
  · rename_i _ k
    subst k
    have e : [92, 110].flatMap enc ++ r = b8 92 :: b8 110 :: r := by simp [List.flatMap_cons, enc_low 92 (by omega), enc_low 110 (by omega)]
    rw [e, mnt_esc _ (by simp) (by rw [dec_low 92 (by omega)]), dec_low 92 (by omega), enc_low 10 (by omega)]
    have h1 : byt (b8 92 :: b8 110 :: r) 1 = 110 := b8_toNat 110 (by omega)
    have e2 : esc (b8 92 :: b8 110 :: r) = (10, 2) := by
      unfold esc
      rw [h1, if_neg (by simp), if_pos rfl]
    rw [e2]
    show b8 10 :: mnt (b8 110 :: r) 1 = b8 10 :: mnt r 0
    rw [mnt_skip_low 110 0 (by omega)]
  split
  · rename_i k
    have hl := low_lt p h k
    have r1 := dg_rng (low p / 16) (by omega)
    have r2 := dg_rng (low p % 16) (by omega)
    have e : [92, 120, dg (low p / 16), dg (low p % 16)].flatMap enc ++ r = b8 92 :: b8 120 :: b8 (dg (low p / 16)) :: b8 (dg (low p % 16)) :: r := by
      simp [List.flatMap_cons, enc_low 92 (by omega), enc_low 120 (by omega), enc_low (dg (low p / 16)) (by omega), enc_low (dg (low p % 16)) (by omega)]
    rw [e, mnt_esc _ (by simp) (by rw [dec_low 92 (by omega)]), dec_low 92 (by omega)]
    have h1 : byt (b8 92 :: b8 120 :: b8 (dg (low p / 16)) :: b8 (dg (low p % 16)) :: r) 1 = 120 := b8_toNat 120 (by omega)
    have h2 : byt (b8 92 :: b8 120 :: b8 (dg (low p / 16)) :: b8 (dg (low p % 16)) :: r) 2 = dg (low p / 16) := b8_toNat _ (by omega)
    have h3 : byt (b8 92 :: b8 120 :: b8 (dg (low p / 16)) :: b8 (dg (low p % 16)) :: r) 3 = dg (low p % 16) := b8_toNat _ (by omega)
    have e2 : esc (b8 92 :: b8 120 :: b8 (dg (low p / 16)) :: b8 (dg (low p % 16)) :: r) = (low p, 4) := by
      unfold esc
      rw [h1, h2, h3, hxv_dg _ (by omega), hxv_dg _ (by omega), if_neg (by simp), if_neg (by omega), if_pos ⟨rfl, by simp⟩]
      unfold ebyte
      rw [if_pos ⟨by omega, by omega⟩]
      refine Prod.ext ?_ rfl
      show low p / 16 * 16 + low p % 16 = low p
      omega
    rw [e2]
    show b8 (low p) :: mnt (b8 120 :: b8 (dg (low p / 16)) :: b8 (dg (low p % 16)) :: r) 3 = enc p ++ mnt r 0
    rw [mnt_skip_low 120 2 (by omega), mnt_skip_low _ 1 (by omega), mnt_skip_low _ 0 (by omega)]
    have e3 : enc p = [b8 (low p)] := by
      unfold enc low
      split
      · rfl
      · rw [if_pos (by omega)]
    rw [e3]
    rfl
  · rename_i k1 k2 k3
    have ho : okv p := by unfold okp at h; rcases h with h | h; exact h; omega
    have e : [p].flatMap enc ++ r = enc p ++ r := by simp [List.flatMap_cons]
    rw [e, mnt_rune _ (enc_ne _ _) (by rw [dec_enc p ho]; simp only; omega), dec_enc p ho, List.drop_append_of_le_length (Nat.le_refl _), List.drop_length, List.nil_append]
    have : rn p = p := by unfold rn; rw [if_neg (by omega)]
    rw [this]

theorem mnt_pps (ps : List Nat) (h : ∀ p ∈ ps, okp p) : mnt ((ps.flatMap pp).flatMap enc) 0 = ps.flatMap enc := by
  induction ps with
  | nil => rfl
  | cons p ps ih => rw [List.flatMap_cons, List.flatMap_append, mnt_pp p (h p List.mem_cons_self), ih (fun q hq => h q (List.mem_cons_of_mem _ hq)), List.flatMap_cons]

def trim (l : List UInt8) : List UInt8 := Lib.trimSuffix (Lib.trimPrefix l [34]) [34]
theorem trim_quote (l : List UInt8) : trim (quote l) = body l := by
  rw [quote_eq]
  unfold trim Lib.trimPrefix Lib.hasPrefix
  rw [if_pos (by simp [List.isPrefixOf])]
  unfold Lib.trimSuffix Lib.hasSuffix
  rw [if_pos (by simp [List.isSuffixOf, List.isPrefixOf])]
  simp

def meant (l : List UInt8) : List UInt8 := mnt (trim l) 0
theorem meant_quote (t : List UInt8) : meant (quote t) = t := by
  unfold meant
  rw [trim_quote]
  unfold body
  rw [mnt_pps _ (pl_okp t), pl_join]

theorem quote_inj (a b : List UInt8) (h : quote a = quote b) : a = b := by rw [← meant_quote a, h, meant_quote b]

/-- What is shown so. -/
def unq (l : List UInt8) : List UInt8 × Bool := if quote (meant l) = l then (meant l, true) else ([], false)
theorem unq_quote (t : List UInt8) : unq (quote t) = (t, true) := by unfold unq; rw [meant_quote, if_pos rfl]
theorem unq_none (l : List UInt8) (h : ∀ t, quote t ≠ l) : unq l = ([], false) := by unfold unq; rw [if_neg (h _)]
theorem unq_some (l : List UInt8) (h : (unq l).2 = true) : quote (unq l).1 = l := by
  unfold unq at *
  split
  · rename_i k; exact k
  · rename_i k; rw [if_neg k] at h; cases h

/-! By bytes, as the reference does it. -/
def unbF : Nat → List UInt8 → Option (List UInt8)
  | 0, _ => some []
  | f + 1, l =>
    if l = [] then some []
    else if byt l 0 ≠ 92 then (unbF f (l.drop 1)).map (b8 (byt l 0) :: ·)
    else if l.length < 2 then none
    else if byt l 1 = 110 then (unbF f (l.drop 2)).map (10 :: ·)
    else if byt l 1 = 120 ∧ 4 ≤ l.length ∧ hxv (byt l 2) < 16 ∧ hxv (byt l 3) < 16 then (unbF f (l.drop 4)).map (b8 (hxv (byt l 2) * 16 + hxv (byt l 3)) :: ·)
    else (unbF f (l.drop 2)).map (b8 (byt l 1) :: ·)
def unb (l : List UInt8) : Option (List UInt8) := unbF l.length l

theorem unbF_more (f g : Nat) (l : List UInt8) (hf : l.length ≤ f) (hg : l.length ≤ g) : unbF f l = unbF g l := by
  induction f generalizing g l with
  | zero =>
    have : l = [] := List.length_eq_zero_iff.mp (by omega)
    subst this
    cases g <;> simp [unbF]
  | succ f ih =>
    by_cases h : l = []
    · subst h
      cases g <;> simp [unbF]
    · have hl : 0 < l.length := List.length_pos_iff.mpr h
      obtain ⟨g', rfl⟩ : ∃ g', g = g' + 1 := ⟨g - 1, by omega⟩
      simp only [unbF, if_neg h]
      rw [ih g' (l.drop 1) (by rw [List.length_drop]; omega) (by rw [List.length_drop]; omega), ih g' (l.drop 2) (by rw [List.length_drop]; omega) (by rw [List.length_drop]; omega), ih g' (l.drop 4) (by rw [List.length_drop]; omega) (by rw [List.length_drop]; omega)]
theorem unb_nil : unb [] = some [] := rfl
theorem unb_cons (l : List UInt8) (h : l ≠ []) : unb l =
    if byt l 0 ≠ 92 then (unb (l.drop 1)).map (b8 (byt l 0) :: ·)
    else if l.length < 2 then none
    else if byt l 1 = 110 then (unb (l.drop 2)).map (10 :: ·)
    else if byt l 1 = 120 ∧ 4 ≤ l.length ∧ hxv (byt l 2) < 16 ∧ hxv (byt l 3) < 16 then (unb (l.drop 4)).map (b8 (hxv (byt l 2) * 16 + hxv (byt l 3)) :: ·)
    else (unb (l.drop 2)).map (b8 (byt l 1) :: ·) := by
  have hl : 0 < l.length := List.length_pos_iff.mpr h
  unfold unb
  obtain ⟨n, hn⟩ : ∃ n, l.length = n + 1 := ⟨l.length - 1, by omega⟩
  conv => lhs; rw [hn]
  simp only [unbF, if_neg h]
  rw [unbF_more n _ (l.drop 1) (by rw [List.length_drop]; omega) (Nat.le_refl _), unbF_more n _ (l.drop 2) (by rw [List.length_drop]; omega) (Nat.le_refl _), unbF_more n _ (l.drop 4) (by rw [List.length_drop]; omega) (Nat.le_refl _)]

/-- Bytes that are no backslash. -/
theorem unb_plain (c : List UInt8) (h : ∀ x ∈ c, x.toNat ≠ 92) (r : List UInt8) : unb (c ++ r) = (unb r).map (c ++ ·) := by
  induction c with
  | nil => simp
  | cons x c ih =>
    rw [List.cons_append, unb_cons _ (by simp)]
    have h0 : byt (x :: (c ++ r)) 0 = x.toNat := rfl
    rw [h0, if_pos (h x List.mem_cons_self), b8_eq x _ rfl, show (x :: (c ++ r)).drop 1 = c ++ r from rfl, ih (fun y hy => h y (List.mem_cons_of_mem _ hy)), Option.map_map]
    rfl

/-- Bytes of a rune: itself, or all from 128 on. -/
theorem enc_bytes (p : Nat) (h : okv p) : ∀ x ∈ enc p, (p < 128 ∧ x.toNat = p) ∨ (128 ≤ p ∧ 128 ≤ x.toNat) := by
  unfold okv at h
  intro x hx
  unfold enc at hx
  rw [if_neg (by omega)] at hx
  split at hx
  · rw [List.mem_singleton] at hx
    subst hx
    rw [b8_toNat _ (by omega)]
    omega
  split at hx
  · simp only [List.mem_cons, List.not_mem_nil, or_false] at hx
    rcases hx with rfl | rfl
    all_goals rw [b8_toNat _ (by omega)]; omega
  split at hx
  · simp only [List.mem_cons, List.not_mem_nil, or_false] at hx
    rcases hx with rfl | rfl | rfl
    all_goals rw [b8_toNat _ (by omega)]; omega
  · simp only [List.mem_cons, List.not_mem_nil, or_false] at hx
    rcases hx with rfl | rfl | rfl | rfl
    all_goals rw [b8_toNat _ (by omega)]; omega

theorem unb_pp (p : Nat) (h : okp p) (r : List UInt8) : unb ((pp p).flatMap enc ++ r) = (unb r).map (enc p ++ ·) := by
  unfold pp
  split
  · rename_i k
    have hp : p < 128 := by omega
    have e : [92, p].flatMap enc ++ r = b8 92 :: b8 p :: r := by simp [List.flatMap_cons, enc_low 92 (by omega), enc_low p hp]
    have h0 : byt (b8 92 :: b8 p :: r) 0 = 92 := b8_toNat 92 (by omega)
    have h1 : byt (b8 92 :: b8 p :: r) 1 = p := b8_toNat p (by omega)
    rw [e, unb_cons _ (by simp), h0, h1, if_neg (by omega), if_neg (by simp), if_neg (by omega), if_neg (by omega), enc_low p hp]
    rfl
  split
  · rename_i _ k
    subst k
    have e : [92, 110].flatMap enc ++ r = b8 92 :: b8 110 :: r := by simp [List.flatMap_cons, enc_low 92 (by omega), enc_low 110 (by omega)]
    have h0 : byt (b8 92 :: b8 110 :: r) 0 = 92 := b8_toNat 92 (by omega)
    have h1 : byt (b8 92 :: b8 110 :: r) 1 = 110 := b8_toNat 110 (by omega)
    rw [e, unb_cons _ (by simp), h0, h1, if_neg (by omega), if_neg (by simp), if_pos rfl, enc_low 10 (by omega)]
    rfl
  split
  · rename_i k
    have hl := low_lt p h k
    have r1 := dg_rng (low p / 16) (by omega)
    have r2 := dg_rng (low p % 16) (by omega)
    have e : [92, 120, dg (low p / 16), dg (low p % 16)].flatMap enc ++ r = b8 92 :: b8 120 :: b8 (dg (low p / 16)) :: b8 (dg (low p % 16)) :: r := by
      simp [List.flatMap_cons, enc_low 92 (by omega), enc_low 120 (by omega), enc_low (dg (low p / 16)) (by omega), enc_low (dg (low p % 16)) (by omega)]
    have h0 : byt (b8 92 :: b8 120 :: b8 (dg (low p / 16)) :: b8 (dg (low p % 16)) :: r) 0 = 92 := b8_toNat 92 (by omega)
    have h1 : byt (b8 92 :: b8 120 :: b8 (dg (low p / 16)) :: b8 (dg (low p % 16)) :: r) 1 = 120 := b8_toNat 120 (by omega)
    have h2 : byt (b8 92 :: b8 120 :: b8 (dg (low p / 16)) :: b8 (dg (low p % 16)) :: r) 2 = dg (low p / 16) := b8_toNat _ (by omega)
    have h3 : byt (b8 92 :: b8 120 :: b8 (dg (low p / 16)) :: b8 (dg (low p % 16)) :: r) 3 = dg (low p % 16) := b8_toNat _ (by omega)
    rw [e, unb_cons _ (by simp), h0, h1, h2, h3, hxv_dg _ (by omega), hxv_dg _ (by omega), if_neg (by omega), if_neg (by simp), if_neg (by omega), if_pos ⟨rfl, by simp, by omega, by omega⟩]
    have e2 : low p / 16 * 16 + low p % 16 = low p := by omega
    have e3 : enc p = [b8 (low p)] := by
      unfold enc low
      split
      · rfl
      · rw [if_pos (by omega)]
    rw [e2, e3]
    rfl
  · rename_i k1 k2 k3
    have ho : okv p := by unfold okp at h; rcases h with h | h; exact h; omega
    have e : [p].flatMap enc ++ r = enc p ++ r := by simp [List.flatMap_cons]
    rw [e, unb_plain _ (fun x hx => by have := enc_bytes p ho x hx; omega)]

theorem unb_pps (ps : List Nat) (h : ∀ p ∈ ps, okp p) : unb ((ps.flatMap pp).flatMap enc) = some (ps.flatMap enc) := by
  induction ps with
  | nil => rfl
  | cons p ps ih => rw [List.flatMap_cons, List.flatMap_append, unb_pp p (h p List.mem_cons_self), ih (fun q hq => h q (List.mem_cons_of_mem _ hq)), List.flatMap_cons]; rfl

theorem unb_body (t : List UInt8) : unb (body t) = some t := by
  unfold body
  rw [unb_pps _ (pl_okp t), pl_join]

/-- The reference's answer is the program's. -/
def mid (l : List UInt8) : List UInt8 := (l.drop 1).take (l.length - 2)
theorem mid_quote (t : List UInt8) : mid (quote t) = body t := by
  rw [quote_eq]
  unfold mid
  rw [show (34 :: (body t ++ [34])).drop 1 = body t ++ [34] from rfl, show (34 :: (body t ++ [34])).length - 2 = (body t).length by simp, List.take_append_of_le_length (Nat.le_refl _), List.take_length]
theorem quote_len (t : List UInt8) : 2 ≤ (quote t).length := by rw [quote_eq]; simp
theorem quote_first (t : List UInt8) : byt (quote t) 0 = 34 := by rw [quote_eq]; rfl
theorem quote_last (t : List UInt8) : byt (quote t) ((quote t).length - 1) = 34 := by
  rw [quote_eq]
  unfold byt
  rw [List.getD_eq_getElem?_getD]
  simp

/-! The order. -/
def lxl : List Nat → List Nat → Bool
  | _, [] => false
  | [], _ :: _ => true
  | x :: xs, y :: ys => if x = y then lxl xs ys else decide (x < y)
theorem lxl_nil (x : List Nat) : lxl x [] = false := by cases x <;> rfl
theorem lxl_first (y : Nat) (ys : List Nat) : lxl [] (y :: ys) = true := rfl
theorem lxl_same (x : Nat) (xs ys : List Nat) : lxl (x :: xs) (x :: ys) = lxl xs ys := by simp [lxl]
theorem lxl_ne (x y : Nat) (xs ys : List Nat) (h : x ≠ y) : lxl (x :: xs) (y :: ys) = decide (x < y) := by simp [lxl, h]
theorem lxl_not (x y : List Nat) : ¬ (lxl x y = true ∧ lxl y x = true) := by
  induction x generalizing y with
  | nil => rintro ⟨h, k⟩; rw [lxl_nil] at k; cases k
  | cons a x ih =>
    cases y with
    | nil => rintro ⟨h, k⟩; cases h
    | cons b y =>
      rintro ⟨h, k⟩
      by_cases e : a = b
      · subst e
        rw [lxl_same] at h k
        exact ih y ⟨h, k⟩
      · rw [lxl_ne _ _ _ _ e] at h
        rw [lxl_ne _ _ _ _ (Ne.symm e)] at k
        simp at h k
        omega
theorem lxl_or (x y : List Nat) (h : x ≠ y) : lxl x y = true ∨ lxl y x = true := by
  induction x generalizing y with
  | nil =>
    cases y with
    | nil => exact absurd rfl h
    | cons b y => exact .inl rfl
  | cons a x ih =>
    cases y with
    | nil => exact .inr rfl
    | cons b y =>
      by_cases e : a = b
      · subst e
        rw [lxl_same, lxl_same]
        exact ih y (fun e => h (by rw [e]))
      · rw [lxl_ne _ _ _ _ e, lxl_ne _ _ _ _ (Ne.symm e)]
        simp
        omega
theorem lxl_trans (x y z : List Nat) (h : lxl x y = true) (k : lxl y z = true) : lxl x z = true := by
  induction x generalizing y z with
  | nil =>
    cases z with
    | nil => rw [lxl_nil] at k; cases k
    | cons c z => rfl
  | cons a x ih =>
    cases y with
    | nil => cases h
    | cons b y =>
      cases z with
      | nil => cases k
      | cons c z =>
        by_cases e : a = b
        · subst e
          rw [lxl_same] at h
          by_cases e2 : a = c
          · subst e2
            rw [lxl_same] at k ⊢
            exact ih y z h k
          · rw [lxl_ne _ _ _ _ e2] at k ⊢
            exact k
        · rw [lxl_ne _ _ _ _ e] at h
          simp at h
          by_cases e2 : b = c
          · subst e2
            rw [lxl_ne _ _ _ _ e]
            simp [h]
          · rw [lxl_ne _ _ _ _ e2] at k
            simp at k
            rw [lxl_ne _ _ _ _ (by omega)]
            simp
            omega
theorem lxl_irr (x : List Nat) : lxl x x = false := by
  induction x with
  | nil => rfl
  | cons a x ih => rw [lxl_same, ih]

/-! Names. -/
def okn (p : Nat) : Prop := 32 ≤ p ∧ p ≠ 47 ∧ ¬ (127 ≤ p ∧ p ≤ 159) ∧ p ≠ 65533 ∧ p < 1114112
/-- As the program goes on from so many runes, and the last one. -/
def odd (c p : Nat) : Bool := if p = 47 ∨ rn p = 65533 then true else if p = 32 then decide (c = 0) else decide (p < 32 ∨ (127 ≤ p ∧ p ≤ 159))
def vgo : List Nat → Nat → Nat → Bool
  | [], _, last => decide (last ≠ 32)
  | p :: q, c, _ => if c = 24 ∨ odd c p = true then false else vgo q (c + 1) (rn p)
def vld (l : List UInt8) : Bool := vgo (pl l) 0 32

theorem odd_okn (c p : Nat) (_hp : okp p) : odd c p = false ↔ okn p ∧ ¬ (c = 0 ∧ p = 32) := by
  unfold odd okn rn
  repeat' split
  all_goals simp
  all_goals omega

theorem vgo_iff (q : List Nat) (h : ∀ p ∈ q, okp p) (c last : Nat) (hc : c ≤ 24) : vgo q c last = true ↔ c + q.length ≤ 24 ∧ (∀ p ∈ q, okn p) ∧ (c = 0 → q.head? ≠ some 32) ∧ (q.getLast?.getD last ≠ 32) := by
  induction q generalizing c last with
  | nil => simp [vgo]; omega
  | cons p q ih =>
    unfold vgo
    have hp := h p List.mem_cons_self
    have ho := odd_okn c p hp
    by_cases k : c = 24 ∨ odd c p = true
    · rw [if_pos k]
      constructor
      · intro x; cases x
      · rintro ⟨h1, h2, h3, h4⟩
        exfalso
        rcases k with k | k
        · simp only [List.length_cons] at h1
          omega
        · have : odd c p = false := ho.2 ⟨h2 p List.mem_cons_self, fun ⟨e1, e2⟩ => h3 e1 (by rw [e2]; rfl)⟩
          rw [this] at k
          cases k
    · rw [if_neg k]
      have k2 : odd c p = false := by
        cases e : odd c p
        · rfl
        · exact absurd (.inr e) k
      obtain ⟨o1, o2⟩ := ho.1 k2
      have hr : rn p = p := by unfold rn; unfold okn at o1; rw [if_neg (by omega)]
      rw [ih (fun x hx => h x (List.mem_cons_of_mem _ hx)) (c + 1) (rn p) (by omega), hr]
      have hg : ((p :: q).getLast?.getD last) = q.getLast?.getD p := by
        cases q with
        | nil => rfl
        | cons y q =>
          rw [List.getLast?_cons_cons]
          obtain ⟨z, hz⟩ : ∃ z, (y :: q).getLast? = some z := ⟨_, List.getLast?_eq_some_getLast (by simp)⟩
          rw [hz]
          rfl
      rw [hg]
      constructor
      · rintro ⟨h1, h2, h3, h4⟩
        refine ⟨by simp only [List.length_cons]; omega, ?_, ?_, h4⟩
        · intro x hx
          rcases List.mem_cons.1 hx with rfl | hx
          · exact o1
          · exact h2 x hx
        · intro e1 e2
          simp only [List.head?_cons, Option.some.injEq] at e2
          exact o2 ⟨e1, e2⟩
      · rintro ⟨h1, h2, h3, h4⟩
        simp only [List.length_cons] at h1
        exact ⟨by omega, fun x hx => h2 x (List.mem_cons_of_mem _ hx), fun e => by omega, h4⟩

theorem vld_iff (l : List UInt8) : vld l = true ↔ (pl l).length ≤ 24 ∧ (∀ p ∈ pl l, okn p) ∧ (pl l).head? ≠ some 32 ∧ (pl l).getLast?.getD 32 ≠ 32 := by
  unfold vld
  rw [vgo_iff (pl l) (pl_okp l) 0 32 (by omega)]
  simp

theorem vld_whole {l : List UInt8} (h : vld l = true) : whole l := fun p hp => ((vld_iff l).1 h).2.1 p hp |>.2.2.2.2

end Go.Proofs.YtfilolmbppjbjaaGreat.nm

namespace Go.Proofs.YtfilolmbppjbjaaGreat.nm

abbrev li (s : ByteArray) : List UInt8 := s.data.toList
theorem li_len (s : ByteArray) : (li s).length = s.size := by simp [li]
theorem li_mk (l : List UInt8) : li ⟨l.toArray⟩ = l := by simp [li]
theorem mk_li (s : ByteArray) : (⟨(li s).toArray⟩ : ByteArray) = s := by cases s; simp [li]
theorem li_inj {s t : ByteArray} (h : li s = li t) : s = t := by rw [← mk_li s, ← mk_li t, h]
theorem li_extract (s : ByteArray) (i : Nat) : li (s.extract i s.size) = (li s).drop i := by
  show (s.extract i s.size).data.toList = _
  rw [ByteArray.data_extract]
  simp only [Array.toList_extract, List.extract_eq_take_drop]
  exact List.take_of_length_le (by simp)
theorem byt_drop (l : List UInt8) (i k : Nat) : byt (l.drop i) k = byt l (i + k) := by
  unfold byt
  rw [List.getD_eq_getElem?_getD, List.getD_eq_getElem?_getD, List.getElem?_drop]
theorem get_byt (s : ByteArray) (i : Nat) : (s.get! i).toNat = byt (li s) i := by
  unfold byt
  congr 1
  rw [List.getD_eq_getElem?_getD]
  show s.data[i]! = _
  by_cases h : i < s.size
  · have h' : i < s.data.size := h
    rw [getElem!_pos s.data i h', List.getElem?_eq_getElem (by simpa using h')]
    simp
  · have h' : ¬ i < s.data.size := h
    rw [getElem!_neg s.data i h', List.getElem?_eq_none (by simpa using h')]
    rfl
theorem byt_at (s : ByteArray) (i : Nat) (h : i < s.size) : (s[i]'h).toNat = byt (li s) i := by
  rw [← get_byt]
  show _ = (s.data[i]!).toNat
  have h' : i < s.data.size := h
  rw [getElem!_pos s.data i h']
  rfl
theorem byt_out (l : List UInt8) (i : Nat) (h : ¬ i < l.length) : byt l i = 0 := by
  unfold byt
  rw [List.getD_eq_getElem?_getD, List.getElem?_eq_none (by omega)]
  rfl

theorem cont_eq (n x : Nat) (i : Nat) (hx : x < 256) (hn : ¬ i < n → x = 0) : (decide (i < n) && x / 64 == 2) = decide (128 ≤ x ∧ x < 192) := by
  rw [Bool.eq_iff_iff]
  simp only [Bool.and_eq_true, decide_eq_true_eq, beq_iff_eq]
  constructor
  · rintro ⟨h1, h2⟩; omega
  · rintro ⟨h1, h2⟩
    refine ⟨?_, by omega⟩
    rcases Nat.lt_or_ge i n with h | h
    · exact h
    · have := hn (by omega); omega

theorem dec4_eq (a b c d : Nat) (ha : a < 256) (hb : b < 256) (hc : c < 256) (hd : d < 256) :
    (if a < 128 then (a, 1)
     else if (a / 32 == 6 && decide (128 ≤ b ∧ b < 192)) = true then (if a % 32 * 64 + b % 64 ≥ 128 then (a % 32 * 64 + b % 64, 2) else (Utf8.runeError, 1))
     else if (a / 16 == 14 && decide (128 ≤ b ∧ b < 192) && decide (128 ≤ c ∧ c < 192)) = true then (if (decide (a % 16 * 4096 + b % 64 * 64 + c % 64 ≥ 2048) && Utf8.valid (a % 16 * 4096 + b % 64 * 64 + c % 64 : Nat)) = true then (a % 16 * 4096 + b % 64 * 64 + c % 64, 3) else (Utf8.runeError, 1))
     else if (a / 8 == 30 && decide (128 ≤ b ∧ b < 192) && decide (128 ≤ c ∧ c < 192) && decide (128 ≤ d ∧ d < 192)) = true then (if (decide (a % 8 * 262144 + b % 64 * 4096 + c % 64 * 64 + d % 64 ≥ 65536) && Utf8.valid (a % 8 * 262144 + b % 64 * 4096 + c % 64 * 64 + d % 64 : Nat)) = true then (a % 8 * 262144 + b % 64 * 4096 + c % 64 * 64 + d % 64, 4) else (Utf8.runeError, 1))
     else (Utf8.runeError, 1)) = (rn (dec4 a b c d).1, (dec4 a b c d).2) := by
  unfold dec4 Utf8.valid Utf8.runeError
  by_cases h1 : a < 128
  · rw [if_pos h1, if_pos h1]; unfold rn; rw [if_neg (by simp only; omega)]
  rw [if_neg h1, if_neg h1]
  by_cases h2 : 194 ≤ a ∧ a < 224 ∧ 128 ≤ b ∧ b < 192
  · have g : (a / 32 == 6 && decide (128 ≤ b ∧ b < 192)) = true := by simp; omega
    rw [if_pos h2, if_pos g, if_pos (by omega)]
    unfold rn
    rw [if_neg (by simp only; omega)]
    refine Prod.ext ?_ rfl
    simp only; omega
  rw [if_neg h2]
  by_cases g2 : (a / 32 == 6 && decide (128 ≤ b ∧ b < 192)) = true
  · have : a < 194 := by simp at g2; omega
    rw [if_pos g2, if_neg (by simp at g2; omega), if_neg (by omega), if_neg (by omega)]
    unfold rn
    rw [if_pos (by simp only; omega)]
  rw [if_neg g2]
  by_cases h3 : 224 ≤ a ∧ a < 240 ∧ 128 ≤ b ∧ b < 192 ∧ 128 ≤ c ∧ c < 192 ∧ 2048 ≤ (a - 224) * 4096 + (b - 128) * 64 + (c - 128) ∧ ¬ (55296 ≤ (a - 224) * 4096 + (b - 128) * 64 + (c - 128) ∧ (a - 224) * 4096 + (b - 128) * 64 + (c - 128) ≤ 57343)
  · have g : (a / 16 == 14 && decide (128 ≤ b ∧ b < 192) && decide (128 ≤ c ∧ c < 192)) = true := by simp; omega
    have e : a % 16 * 4096 + b % 64 * 64 + c % 64 = (a - 224) * 4096 + (b - 128) * 64 + (c - 128) := by omega
    rw [if_pos h3, if_pos g, e, if_pos (by simp; omega)]
    unfold rn
    rw [if_neg (by simp only; omega)]
  rw [if_neg h3]
  by_cases g3 : (a / 16 == 14 && decide (128 ≤ b ∧ b < 192) && decide (128 ≤ c ∧ c < 192)) = true
  · have : 224 ≤ a ∧ a < 240 := by simp at g3; omega
    have e : a % 16 * 4096 + b % 64 * 64 + c % 64 = (a - 224) * 4096 + (b - 128) * 64 + (c - 128) := by simp at g3; omega
    rw [if_pos g3, e, if_neg (by simp; simp at g3; omega), if_neg (by omega)]
    unfold rn
    rw [if_pos (by simp only; omega)]
  rw [if_neg g3]
  by_cases h4 : 240 ≤ a ∧ a < 245 ∧ 128 ≤ b ∧ b < 192 ∧ 128 ≤ c ∧ c < 192 ∧ 128 ≤ d ∧ d < 192 ∧ 65536 ≤ (a - 240) * 262144 + (b - 128) * 4096 + (c - 128) * 64 + (d - 128) ∧ (a - 240) * 262144 + (b - 128) * 4096 + (c - 128) * 64 + (d - 128) ≤ 1114111
  · have g : (a / 8 == 30 && decide (128 ≤ b ∧ b < 192) && decide (128 ≤ c ∧ c < 192) && decide (128 ≤ d ∧ d < 192)) = true := by simp; omega
    have e : a % 8 * 262144 + b % 64 * 4096 + c % 64 * 64 + d % 64 = (a - 240) * 262144 + (b - 128) * 4096 + (c - 128) * 64 + (d - 128) := by omega
    rw [if_pos h4, if_pos g, e, if_pos (by simp; omega)]
    unfold rn
    rw [if_neg (by simp only; omega)]
  rw [if_neg h4]
  by_cases g4 : (a / 8 == 30 && decide (128 ≤ b ∧ b < 192) && decide (128 ≤ c ∧ c < 192) && decide (128 ≤ d ∧ d < 192)) = true
  · have : 240 ≤ a ∧ a < 248 := by simp at g4; omega
    have e : a % 8 * 262144 + b % 64 * 4096 + c % 64 * 64 + d % 64 = (a - 240) * 262144 + (b - 128) * 4096 + (c - 128) * 64 + (d - 128) := by simp at g4; omega
    rw [if_pos g4, e, if_neg (by simp; simp at g4; omega)]
    unfold rn
    rw [if_pos (by simp only; omega)]
  rw [if_neg g4]
  unfold rn
  rw [if_pos (by simp only; omega)]

theorem decode_eq (s : ByteArray) (i : Nat) : Utf8.decode s i = (rn (dec ((li s).drop i)).1, (dec ((li s).drop i)).2) := by
  unfold dec
  rw [byt_drop, byt_drop, byt_drop, byt_drop, ← dec4_eq _ _ _ _ (byt_lt _ _) (byt_lt _ _) (byt_lt _ _) (byt_lt _ _)]
  unfold Utf8.decode
  simp only [get_byt]
  rw [cont_eq s.size (byt (li s) (i + 1)) (i + 1) (byt_lt _ _) (fun h => byt_out _ _ (by rw [li_len]; exact h)), cont_eq s.size (byt (li s) (i + 2)) (i + 2) (byt_lt _ _) (fun h => byt_out _ _ (by rw [li_len]; exact h)), cont_eq s.size (byt (li s) (i + 3)) (i + 3) (byt_lt _ _) (fun h => byt_out _ _ (by rw [li_len]; exact h))]

theorem okv_rep : okv 65533 := by unfold okv; omega
theorem rn_okv (p : Nat) (h : okp p) : okv (rn p) := by
  unfold rn
  unfold okp at h
  split
  · exact okv_rep
  · rcases h with h | h
    · exact h
    · omega

theorem b8_int (x : Int) (n : Nat) (h : x.toNat = n) : x.toNat.toUInt8 = b8 n := by subst h; rfl

theorem encodeRune_eq (p : Nat) (h : okv p) : Lib.encodeRune (p : Int) = enc p := by
  unfold okv at h
  unfold Lib.encodeRune enc
  rw [if_neg (by omega)]
  by_cases h1 : p < 128
  · rw [if_pos h1, Lib.encodeRuneZ_one (by omega) (by omega)]
    simp [b8]
  rw [if_neg h1]
  by_cases h2 : p < 2048
  · rw [if_pos h2, Lib.encodeRuneZ_two (by omega) (by omega)]
    simp only [List.map_cons, List.map_nil]
    rw [b8_int _ (192 + p / 64) (by omega), b8_int _ (128 + p % 64) (by omega)]
  rw [if_neg h2]
  by_cases h3 : p < 65536
  · rw [if_pos h3, Lib.encodeRuneZ_three (by omega)]
    simp only [List.map_cons, List.map_nil]
    rw [b8_int _ (224 + p / 4096) (by omega), b8_int _ (128 + p / 64 % 64) (by omega), b8_int _ (128 + p % 64) (by omega)]
  rw [if_neg h3, Lib.encodeRuneZ_four (by omega) (by omega)]
  simp only [List.map_cons, List.map_nil]
  rw [b8_int _ (240 + p / 262144) (by omega), b8_int _ (128 + p / 4096 % 64) (by omega), b8_int _ (128 + p / 64 % 64) (by omega), b8_int _ (128 + p % 64) (by omega)]

def digs : ByteArray := ⟨#[48, 49, 50, 51, 52, 53, 54, 55, 56, 57, 97, 98, 99, 100, 101, 102]⟩
theorem digs_at (n : Nat) (h : n < 16) : (digs[n]'h).toNat = dg n := by
  have : ∀ k : Fin 16, (digs[k.val]'k.isLt).toNat = dg k.val := by decide
  exact this ⟨n, h⟩
theorem index_hx (c : UInt8) : (Lib.indexByte (li digs) c) = if hxv c.toNat < 16 then (hxv c.toNat : Int) else -1 := by
  have : ∀ k : Fin 256, Lib.indexByte (li digs) (UInt8.ofNat k.val) = if hxv k.val < 16 then (hxv k.val : Int) else -1 := by decide +kernel
  have h := this ⟨c.toNat, c.toNat_lt⟩
  simpa using h

end Go.Proofs.YtfilolmbppjbjaaGreat.nm

namespace Go.Proofs.YtfilolmbppjbjaaGreat.nm
open Go.RowKit

theorem still_of {P : Program} {f : FuncId} {args : Array Value} {w : World} {v : Value} (h : Calls P f args w fun e w' => e = .returned v ∧ w = w') : Calls P f args w fun e w' => e = .returned v ∧ w' = w :=
  h.mono fun _ _ ⟨he, hw⟩ => ⟨he, hw.symm⟩

theorem isp {l : List UInt8} : ([239, 191, 189] : List UInt8).isPrefixOf l = true ↔ ∃ r, l = enc 65533 ++ r := by
  have e : enc 65533 = [239, 191, 189] := by decide
  rw [List.isPrefixOf_iff_prefix, e]
  exact ⟨fun ⟨r, h⟩ => ⟨r, h.symm⟩, fun ⟨r, h⟩ => ⟨r, h.symm⟩⟩
theorem broken_math (l : List UInt8) (hl : l ≠ []) : ((rn (dec l).1 : Int) == 65533 && !(Lib.hasPrefix l [239, 191, 189])) = decide (1114112 ≤ (dec l).1) := by
  have hp := dec_okp l hl
  have hj := dec_take l hl
  unfold Lib.hasPrefix
  by_cases h : 1114112 ≤ (dec l).1
  · have h1 : rn (dec l).1 = 65533 := by unfold rn; rw [if_pos h]
    have h2 : ([239, 191, 189] : List UInt8).isPrefixOf l = false := by
      cases e : ([239, 191, 189] : List UInt8).isPrefixOf l
      · rfl
      · obtain ⟨r, hr⟩ := isp.1 e
        rw [hr, dec_enc 65533 okv_rep] at h
        simp only at h
        omega
    rw [h1, h2]
    simp [h]
  · have h1 : rn (dec l).1 = (dec l).1 := by unfold rn; rw [if_neg h]
    rw [h1]
    by_cases k : (dec l).1 = 65533
    · have h2 : ([239, 191, 189] : List UInt8).isPrefixOf l = true := isp.2 ⟨_, by rw [← k]; exact hj.symm⟩
      rw [h2]
      simp [h]
    · have : (((dec l).1 : Int) == 65533) = false := by rw [beq_eq_false_iff_ne]; omega
      rw [this]
      simp [h]

theorem ebyte_bits (h k : Nat) (hh : h < 16 ∨ h = 255) (hk : k < 16 ∨ k = 255) : bits BinOp.or IntKind.u8 (IntKind.u8.wrap ((h : Int) * 16)) (k : Int) = (ebyte h k : Int) := by
  have key : ∀ a b : Fin 17, bits BinOp.or IntKind.u8 (IntKind.u8.wrap (((if a.val < 16 then a.val else 255 : Nat) : Int) * 16)) ((if b.val < 16 then b.val else 255 : Nat) : Int) = (ebyte (if a.val < 16 then a.val else 255) (if b.val < 16 then b.val else 255) : Int) := by decide +kernel
  have h1 : ∃ a : Fin 17, h = if a.val < 16 then a.val else 255 := by
    rcases hh with hh | hh
    · exact ⟨⟨h, by omega⟩, by simp [hh]⟩
    · exact ⟨⟨16, by omega⟩, by simp [hh]⟩
  have k1 : ∃ a : Fin 17, k = if a.val < 16 then a.val else 255 := by
    rcases hk with hk | hk
    · exact ⟨⟨k, by omega⟩, by simp [hk]⟩
    · exact ⟨⟨16, by omega⟩, by simp [hk]⟩
  obtain ⟨a, ha⟩ := h1
  obtain ⟨b, hb⟩ := k1
  rw [ha, hb]
  exact key a b

theorem byt8 (s : ByteArray) (i : Nat) (h : i < s.size) : ∃ c : UInt8, s[i]'h = c ∧ byt (li s) i = c.toNat := ⟨_, rfl, (byt_at s i h).symm⟩

theorem below_iter (w : World) (s : ByteArray) (p : Nat) : Below w.heap.size w (w.iter s p) := (Below.refl _ _).alloc (Nat.le_refl _) _

/-- What 'next' tells of a text at a place. -/
theorem next_at (w : World) (s : ByteArray) (pos : Nat) (h : pos < s.size) (ty : TypeId) :
    (Instr.next (.pointer (some ⟨w.heap.size, 0, none⟩)) true ty).run Tryz.prog (w.iter s pos) = .ok (.tuple #[.bool true, .int .i64 pos, .int .i32 (rn (dec ((li s).drop pos)).1 : Nat)]) (w.iter s (pos + (dec ((li s).drop pos)).2)) := by
  rw [run_next_any w s pos ty h, decode_eq]

/-- The place of a text's first rune. -/
def pz (l : List UInt8) : Int := if l = [] then -1 else ((dec l).1 : Int)

end Go.Proofs.YtfilolmbppjbjaaGreat.nm

namespace Go.Proofs.YtfilolmbppjbjaaGreat.nm
open Go.RowKit

theorem drop_ne {s : ByteArray} {pos : Nat} (h : pos < s.size) : (li s).drop pos ≠ [] := by
  intro e
  have := congrArg List.length e
  rw [List.length_drop, li_len] at this
  simp at this
  omega
theorem drop_end {s : ByteArray} {pos : Nat} (h : ¬ pos < s.size) : (li s).drop pos = [] := List.drop_eq_nil_of_le (by rw [li_len]; omega)
theorem drop_width {s : ByteArray} {pos : Nat} (h : pos < s.size) : 1 ≤ (dec ((li s).drop pos)).2 ∧ pos + (dec ((li s).drop pos)).2 ≤ s.size := by
  have := dec_width _ (drop_ne h)
  rw [List.length_drop, li_len] at this
  omega
theorem pl_at {s : ByteArray} {pos : Nat} (h : pos < s.size) : pl ((li s).drop pos) = (dec ((li s).drop pos)).1 :: pl ((li s).drop (pos + (dec ((li s).drop pos)).2)) := by
  rw [pl_cons _ (drop_ne h), List.drop_drop]

theorem pz_nil : pz [] = -1 := rfl
theorem pz_cons {l : List UInt8} (h : l ≠ []) : pz l = ((dec l).1 : Int) := by unfold pz; rw [if_neg h]

/-- What a round of Less knows. -/
structure Same (a b : List UInt8) (pos : Nat) : Prop where
  le : pos ≤ b.length
  lt : lxl (pl (a.drop pos)) (pl (b.drop pos)) = lxl (pl a) (pl b)

theorem same_zero (a b : List UInt8) : Same a b 0 := ⟨by omega, rfl⟩
/-- Where the places are the same, both go on. -/
theorem same_next {a b : List UInt8} {pos : Nat} (h : Same a b pos) (ha : a.drop pos ≠ []) (e : pz (a.drop pos) = pz (b.drop pos)) : Same a b (pos + (dec (a.drop pos)).2) := by
  have hb : b.drop pos ≠ [] := by
    intro hb
    rw [hb, pz_nil, pz_cons ha] at e
    omega
  rw [pz_cons ha, pz_cons hb] at e
  have e' : (dec (a.drop pos)).1 = (dec (b.drop pos)).1 := by omega
  have w1 := dec_len _ ha
  have w2 := dec_len _ hb
  have w3 := (dec_width _ hb).2.1
  rw [List.length_drop] at w3
  have hw : (dec (a.drop pos)).2 = (dec (b.drop pos)).2 := by rw [w1, w2, e']
  refine ⟨by have := h.le; omega, ?_⟩
  rw [← h.lt, pl_cons _ ha, pl_cons _ hb, e', lxl_same, List.drop_drop, List.drop_drop, hw]
/-- Where they are not, the answer stands. -/
theorem same_ne {a b : List UInt8} {pos : Nat} (h : Same a b pos) (ha : a.drop pos ≠ []) (e : pz (a.drop pos) ≠ pz (b.drop pos)) : decide (pz (a.drop pos) < pz (b.drop pos)) = lxl (pl a) (pl b) := by
  rw [← h.lt]
  by_cases hb : b.drop pos = []
  · rw [hb, pz_nil, pl_nil, lxl_nil, pz_cons ha]
    simp
  · rw [pl_cons _ ha, pl_cons _ hb]
    rw [pz_cons ha, pz_cons hb] at *
    rw [lxl_ne _ _ _ _ (by omega)]
    simp
theorem same_end {a b : List UInt8} {pos : Nat} (h : Same a b pos) (hp : pos = a.length) : decide (a.length < b.length) = lxl (pl a) (pl b) := by
  rw [← h.lt, List.drop_eq_nil_of_le (by omega : a.length ≤ pos), pl_nil]
  by_cases hb : b.drop pos = []
  · have := congrArg List.length hb
    rw [List.length_drop] at this
    simp at this
    rw [hb, pl_nil]
    simp [lxl]
    omega
  · rw [pl_cons _ hb, lxl_first]
    have : 0 < (b.drop pos).length := List.length_pos_iff.mpr hb
    rw [List.length_drop] at this
    simp
    omega

/-- The worlds of a round of Less. -/
structure LessW (w : World) (a : ByteArray) (pos : Nat) (v : World) : Prop where
  bel : Below w.heap.size w v
  it : v.heap[w.heap.size]? = some (.stringIter a pos)
theorem LessW.next {w v v' : World} {a : ByteArray} {pos : Nat} (h : LessW w a pos v) (b : Below v.heap.size v v') : LessW w a pos v' :=
  have hlt : w.heap.size < v.heap.size := (Array.getElem?_eq_some_iff.1 h.it).1
  ⟨h.bel.trans (b.mono (by omega)), (b.block _ hlt).trans h.it⟩
end Go.Proofs.YtfilolmbppjbjaaGreat.nm

namespace Go.Proofs.YtfilolmbppjbjaaGreat.nm
open Go.RowKit

set_option maxHeartbeats 1000000 in
theorem odd_any (c p b : Nat) (w : World) (hc : w.cell? ⟨b, 0, none⟩ = some (.int .i64 (c : Int))) (_hp : okp p) :
    Calls Tryz.prog 106 #[.int .i32 (rn p : Nat), .pointer (some ⟨b, 0, none⟩)] w fun e w' => e = .returned (.bool (odd c p)) ∧ w = w' := by
  obtain ⟨r, hr⟩ : ∃ r, rn p = r := ⟨_, rfl⟩
  have hpr : r = 65533 ∨ p = r := by unfold rn at hr; split at hr <;> omega
  rw [hr]
  by_cases h1 : r = 47
  · have e : Hid (odd c p = true) := by show _ = _; unfold odd; rw [if_pos (by omega)]
    have t1 : ((r : Int) == 47) = true := by rw [h1]; rfl
    clear h1 hr hpr
    go_enter Tryz.func106, Tryz.ntmps106
    go_wp2_with fail
    go_ret
    exact ⟨by rw [e.out]; rfl, rfl⟩
  have t1 : ((r : Int) == 47) = false := by rw [beq_eq_false_iff_ne]; omega
  by_cases h2 : r = 65533
  · have e : Hid (odd c p = true) := by show _ = _; unfold odd; rw [if_pos (by omega)]
    have t2 : ((r : Int) == 65533) = true := by rw [h2]; rfl
    clear h1 h2 hr hpr
    go_enter Tryz.func106, Tryz.ntmps106
    go_wp2_with fail
    go_ret
    exact ⟨by rw [e.out]; rfl, rfl⟩
  have t2 : ((r : Int) == 65533) = false := by rw [beq_eq_false_iff_ne]; omega
  have hpr' : p = r := by omega
  subst hpr'
  by_cases h3 : p = 32
  · have e : Hid (odd c p = ((c : Int) == 0)) := by
      show _ = _; unfold odd; rw [if_neg (by omega), if_pos h3]
      by_cases k : c = 0
      · subst k; rfl
      · simp [k]
    have t3 : ((p : Int) == 32) = true := by rw [h3]; rfl
    clear h1 h2 hr hpr h3
    go_enter Tryz.func106, Tryz.ntmps106
    go_wp2_with fail
    go_ret
    exact ⟨by rw [e.out]; rfl, rfl⟩
  have t3 : ((p : Int) == 32) = false := by rw [beq_eq_false_iff_ne]; omega
  have e : Hid (odd c p = decide (p < 32 ∨ (127 ≤ p ∧ p ≤ 159))) := by
    show _ = _; unfold odd; rw [if_neg (by omega), if_neg h3]
  by_cases h4 : p < 32
  · have t4 : decide ((p : Int) < 32) = true := by simp; omega
    have e2 : Hid (odd c p = true) := by show _ = _; rw [e.out]; simp [h4]
    clear h1 h2 hr hpr h3 h4 e
    go_enter Tryz.func106, Tryz.ntmps106
    go_wp2_with fail
    go_ret
    exact ⟨by rw [e2.out]; rfl, rfl⟩
  have t4 : decide ((p : Int) < 32) = false := by simp; omega
  by_cases h5 : 127 ≤ p
  · have t5 : decide ((127 : Int) ≤ (p : Int)) = true := by simp; omega
    have e2 : Hid (odd c p = decide ((p : Int) ≤ 159)) := by
      rw [e.out]
      show decide (p < 32 ∨ (127 ≤ p ∧ p ≤ 159)) = decide ((p : Int) ≤ 159)
      rw [decide_eq_decide]; omega
    clear h1 h2 hr hpr h3 h4 h5 e
    go_enter Tryz.func106, Tryz.ntmps106
    go_wp2_with fail
    go_ret
    exact ⟨by rw [e2.out]; rfl, rfl⟩
  · have t5 : decide ((127 : Int) ≤ (p : Int)) = false := by simp; omega
    have e2 : Hid (odd c p = false) := by
      rw [e.out]
      show decide (p < 32 ∨ (127 ≤ p ∧ p ≤ 159)) = false
      simp; omega
    clear h1 h2 hr hpr h3 h4 h5 e
    go_enter Tryz.func106, Tryz.ntmps106
    go_wp2_with fail
    go_ret
    exact ⟨by rw [e2.out]; rfl, rfl⟩

def vw (w : World) (s : ByteArray) (c pos : Nat) : World := (w.alloc (.cells #[.int .i64 (c : Int)] 3)).iter s pos
theorem vw_size (w : World) (s : ByteArray) (c pos : Nat) : (vw w s c pos).heap.size = w.heap.size + 2 := by
  show ((w.heap.push _).push _).size = _
  simp
theorem vw_cell (w : World) (s : ByteArray) (c pos : Nat) : (vw w s c pos).cell? ⟨w.heap.size, 0, none⟩ = some (.int .i64 (c : Int)) := by
  have h : (vw w s c pos).heap[w.heap.size]? = some (.cells #[.int .i64 (c : Int)] 3) := by
    show ((w.heap.push _).push _)[w.heap.size]? = _
    rw [Array.getElem?_push, if_neg (by simp), Array.getElem?_push, if_pos rfl]
  rw [Lib.cell_of_heap h]; rfl
theorem vw_frozen (w : World) (s : ByteArray) (c pos : Nat) : (vw w s c pos).frozen? ⟨w.heap.size, 0, none⟩ = false := by
  have h : (vw w s c pos).heap[w.heap.size]? = some (.cells #[.int .i64 (c : Int)] 3) := by
    show ((w.heap.push _).push _)[w.heap.size]? = _
    rw [Array.getElem?_push, if_neg (by simp), Array.getElem?_push, if_pos rfl]
  simp [World.frozen?, h]
theorem vw_below (w : World) (s : ByteArray) (c pos : Nat) : Below w.heap.size w (vw w s c pos) :=
  ((Below.refl _ _).alloc (Nat.le_refl _) _).alloc (by simp) _
theorem vw_next (w : World) (s : ByteArray) (c pos : Nat) (h : pos < s.size) (ty : TypeId) :
    (Instr.next (.pointer (some ⟨w.heap.size + 1, 0, none⟩)) true ty).run Tryz.prog (vw w s c pos) = .ok (.tuple #[.bool true, .int .i64 pos, .int .i32 (rn (dec ((li s).drop pos)).1 : Nat)]) (vw w s c (pos + (dec ((li s).drop pos)).2)) := by
  have := next_at (w.alloc (.cells #[.int .i64 (c : Int)] 3)) s pos h ty
  simpa [vw] using this
theorem vw_end (w : World) (s : ByteArray) (c pos : Nat) (h : ¬ pos < s.size) (ty : TypeId) :
    (Instr.next (.pointer (some ⟨w.heap.size + 1, 0, none⟩)) true ty).run Tryz.prog (vw w s c pos) = .ok (.tuple #[.bool false]) (vw w s c pos) := by
  have := run_next_end (P := Tryz.prog) (w.alloc (.cells #[.int .i64 (c : Int)] 3)) s pos ty h
  simpa [vw] using this
theorem vw_pos (w : World) (s : ByteArray) (c pos : Nat) : (vw w s c pos).iterPos (w.heap.size + 1) = pos := by
  have := World.iterPos_iter (w.alloc (.cells #[.int .i64 (c : Int)] 3)) s pos
  simpa [vw] using this
theorem vw_set (w : World) (s : ByteArray) (c pos : Nat) : (vw w s c pos).setCell ⟨w.heap.size, 0, none⟩ (.int .i64 ((c : Int) + 1)) = vw w s (c + 1) pos := by
  simp only [vw, World.iter, World.alloc, World.setCell]
  congr 1
  apply Array.ext_getElem?
  intro i
  rw [Array.getElem?_modify, Array.getElem?_push, Array.getElem?_push, Array.getElem?_push, Array.getElem?_push]
  simp only [Array.size_push]
  by_cases h : w.heap.size = i
  · subst h
    simp
  · rw [if_neg h]
    by_cases k : i = w.heap.size + 1
    · rw [if_pos k, if_pos k]
    · rw [if_neg k, if_neg k, if_neg (by omega), if_neg (by omega)]

set_option maxHeartbeats 1000000 in
theorem valid_any (s : ByteArray) (hs : s.size ≤ 1099511627776) (w : World) :
    Calls Tryz.prog 105 #[.string s] w fun e w' => e = .returned (.bool (vld (li s))) ∧ Below w.heap.size w w' := by
  go_enter Tryz.func105, Tryz.ntmps105
  go_wp2_with fail
  go_loopw [4] (fun v wr => ∃ (pos c L : Nat), v = .int .i32 (L : Int) ∧ wr = vw w s c pos ∧ pos ≤ s.size ∧ c ≤ 24 ∧ Hid (vgo (pl ((li s).drop pos)) c L = vld (li s))) (fun _ wr => s.size - wr.iterPos (w.heap.size + 1))
  case atStart => exact ⟨0, 0, 32, rfl, rfl, by omega, by omega, rfl⟩
  case round =>
    obtain ⟨pos, c, L, rfl, rfl, hp, hc, hn⟩ := hrel
    by_cases hlt : pos < s.size
    · have hnx := fun ty => vw_next w s c pos hlt ty
      have hw := drop_width hlt
      have hok := Lib.hid (dec_okp _ (drop_ne hlt))
      have hn2 : Hid (vld (li s) = if c = 24 ∨ odd c (dec ((li s).drop pos)).1 = true then false else vgo (pl ((li s).drop (pos + (dec ((li s).drop pos)).2))) (c + 1) (rn (dec ((li s).drop pos)).1)) := by
        show _ = _
        rw [← hn.out, pl_at hlt]; rfl
      revert hnx hw hn2 hok
      generalize (dec ((li s).drop pos)).2 = n
      generalize (dec ((li s).drop pos)).1 = p
      intro hnx hw hok hn2
      have hcell := vw_cell w s c (pos + n)
      by_cases h24 : c = 24
      · have e : Hid (vld (li s) = false) := by show _ = _; rw [hn2.out, if_pos (.inl h24)]
        have t1 : ((c : Int) == 24) = true := by rw [h24]; rfl
        clear h24 hn2 hn
        go_wp2_with fail
        go_ret
        exact ⟨by rw [e.out]; rfl, vw_below _ _ _ _⟩
      · have t1 : ((c : Int) == 24) = false := by rw [beq_eq_false_iff_ne]; omega
        have hodd := Lib.hid (odd_any c p w.heap.size (vw w s c (pos + n)) hcell hok.out)
        cases ho : odd c p
        · rw [ho] at hodd
          have e : Hid (vgo (pl ((li s).drop (pos + n))) (c + 1) (rn p) = vld (li s)) := by show _ = _; rw [hn2.out, if_neg (by rw [ho]; simp; omega)]
          have hset := vw_set w s c (pos + n)
          have hfr := vw_frozen w s c (pos + n)
          have hpos := Lib.hid (And.intro (vw_pos w s c pos) (vw_pos w s (c + 1) (pos + n)))
          clear hn2 hn ho
          go_wp2_with fail
          refine hodd.out.mono ?_
          rintro e w' ⟨rfl, rfl⟩
          go_wp2_with fail
          go_roundw
          case rel => exact ⟨pos + n, c + 1, rn p, rfl, rfl, by omega, by omega, e⟩
          case measure => rw [hpos.out.1, hpos.out.2]; omega
        · rw [ho] at hodd
          have e : Hid (vld (li s) = false) := by show _ = _; rw [hn2.out, if_pos (.inr ho)]
          clear hn2 hn ho
          go_wp2_with fail
          refine hodd.out.mono ?_
          rintro e w' ⟨rfl, rfl⟩
          go_wp2_with fail
          go_ret
          exact ⟨by rw [e.out]; rfl, vw_below _ _ _ _⟩
    · have hnx := fun ty => vw_end w s c pos hlt ty
      have e : Hid (vld (li s) = ((L : Int) != 32)) := by
        show _ = _
        rw [← hn.out, drop_end hlt]
        show decide (L ≠ 32) = _
        by_cases k : L = 32
        · subst k; rfl
        · have : ((L : Int) == 32) = false := by rw [beq_eq_false_iff_ne]; omega
          simp [k, bne, this]
      go_wp2_with fail
      go_ret
      exact ⟨by rw [e.out]; rfl, vw_below _ _ _ _⟩

end Go.Proofs.YtfilolmbppjbjaaGreat.nm
