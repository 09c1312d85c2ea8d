/-
  Plain facts on bytes and runes: a byte list's first rune (or broken byte), all of them, their bytes again, what is quoted, and what is meant by a quote.
-/
namespace Go.Proofs.Ytphbkbjgjicncaa.nm

/-- The rune and its width, by the first four bytes; 1114112 and more: a broken byte. -/
def dec4 (a b c d : Nat) : Nat × Nat :=
  if a < 128 then (a, 1)
  else if 194 ≤ a ∧ a < 224 ∧ 128 ≤ b ∧ b < 192 then ((a - 192) * 64 + (b - 128), 2)
  else if 224 ≤ a ∧ a < 240 ∧ 128 ≤ b ∧ b < 192 ∧ 128 ≤ c ∧ c < 192 ∧ 2048 ≤ (a - 224) * 4096 + (b - 128) * 64 + (c - 128) ∧ ¬ (55296 ≤ (a - 224) * 4096 + (b - 128) * 64 + (c - 128) ∧ (a - 224) * 4096 + (b - 128) * 64 + (c - 128) ≤ 57343) then ((a - 224) * 4096 + (b - 128) * 64 + (c - 128), 3)
  else if 240 ≤ a ∧ a < 245 ∧ 128 ≤ b ∧ b < 192 ∧ 128 ≤ c ∧ c < 192 ∧ 128 ≤ d ∧ d < 192 ∧ 65536 ≤ (a - 240) * 262144 + (b - 128) * 4096 + (c - 128) * 64 + (d - 128) ∧ (a - 240) * 262144 + (b - 128) * 4096 + (c - 128) * 64 + (d - 128) ≤ 1114111 then ((a - 240) * 262144 + (b - 128) * 4096 + (c - 128) * 64 + (d - 128), 4)
  else (1114112 + a, 1)

def byt (l : List UInt8) (k : Nat) : Nat := (l.getD k 0).toNat
def dec (l : List UInt8) : Nat × Nat := dec4 (byt l 0) (byt l 1) (byt l 2) (byt l 3)

def b8 (n : Nat) : UInt8 := UInt8.ofNat n
theorem b8_toNat (n : Nat) (h : n < 256) : (b8 n).toNat = n := by
  unfold b8; rw [UInt8.toNat_ofNat']; exact Nat.mod_eq_of_lt h
theorem b8_eq (x : UInt8) (n : Nat) (h : n = x.toNat) : b8 n = x := by subst h; unfold b8; simp

/-- The bytes of a rune, or of a broken byte. -/
def enc (p : Nat) : List UInt8 :=
  if 1114112 ≤ p then [b8 (p - 1114112)]
  else if p < 128 then [b8 p]
  else if p < 2048 then [b8 (192 + p / 64), b8 (128 + p % 64)]
  else if p < 65536 then [b8 (224 + p / 4096), b8 (128 + p / 64 % 64), b8 (128 + p % 64)]
  else [b8 (240 + p / 262144), b8 (128 + p / 4096 % 64), b8 (128 + p / 64 % 64), b8 (128 + p % 64)]

theorem byt_lt (l : List UInt8) (k : Nat) : byt l k < 256 := (l.getD k 0).toNat_lt

/-- The five ways in which a text begins. -/
theorem dec_ways (l : List UInt8) (hl : l ≠ []) :
    (∃ a t, l = a :: t ∧ a.toNat < 128 ∧ dec l = (a.toNat, 1)) ∨
    (∃ a b t, l = a :: b :: t ∧ 194 ≤ a.toNat ∧ a.toNat < 224 ∧ 128 ≤ b.toNat ∧ b.toNat < 192 ∧ dec l = ((a.toNat - 192) * 64 + (b.toNat - 128), 2)) ∨
    (∃ a b c t, l = a :: b :: c :: t ∧ 224 ≤ a.toNat ∧ a.toNat < 240 ∧ 128 ≤ b.toNat ∧ b.toNat < 192 ∧ 128 ≤ c.toNat ∧ c.toNat < 192 ∧ 2048 ≤ (a.toNat - 224) * 4096 + (b.toNat - 128) * 64 + (c.toNat - 128) ∧ ¬ (55296 ≤ (a.toNat - 224) * 4096 + (b.toNat - 128) * 64 + (c.toNat - 128) ∧ (a.toNat - 224) * 4096 + (b.toNat - 128) * 64 + (c.toNat - 128) ≤ 57343) ∧ dec l = ((a.toNat - 224) * 4096 + (b.toNat - 128) * 64 + (c.toNat - 128), 3)) ∨
    (∃ a b c d t, l = a :: b :: c :: d :: t ∧ 240 ≤ a.toNat ∧ a.toNat < 245 ∧ 128 ≤ b.toNat ∧ b.toNat < 192 ∧ 128 ≤ c.toNat ∧ c.toNat < 192 ∧ 128 ≤ d.toNat ∧ d.toNat < 192 ∧ 65536 ≤ (a.toNat - 240) * 262144 + (b.toNat - 128) * 4096 + (c.toNat - 128) * 64 + (d.toNat - 128) ∧ (a.toNat - 240) * 262144 + (b.toNat - 128) * 4096 + (c.toNat - 128) * 64 + (d.toNat - 128) ≤ 1114111 ∧ dec l = ((a.toNat - 240) * 262144 + (b.toNat - 128) * 4096 + (c.toNat - 128) * 64 + (d.toNat - 128), 4)) ∨
    (∃ a t, l = a :: t ∧ 128 ≤ a.toNat ∧ dec l = (1114112 + a.toNat, 1)) := by
  obtain ⟨a, t, rfl⟩ : ∃ a t, l = a :: t := by
    cases l with
    | nil => exact absurd rfl hl
    | cons a t => exact ⟨a, t, rfl⟩
  have h0 : byt (a :: t) 0 = a.toNat := rfl
  by_cases c1 : a.toNat < 128
  · exact .inl ⟨a, t, rfl, c1, by unfold dec dec4; rw [h0, if_pos c1]⟩
  right
  by_cases c2 : 194 ≤ a.toNat ∧ a.toNat < 224 ∧ 128 ≤ byt (a :: t) 1 ∧ byt (a :: t) 1 < 192
  · left
    cases t with
    | nil => have : byt [a] 1 = 0 := rfl; omega
    | cons b t => exact ⟨a, b, t, rfl, c2.1, c2.2.1, c2.2.2.1, c2.2.2.2, by unfold dec dec4; rw [h0, if_neg c1, if_pos c2]; rfl⟩
  right
  by_cases c3 : 224 ≤ a.toNat ∧ a.toNat < 240 ∧ 128 ≤ byt (a :: t) 1 ∧ byt (a :: t) 1 < 192 ∧ 128 ≤ byt (a :: t) 2 ∧ byt (a :: t) 2 < 192 ∧ 2048 ≤ (a.toNat - 224) * 4096 + (byt (a :: t) 1 - 128) * 64 + (byt (a :: t) 2 - 128) ∧ ¬ (55296 ≤ (a.toNat - 224) * 4096 + (byt (a :: t) 1 - 128) * 64 + (byt (a :: t) 2 - 128) ∧ (a.toNat - 224) * 4096 + (byt (a :: t) 1 - 128) * 64 + (byt (a :: t) 2 - 128) ≤ 57343)
  · left
    match t, c2, c3 with
    | [], _, c3 => have : byt [a] 1 = 0 := rfl; omega
    | [b], _, c3 => have : byt [a, b] 2 = 0 := rfl; omega
    | b :: c :: t, c2, c3 =>
      obtain ⟨q1, q2, q3, q4, q5, q6, q7, q8⟩ := c3
      exact ⟨a, b, c, t, rfl, q1, q2, q3, q4, q5, q6, q7, q8, by unfold dec dec4; rw [h0, if_neg c1, if_neg c2, if_pos ⟨q1, q2, q3, q4, q5, q6, q7, q8⟩]; rfl⟩
  right
  by_cases c4 : 240 ≤ a.toNat ∧ a.toNat < 245 ∧ 128 ≤ byt (a :: t) 1 ∧ byt (a :: t) 1 < 192 ∧ 128 ≤ byt (a :: t) 2 ∧ byt (a :: t) 2 < 192 ∧ 128 ≤ byt (a :: t) 3 ∧ byt (a :: t) 3 < 192 ∧ 65536 ≤ (a.toNat - 240) * 262144 + (byt (a :: t) 1 - 128) * 4096 + (byt (a :: t) 2 - 128) * 64 + (byt (a :: t) 3 - 128) ∧ (a.toNat - 240) * 262144 + (byt (a :: t) 1 - 128) * 4096 + (byt (a :: t) 2 - 128) * 64 + (byt (a :: t) 3 - 128) ≤ 1114111
  · left
    match t, c2, c3, c4 with
    | [], _, _, c4 => have : byt [a] 1 = 0 := rfl; omega
    | [b], _, _, c4 => have : byt [a, b] 2 = 0 := rfl; omega
    | [b, c], _, _, c4 => have : byt [a, b, c] 3 = 0 := rfl; omega
    | b :: c :: d :: t, c2, c3, c4 =>
      obtain ⟨q1, q2, q3, q4, q5, q6, q7, q8, q9, q10⟩ := c4
      exact ⟨a, b, c, d, t, rfl, q1, q2, q3, q4, q5, q6, q7, q8, q9, q10, by unfold dec dec4; rw [h0, if_neg c1, if_neg c2, if_neg c3, if_pos ⟨q1, q2, q3, q4, q5, q6, q7, q8, q9, q10⟩]; rfl⟩
  right
  exact ⟨a, t, rfl, by omega, by unfold dec dec4; rw [h0, if_neg c1, if_neg c2, if_neg c3, if_neg c4]⟩

/-- A place that a rune has. -/
def okv (p : Nat) : Prop := p < 1114112 ∧ ¬ (55296 ≤ p ∧ p ≤ 57343)
/-- A place that a rune or a broken byte has. -/
def okp (p : Nat) : Prop := okv p ∨ (1114112 + 128 ≤ p ∧ p < 1114112 + 256)

theorem dec_okp (l : List UInt8) (hl : l ≠ []) : okp (dec l).1 := by
  rcases dec_ways l hl with ⟨a, t, rfl, h1, e⟩ | ⟨a, b, t, rfl, h1, h2, h3, h4, e⟩ | ⟨a, b, c, t, rfl, h1, h2, h3, h4, h5, h6, h7, h8, e⟩ | ⟨a, b, c, d, t, rfl, h1, h2, h3, h4, h5, h6, h7, h8, h9, h10, e⟩ | ⟨a, t, rfl, h1, e⟩
  all_goals rw [e]; unfold okp okv; have := a.toNat_lt; simp only; omega

theorem dec_width (l : List UInt8) (hl : l ≠ []) : 1 ≤ (dec l).2 ∧ (dec l).2 ≤ l.length ∧ (dec l).2 ≤ 4 := by
  rcases dec_ways l hl with ⟨a, t, rfl, h1, e⟩ | ⟨a, b, t, rfl, h1, h2, h3, h4, e⟩ | ⟨a, b, c, t, rfl, h1, h2, h3, h4, h5, h6, h7, h8, e⟩ | ⟨a, b, c, d, t, rfl, h1, h2, h3, h4, h5, h6, h7, h8, h9, h10, e⟩ | ⟨a, t, rfl, h1, e⟩
  all_goals rw [e]; simp

/-- What a text begins with is the bytes of its first place. -/
theorem dec_take (l : List UInt8) (hl : l ≠ []) : enc (dec l).1 ++ l.drop (dec l).2 = l := by
  rcases dec_ways l hl with ⟨a, t, rfl, h1, e⟩ | ⟨a, b, t, rfl, h1, h2, h3, h4, e⟩ | ⟨a, b, c, t, rfl, h1, h2, h3, h4, h5, h6, h7, h8, e⟩ | ⟨a, b, c, d, t, rfl, h1, h2, h3, h4, h5, h6, h7, h8, h9, h10, e⟩ | ⟨a, t, rfl, h1, e⟩
  · rw [e]; unfold enc; simp only
    rw [if_neg (by omega), if_pos (by omega), b8_eq a _ rfl]; rfl
  · rw [e]; unfold enc; simp only
    rw [if_neg (by omega), if_neg (by omega), if_pos (by omega), b8_eq a _ (by omega), b8_eq b _ (by omega)]; rfl
  · rw [e]; unfold enc; simp only
    rw [if_neg (by omega), if_neg (by omega), if_neg (by omega), if_pos (by omega), b8_eq a _ (by omega), b8_eq b _ (by omega), b8_eq c _ (by omega)]; rfl
  · rw [e]; unfold enc; simp only
    rw [if_neg (by omega), if_neg (by omega), if_neg (by omega), if_neg (by omega), b8_eq a _ (by omega), b8_eq b _ (by omega), b8_eq c _ (by omega), b8_eq d _ (by omega)]; rfl
  · rw [e]; unfold enc; simp only
    rw [if_pos (by omega), b8_eq a _ (by omega)]; rfl

theorem enc_length (p : Nat) : 1 ≤ (enc p).length ∧ (enc p).length ≤ 4 := by
  unfold enc
  repeat' split
  all_goals simp

theorem dec_len (l : List UInt8) (hl : l ≠ []) : (dec l).2 = (enc (dec l).1).length := by
  have h := congrArg List.length (dec_take l hl)
  have := (dec_width l hl).2.1
  rw [List.length_append, List.length_drop] at h
  omega

/-- The bytes of a rune, and whatever behind them, begin with that rune. -/
theorem dec_enc (p : Nat) (h : okv p) (r : List UInt8) : dec (enc p ++ r) = (p, (enc p).length) := by
  unfold okv at h
  unfold enc
  rw [if_neg (by omega)]
  split
  · rename_i c; unfold dec dec4
    have h0 : byt ([b8 p] ++ r) 0 = p := b8_toNat p (by omega)
    rw [h0, if_pos c]; rfl
  split
  · rename_i _ c; unfold dec dec4
    have h0 : byt ([b8 (192 + p / 64), b8 (128 + p % 64)] ++ r) 0 = 192 + p / 64 := b8_toNat _ (by omega)
    have h1 : byt ([b8 (192 + p / 64), b8 (128 + p % 64)] ++ r) 1 = 128 + p % 64 := b8_toNat _ (by omega)
    rw [h0, h1, if_neg (by omega), if_pos (by omega)]
    refine Prod.ext ?_ rfl
    simp only; omega
  split
  · rename_i _ _ c; unfold dec dec4
    have h0 : byt ([b8 (224 + p / 4096), b8 (128 + p / 64 % 64), b8 (128 + p % 64)] ++ r) 0 = 224 + p / 4096 := b8_toNat _ (by omega)
    have h1 : byt ([b8 (224 + p / 4096), b8 (128 + p / 64 % 64), b8 (128 + p % 64)] ++ r) 1 = 128 + p / 64 % 64 := b8_toNat _ (by omega)
    have h2 : byt ([b8 (224 + p / 4096), b8 (128 + p / 64 % 64), b8 (128 + p % 64)] ++ r) 2 = 128 + p % 64 := b8_toNat _ (by omega)
    rw [h0, h1, h2]
    have e : (224 + p / 4096 - 224) * 4096 + (128 + p / 64 % 64 - 128) * 64 + (128 + p % 64 - 128) = p := by omega
    rw [if_neg (by omega), if_neg (by omega), e, if_pos (by omega)]
    rfl
  · rename_i _ _ c; unfold dec dec4
    have h0 : byt ([b8 (240 + p / 262144), b8 (128 + p / 4096 % 64), b8 (128 + p / 64 % 64), b8 (128 + p % 64)] ++ r) 0 = 240 + p / 262144 := b8_toNat _ (by omega)
    have h1 : byt ([b8 (240 + p / 262144), b8 (128 + p / 4096 % 64), b8 (128 + p / 64 % 64), b8 (128 + p % 64)] ++ r) 1 = 128 + p / 4096 % 64 := b8_toNat _ (by omega)
    have h2 : byt ([b8 (240 + p / 262144), b8 (128 + p / 4096 % 64), b8 (128 + p / 64 % 64), b8 (128 + p % 64)] ++ r) 2 = 128 + p / 64 % 64 := b8_toNat _ (by omega)
    have h3 : byt ([b8 (240 + p / 262144), b8 (128 + p / 4096 % 64), b8 (128 + p / 64 % 64), b8 (128 + p % 64)] ++ r) 3 = 128 + p % 64 := b8_toNat _ (by omega)
    rw [h0, h1, h2, h3]
    have e : (240 + p / 262144 - 240) * 262144 + (128 + p / 4096 % 64 - 128) * 4096 + (128 + p / 64 % 64 - 128) * 64 + (128 + p % 64 - 128) = p := by omega
    rw [if_neg (by omega), if_neg (by omega), if_neg (by omega), e, if_pos (by omega)]
    rfl

/-- All places of a text. -/
def plF : Nat → List UInt8 → List Nat
  | 0, _ => []
  | f + 1, l => if l = [] then [] else (dec l).1 :: plF f (l.drop (dec l).2)
def pl (l : List UInt8) : List Nat := plF l.length l

theorem plF_more (f g : Nat) (l : List UInt8) (hf : l.length ≤ f) (hg : l.length ≤ g) : plF f l = plF g l := by
  induction f generalizing g l with
  | zero =>
    have : l = [] := List.length_eq_zero_iff.mp (by omega)
    subst this
    cases g <;> simp [plF]
  | succ f ih =>
    by_cases h : l = []
    · subst h
      cases g <;> simp [plF]
    · have hw := dec_width l h
      obtain ⟨g', rfl⟩ : ∃ g', g = g' + 1 := ⟨g - 1, by omega⟩
      simp only [plF, if_neg h]
      rw [ih g' _ (by rw [List.length_drop]; omega) (by rw [List.length_drop]; omega)]

theorem pl_nil : pl [] = [] := rfl
theorem pl_cons (l : List UInt8) (h : l ≠ []) : pl l = (dec l).1 :: pl (l.drop (dec l).2) := by
  have hw := dec_width l h
  unfold pl
  obtain ⟨n, hn⟩ : ∃ n, l.length = n + 1 := ⟨l.length - 1, by omega⟩
  conv => lhs; rw [hn]
  simp only [plF, if_neg h]
  rw [plF_more n _ (l.drop (dec l).2) (by rw [List.length_drop]; omega) (Nat.le_refl _)]

/-- Induction along the places. -/
theorem pl_induct {P : List UInt8 → Prop} (h0 : P []) (h1 : ∀ l, l ≠ [] → P (l.drop (dec l).2) → P l) (l : List UInt8) : P l := by
  have : ∀ n, ∀ l : List UInt8, l.length ≤ n → P l := by
    intro n
    induction n with
    | zero => intro l hl; have : l = [] := List.length_eq_zero_iff.mp (by omega); subst this; exact h0
    | succ n ih =>
      intro l hl
      by_cases h : l = []
      · subst h; exact h0
      · exact h1 l h (ih _ (by have := dec_width l h; rw [List.length_drop]; omega))
  exact this l.length l (Nat.le_refl _)

theorem pl_join (l : List UInt8) : (pl l).flatMap enc = l := by
  induction l using pl_induct with
  | h0 => rfl
  | h1 l h ih => rw [pl_cons l h, List.flatMap_cons, ih, dec_take l h]

theorem pl_inj (a b : List UInt8) (h : pl a = pl b) : a = b := by rw [← pl_join a, h, pl_join b]

theorem pl_okp (l : List UInt8) : ∀ p ∈ pl l, okp p := by
  induction l using pl_induct with
  | h0 => intro p hp; cases hp
  | h1 l h ih =>
    rw [pl_cons l h]
    intro p hp
    rcases List.mem_cons.1 hp with rfl | hp
    · exact dec_okp l h
    · exact ih p hp

theorem pl_le (l : List UInt8) : (pl l).length ≤ l.length := by
  induction l using pl_induct with
  | h0 => simp [pl_nil]
  | h1 l h ih =>
    rw [pl_cons l h]
    have := dec_width l h
    rw [List.length_drop] at ih
    rw [List.length_cons]
    omega

theorem pl_ne (l : List UInt8) (h : l ≠ []) : pl l ≠ [] := by rw [pl_cons l h]; simp

theorem enc_ne (p : Nat) (r : List UInt8) : enc p ++ r ≠ [] := by
  intro h
  have := enc_length p
  have h2 := congrArg List.length h
  rw [List.length_append] at h2
  simp only [List.length_nil] at h2
  omega

/-- Runes, and whatever behind them, are read as these runes. -/
theorem pl_enc (Q : List Nat) (h : ∀ p ∈ Q, okv p) (r : List UInt8) : pl (Q.flatMap enc ++ r) = Q ++ pl r := by
  induction Q with
  | nil => rfl
  | cons p Q ih =>
    rw [List.flatMap_cons, List.append_assoc, pl_cons _ (enc_ne _ _), dec_enc p (h p List.mem_cons_self), List.drop_append_of_le_length (Nat.le_refl _), List.drop_length, List.nil_append, ih (fun q hq => h q (List.mem_cons_of_mem _ hq))]
    rfl

/-- No broken byte. -/
def whole (l : List UInt8) : Prop := ∀ p ∈ pl l, p < 1114112
theorem whole_okv {l : List UInt8} (h : whole l) : ∀ p ∈ pl l, okv p := fun p hp => by
  rcases pl_okp l p hp with h1 | h1
  · exact h1
  · have := h p hp; omega

theorem pl_app (a b : List UInt8) (h : whole a) : pl (a ++ b) = pl a ++ pl b := by
  have := pl_enc (pl a) (whole_okv h) b
  rw [pl_join] at this
  exact this

/-- A continuation byte at the head is broken. -/
theorem dec_cont (x : UInt8) (t : List UInt8) (h : 128 ≤ x.toNat) (k : x.toNat < 192) : dec (x :: t) = (1114112 + x.toNat, 1) := by
  unfold dec dec4
  have h0 : byt (x :: t) 0 = x.toNat := rfl
  rw [h0, if_neg (by omega), if_neg (by omega), if_neg (by omega), if_neg (by omega)]
theorem cnt_cont (x : UInt8) (t : List UInt8) (h : 128 ≤ x.toNat) (k : x.toNat < 192) : (pl (x :: t)).length = 1 + (pl t).length := by
  rw [pl_cons _ (by simp), dec_cont x t h k]
  simp [List.drop]
  omega

/-- Of two texts, one behind the other, there are no more than of both. -/
theorem cnt_app (a b : List UInt8) : (pl (a ++ b)).length ≤ (pl a).length + (pl b).length := by
  induction a using pl_induct with
  | h0 => simp [pl_nil]
  | h1 a h ih =>
    have hab : a ++ b ≠ [] := by simp [h]
    have hla : (pl a).length = 1 + (pl (a.drop (dec a).2)).length := by rw [pl_cons a h, List.length_cons]; omega
    rcases Nat.lt_or_ge (dec a).1 1114112 with hw | hw
    · have ho : okv (dec a).1 := by rcases dec_okp a h with h1 | h1; exact h1; omega
      have e : pl (a ++ b) = (dec a).1 :: pl (a.drop (dec a).2 ++ b) := by
        have := pl_enc [(dec a).1] (fun p hp => by rw [List.mem_singleton.1 hp]; exact ho) (a.drop (dec a).2 ++ b)
        rw [List.flatMap_cons, List.flatMap_nil, List.append_nil, ← List.append_assoc, dec_take a h] at this
        exact this
      rw [e, List.length_cons]
      omega
    · -- a begins with a broken byte
      have hd1 : (dec a).2 = 1 := by
        rcases dec_ways a h with ⟨x, t, rfl, h1, e⟩ | ⟨x, y, t, rfl, h1, h2, h3, h4, e⟩ | ⟨x, y, z, t, rfl, h1, h2, h3, h4, h5, h6, h7, h8, e⟩ | ⟨x, y, z, u, t, rfl, h1, h2, h3, h4, h5, h6, h7, h8, h9, h10, e⟩ | ⟨x, t, rfl, h1, e⟩
        all_goals (rw [e] at hw ⊢; try rfl)
        all_goals (simp only at hw; omega)
      rw [hd1] at hla ih
      obtain ⟨x, t, rfl⟩ : ∃ x t, a = x :: t := by
        cases a with
        | nil => exact absurd rfl h
        | cons x t => exact ⟨x, t, rfl⟩
      rw [show (x :: t).drop 1 = t from rfl] at hla ih
      have one : ∀ q, dec (x :: t ++ b) = (q, 1) → (pl (x :: t ++ b)).length ≤ (pl (x :: t)).length + (pl b).length := fun q e => by
        rw [pl_cons _ hab, e, List.length_cons, show (x :: t ++ b).drop 1 = t ++ b from rfl]
        omega
      rcases dec_ways (x :: t ++ b) hab with ⟨x', t', e0, h1, e⟩ | ⟨x', y, t', e0, h1, h2, h3, h4, e⟩ | ⟨x', y, z, t', e0, h1, h2, h3, h4, h5, h6, h7, h8, e⟩ | ⟨x', y, z, u, t', e0, h1, h2, h3, h4, h5, h6, h7, h8, h9, h10, e⟩ | ⟨x', t', e0, h1, e⟩
      · exact one _ e
      · rw [List.cons_append] at e0
        obtain ⟨rfl, e1⟩ := List.cons.inj e0
        match t, e1 with
        | [], e1 =>
          rw [List.nil_append] at e1
          subst e1
          rw [pl_cons _ hab, e, List.length_cons]
          have := cnt_cont y t' h3 h4
          show (pl t').length + 1 ≤ _
          omega
        | y' :: t, e1 =>
          obtain ⟨rfl, e2⟩ := List.cons.inj e1
          exfalso
          have : dec (x :: y' :: t) = ((x.toNat - 192) * 64 + (y'.toNat - 128), 2) := by
            unfold dec dec4
            rw [show byt (x :: y' :: t) 0 = x.toNat from rfl, show byt (x :: y' :: t) 1 = y'.toNat from rfl, if_neg (by omega), if_pos ⟨h1, h2, h3, h4⟩]
          rw [this] at hw
          simp only at hw
          omega
      · rw [List.cons_append] at e0
        obtain ⟨rfl, e1⟩ := List.cons.inj e0
        match t, e1 with
        | [], e1 =>
          rw [List.nil_append] at e1
          subst e1
          rw [pl_cons _ hab, e, List.length_cons]
          have q1 := cnt_cont y (z :: t') h3 h4
          have q2 := cnt_cont z t' h5 h6
          show (pl t').length + 1 ≤ _
          omega
        | [y'], e1 =>
          obtain ⟨rfl, e2⟩ := List.cons.inj e1
          have e2' : b = _ := e2
          subst e2'
          rw [pl_cons _ hab, e, List.length_cons]
          have q2 := cnt_cont z t' h5 h6
          show (pl t').length + 1 ≤ _
          omega
        | y' :: z' :: t, e1 =>
          obtain ⟨rfl, e2⟩ := List.cons.inj e1
          obtain ⟨rfl, e3⟩ := List.cons.inj e2
          exfalso
          have : dec (x :: y' :: z' :: t) = ((x.toNat - 224) * 4096 + (y'.toNat - 128) * 64 + (z'.toNat - 128), 3) := by
            unfold dec dec4
            rw [show byt (x :: y' :: z' :: t) 0 = x.toNat from rfl, show byt (x :: y' :: z' :: t) 1 = y'.toNat from rfl, show byt (x :: y' :: z' :: t) 2 = z'.toNat from rfl, if_neg (by omega), if_neg (by omega), if_pos ⟨h1, h2, h3, h4, h5, h6, h7, h8⟩]
          rw [this] at hw
          simp only at hw
          omega
      · rw [List.cons_append] at e0
        obtain ⟨rfl, e1⟩ := List.cons.inj e0
        match t, e1 with
        | [], e1 =>
          rw [List.nil_append] at e1
          subst e1
          rw [pl_cons _ hab, e, List.length_cons]
          have q1 := cnt_cont y (z :: u :: t') h3 h4
          have q2 := cnt_cont z (u :: t') h5 h6
          have q3 := cnt_cont u t' h7 h8
          show (pl t').length + 1 ≤ _
          omega
        | [y'], e1 =>
          obtain ⟨rfl, e2⟩ := List.cons.inj e1
          have e2' : b = _ := e2
          subst e2'
          rw [pl_cons _ hab, e, List.length_cons]
          have q2 := cnt_cont z (u :: t') h5 h6
          have q3 := cnt_cont u t' h7 h8
          show (pl t').length + 1 ≤ _
          omega
        | [y', z'], e1 =>
          obtain ⟨rfl, e2⟩ := List.cons.inj e1
          obtain ⟨rfl, e3⟩ := List.cons.inj e2
          have e3' : b = _ := e3
          subst e3'
          rw [pl_cons _ hab, e, List.length_cons]
          have q3 := cnt_cont u t' h7 h8
          show (pl t').length + 1 ≤ _
          omega
        | y' :: z' :: u' :: t, e1 =>
          obtain ⟨rfl, e2⟩ := List.cons.inj e1
          obtain ⟨rfl, e3⟩ := List.cons.inj e2
          obtain ⟨rfl, e4⟩ := List.cons.inj e3
          exfalso
          have : dec (x :: y' :: z' :: u' :: t) = ((x.toNat - 240) * 262144 + (y'.toNat - 128) * 4096 + (z'.toNat - 128) * 64 + (u'.toNat - 128), 4) := by
            unfold dec dec4
            rw [show byt (x :: y' :: z' :: u' :: t) 0 = x.toNat from rfl, show byt (x :: y' :: z' :: u' :: t) 1 = y'.toNat from rfl, show byt (x :: y' :: z' :: u' :: t) 2 = z'.toNat from rfl, show byt (x :: y' :: z' :: u' :: t) 3 = u'.toNat from rfl, if_neg (by omega), if_neg (by omega), if_neg (by omega), if_pos ⟨h1, h2, h3, h4, h5, h6, h7, h8, h9, h10⟩]
          rw [this] at hw
          simp only at hw
          omega
      · exact one _ e

end Go.Proofs.Ytphbkbjgjicncaa.nm
