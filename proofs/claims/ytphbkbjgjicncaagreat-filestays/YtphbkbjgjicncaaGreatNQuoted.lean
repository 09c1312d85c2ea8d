/-
  Plain facts on what is quoted and unquoted, on the order of texts, and on names.
-/
import Derived.Test.YtphbkbjgjicncaaGreatNMath
import Derived.Lib.Strings
namespace Go.Proofs.YtphbkbjgjicncaaGreat.nm

/-- A digit of 16, as its rune. -/
def dg (n : Nat) : Nat := if n < 10 then 48 + n else 87 + n
/-- A digit's number; 255 of any other byte. -/
def hxv (c : Nat) : Nat := if 48 ≤ c ∧ c ≤ 57 then c - 48 else if 97 ≤ c ∧ c ≤ 102 then c - 87 else 255
theorem hxv_dg (n : Nat) (h : n < 16) : hxv (dg n) = n := by unfold hxv dg; split <;> (repeat' split) <;> omega
theorem dg_rng (n : Nat) (h : n < 16) : 48 ≤ dg n ∧ dg n ≤ 102 := by unfold dg; split <;> omega
theorem hxv_cases (c : Nat) : hxv c < 16 ∨ hxv c = 255 := by
  unfold hxv
  split
  · omega
  · split <;> omega

/-- The byte of a place that is told by its digits. -/
def low (p : Nat) : Nat := if 1114112 ≤ p then p - 1114112 else p
/-- The runes by which a place is shown. -/
def pp (p : Nat) : List Nat :=
  if p = 34 ∨ p = 92 then [92, p]
  else if p = 10 then [92, 110]
  else if p < 32 ∨ p = 127 ∨ 1114112 ≤ p then [92, 120, dg (low p / 16), dg (low p % 16)]
  else [p]
def shown (l : List UInt8) : List Nat := 34 :: ((pl l).flatMap pp ++ [34])
def quote (l : List UInt8) : List UInt8 := (shown l).flatMap enc

theorem okv_small (p : Nat) (h : p < 55296) : okv p := ⟨by omega, by omega⟩

theorem low_lt (p : Nat) (h : okp p) (k : p < 32 ∨ p = 127 ∨ 1114112 ≤ p) : low p < 256 := by
  unfold low; unfold okp okv at h; split <;> omega

theorem pp_ok (p : Nat) (h : okp p) : ∀ q ∈ pp p, okv q ∧ 32 ≤ q := by
  intro q hq
  unfold pp at hq
  split at hq
  · simp only [List.mem_cons, List.not_mem_nil, or_false] at hq
    rcases hq with rfl | rfl
    · exact ⟨okv_small _ (by omega), by omega⟩
    · exact ⟨okv_small _ (by omega), by omega⟩
  split at hq
  · simp only [List.mem_cons, List.not_mem_nil, or_false] at hq
    rcases hq with rfl | rfl
    · exact ⟨okv_small _ (by omega), by omega⟩
    · exact ⟨okv_small _ (by omega), by omega⟩
  split at hq
  · rename_i k
    have hl := low_lt p h k
    have r1 := dg_rng (low p / 16) (by omega)
    have r2 := dg_rng (low p % 16) (by omega)
    simp only [List.mem_cons, List.not_mem_nil, or_false] at hq
    rcases hq with rfl | rfl | rfl | rfl
    all_goals exact ⟨okv_small _ (by omega), by omega⟩
  · rename_i k
    rw [List.mem_singleton] at hq
    subst hq
    unfold okp at h
    rcases h with h | h
    · exact ⟨h, by omega⟩
    · omega

theorem shown_ok (l : List UInt8) : ∀ q ∈ shown l, okv q ∧ 32 ≤ q := by
  intro q hq
  unfold shown at hq
  rcases List.mem_cons.1 hq with rfl | hq
  · exact ⟨okv_small _ (by omega), by omega⟩
  rcases List.mem_append.1 hq with hq | hq
  · obtain ⟨p, hp, hq⟩ := List.mem_flatMap.1 hq
    exact pp_ok p (pl_okp l p hp) q hq
  · rw [List.mem_singleton] at hq
    subst hq
    exact ⟨okv_small _ (by omega), by omega⟩

/-- The runes of what is quoted. -/
theorem pl_quote (l : List UInt8) : pl (quote l) = shown l := by
  have h := pl_enc (shown l) (fun p hp => (shown_ok l p hp).1) []
  rw [List.append_nil, pl_nil, List.append_nil] at h
  exact h

def body (l : List UInt8) : List UInt8 := ((pl l).flatMap pp).flatMap enc
theorem enc34 : enc 34 = [34] := by decide
theorem quote_eq (l : List UInt8) : quote l = 34 :: (body l ++ [34]) := by
  unfold quote shown body
  rw [List.flatMap_cons, List.flatMap_append, enc34, List.flatMap_cons, List.flatMap_nil, enc34]
  rfl

/-- What a backslash at the head means: a byte, and how many bytes tell it. -/
def ebyte (h k : Nat) : Nat := if h < 16 ∧ k < 16 then h * 16 + k else if h < 16 then 255 else if k < 16 then 240 + k else 255
def esc (l : List UInt8) : Nat × Nat :=
  if l.length < 2 then (92, 1)
  else if byt l 1 = 110 then (10, 2)
  else if byt l 1 = 120 ∧ 4 ≤ l.length then (ebyte (hxv (byt l 2)) (hxv (byt l 3)), 4)
  else (byt l 1, 2)
/-- The rune that a range tells of a place. -/
def rn (p : Nat) : Nat := if 1114112 ≤ p then 65533 else p

def mntF : Nat → List UInt8 → Nat → List UInt8
  | 0, _, _ => []
  | f + 1, l, k =>
    if l = [] then []
    else if 0 < k then mntF f (l.drop (dec l).2) (k - (dec l).2)
    else if (dec l).1 = 92 then b8 (esc l).1 :: mntF f (l.drop (dec l).2) ((esc l).2 - (dec l).2)
    else enc (rn (dec l).1) ++ mntF f (l.drop (dec l).2) 0
def mnt (l : List UInt8) (k : Nat) : List UInt8 := mntF l.length l k

theorem mntF_more (f g : Nat) (l : List UInt8) (k : Nat) (hf : l.length ≤ f) (hg : l.length ≤ g) : mntF f l k = mntF g l k := by
  induction f generalizing g l k with
  | zero =>
    have : l = [] := List.length_eq_zero_iff.mp (by omega)
    subst this
    cases g <;> simp [mntF]
  | succ f ih =>
    by_cases h : l = []
    · subst h
      cases g <;> simp [mntF]
    · have hw := dec_width l h
      obtain ⟨g', rfl⟩ : ∃ g', g = g' + 1 := ⟨g - 1, by omega⟩
      have hl : (l.drop (dec l).2).length ≤ f := by rw [List.length_drop]; omega
      have hl' : (l.drop (dec l).2).length ≤ g' := by rw [List.length_drop]; omega
      simp only [mntF, if_neg h]
      rw [ih g' _ _ hl hl', ih g' _ _ hl hl', ih g' _ _ hl hl']

theorem mnt_nil (k : Nat) : mnt [] k = [] := rfl
theorem mnt_cons (l : List UInt8) (k : Nat) (h : l ≠ []) : mnt l k =
    if 0 < k then mnt (l.drop (dec l).2) (k - (dec l).2)
    else if (dec l).1 = 92 then b8 (esc l).1 :: mnt (l.drop (dec l).2) ((esc l).2 - (dec l).2)
    else enc (rn (dec l).1) ++ mnt (l.drop (dec l).2) 0 := by
  have hw := dec_width l h
  unfold mnt
  obtain ⟨n, hn⟩ : ∃ n, l.length = n + 1 := ⟨l.length - 1, by omega⟩
  have hl : (l.drop (dec l).2).length ≤ n := by rw [List.length_drop]; omega
  conv => lhs; rw [hn]
  simp only [mntF, if_neg h]
  rw [mntF_more n _ _ _ hl (Nat.le_refl _), mntF_more n _ _ _ hl (Nat.le_refl _), mntF_more n _ _ _ hl (Nat.le_refl _)]
theorem mnt_skip (l : List UInt8) (k : Nat) (h : l ≠ []) (hk : 0 < k) : mnt l k = mnt (l.drop (dec l).2) (k - (dec l).2) := by rw [mnt_cons l k h, if_pos hk]
theorem mnt_esc (l : List UInt8) (h : l ≠ []) (hp : (dec l).1 = 92) : mnt l 0 = b8 (esc l).1 :: mnt (l.drop (dec l).2) ((esc l).2 - (dec l).2) := by
  rw [mnt_cons l 0 h, if_neg (by omega), if_pos hp]
theorem mnt_rune (l : List UInt8) (h : l ≠ []) (hp : (dec l).1 ≠ 92) : mnt l 0 = enc (rn (dec l).1) ++ mnt (l.drop (dec l).2) 0 := by
  rw [mnt_cons l 0 h, if_neg (by omega), if_neg hp]

/-- A plain byte at the head. -/
theorem dec_low (c : Nat) (h : c < 128) (r : List UInt8) : dec (b8 c :: r) = (c, 1) := by
  unfold dec dec4
  have h0 : byt (b8 c :: r) 0 = c := b8_toNat c (by omega)
  rw [h0, if_pos h]
theorem mnt_skip_low (c k : Nat) (h : c < 128) (r : List UInt8) : mnt (b8 c :: r) (k + 1) = mnt r k := by
  rw [mnt_skip _ _ (by simp) (by omega), dec_low c h]; rfl
theorem enc_low (c : Nat) (h : c < 128) : enc c = [b8 c] := by unfold enc; rw [if_neg (by omega), if_pos h]

theorem mnt_pp (p : Nat) (h : okp p) (r : List UInt8) : mnt ((pp p).flatMap enc ++ r) 0 = enc p ++ mnt r 0 := by
  unfold pp
  split
  · rename_i k
    have hp : p < 128 := by omega
    have e : [92, p].flatMap enc ++ r = b8 92 :: b8 p :: r := by simp [List.flatMap_cons, enc_low 92 (by omega), enc_low p hp]
    rw [e, mnt_esc _ (by simp) (by rw [dec_low 92 (by omega)]), dec_low 92 (by omega), enc_low p hp]
    have h1 : byt (b8 92 :: b8 p :: r) 1 = p := b8_toNat p (by omega)
    have e2 : esc (b8 92 :: b8 p :: r) = (p, 2) := by
      unfold esc
      rw [h1, if_neg (by simp), if_neg (by omega), if_neg (by omega)]
    rw [e2]
    show b8 p :: mnt (b8 p :: r) 1 = b8 p :: mnt r 0
    rw [mnt_skip_low p 0 hp]
  split
  · rename_i _ k
    subst k
    have e : [92, 110].flatMap enc ++ r = b8 92 :: b8 110 :: r := by simp [List.flatMap_cons, enc_low 92 (by omega), enc_low 110 (by omega)]
    rw [e, mnt_esc _ (by simp) (by rw [dec_low 92 (by omega)]), dec_low 92 (by omega), enc_low 10 (by omega)]
    have h1 : byt (b8 92 :: b8 110 :: r) 1 = 110 := b8_toNat 110 (by omega)
    have e2 : esc (b8 92 :: b8 110 :: r) = (10, 2) := by
      unfold esc
      rw [h1, if_neg (by simp), if_pos rfl]
    rw [e2]
    show b8 10 :: mnt (b8 110 :: r) 1 = b8 10 :: mnt r 0
    rw [mnt_skip_low 110 0 (by omega)]
  split
  · rename_i k
    have hl := low_lt p h k
    have r1 := dg_rng (low p / 16) (by omega)
    have r2 := dg_rng (low p % 16) (by omega)
    have e : [92, 120, dg (low p / 16), dg (low p % 16)].flatMap enc ++ r = b8 92 :: b8 120 :: b8 (dg (low p / 16)) :: b8 (dg (low p % 16)) :: r := by
      simp [List.flatMap_cons, enc_low 92 (by omega), enc_low 120 (by omega), enc_low (dg (low p / 16)) (by omega), enc_low (dg (low p % 16)) (by omega)]
    rw [e, mnt_esc _ (by simp) (by rw [dec_low 92 (by omega)]), dec_low 92 (by omega)]
    have h1 : byt (b8 92 :: b8 120 :: b8 (dg (low p / 16)) :: b8 (dg (low p % 16)) :: r) 1 = 120 := b8_toNat 120 (by omega)
    have h2 : byt (b8 92 :: b8 120 :: b8 (dg (low p / 16)) :: b8 (dg (low p % 16)) :: r) 2 = dg (low p / 16) := b8_toNat _ (by omega)
    have h3 : byt (b8 92 :: b8 120 :: b8 (dg (low p / 16)) :: b8 (dg (low p % 16)) :: r) 3 = dg (low p % 16) := b8_toNat _ (by omega)
    have e2 : esc (b8 92 :: b8 120 :: b8 (dg (low p / 16)) :: b8 (dg (low p % 16)) :: r) = (low p, 4) := by
      unfold esc
      rw [h1, h2, h3, hxv_dg _ (by omega), hxv_dg _ (by omega), if_neg (by simp), if_neg (by omega), if_pos ⟨rfl, by simp⟩]
      unfold ebyte
      rw [if_pos ⟨by omega, by omega⟩]
      refine Prod.ext ?_ rfl
      show low p / 16 * 16 + low p % 16 = low p
      omega
    rw [e2]
    show b8 (low p) :: mnt (b8 120 :: b8 (dg (low p / 16)) :: b8 (dg (low p % 16)) :: r) 3 = enc p ++ mnt r 0
    rw [mnt_skip_low 120 2 (by omega), mnt_skip_low _ 1 (by omega), mnt_skip_low _ 0 (by omega)]
    have e3 : enc p = [b8 (low p)] := by
      unfold enc low
      split
      · rfl
      · rw [if_pos (by omega)]
    rw [e3]
    rfl
  · rename_i k1 k2 k3
    have ho : okv p := by unfold okp at h; rcases h with h | h; exact h; omega
    have e : [p].flatMap enc ++ r = enc p ++ r := by simp [List.flatMap_cons]
    rw [e, mnt_rune _ (enc_ne _ _) (by rw [dec_enc p ho]; simp only; omega), dec_enc p ho, List.drop_append_of_le_length (Nat.le_refl _), List.drop_length, List.nil_append]
    have : rn p = p := by unfold rn; rw [if_neg (by omega)]
    rw [this]

theorem mnt_pps (ps : List Nat) (h : ∀ p ∈ ps, okp p) : mnt ((ps.flatMap pp).flatMap enc) 0 = ps.flatMap enc := by
  induction ps with
  | nil => rfl
  | cons p ps ih => rw [List.flatMap_cons, List.flatMap_append, mnt_pp p (h p List.mem_cons_self), ih (fun q hq => h q (List.mem_cons_of_mem _ hq)), List.flatMap_cons]

def trim (l : List UInt8) : List UInt8 := Lib.trimSuffix (Lib.trimPrefix l [34]) [34]
theorem trim_quote (l : List UInt8) : trim (quote l) = body l := by
  rw [quote_eq]
  unfold trim Lib.trimPrefix Lib.hasPrefix
  rw [if_pos (by simp [List.isPrefixOf])]
  unfold Lib.trimSuffix Lib.hasSuffix
  rw [if_pos (by simp [List.isSuffixOf, List.isPrefixOf])]
  simp

def meant (l : List UInt8) : List UInt8 := mnt (trim l) 0
theorem meant_quote (t : List UInt8) : meant (quote t) = t := by
  unfold meant
  rw [trim_quote]
  unfold body
  rw [mnt_pps _ (pl_okp t), pl_join]

theorem quote_inj (a b : List UInt8) (h : quote a = quote b) : a = b := by rw [← meant_quote a, h, meant_quote b]

/-- What is shown so. -/
def unq (l : List UInt8) : List UInt8 × Bool := if quote (meant l) = l then (meant l, true) else ([], false)
theorem unq_quote (t : List UInt8) : unq (quote t) = (t, true) := by unfold unq; rw [meant_quote, if_pos rfl]
theorem unq_none (l : List UInt8) (h : ∀ t, quote t ≠ l) : unq l = ([], false) := by unfold unq; rw [if_neg (h _)]
theorem unq_some (l : List UInt8) (h : (unq l).2 = true) : quote (unq l).1 = l := by
  unfold unq at *
  split
  · rename_i k; exact k
  · rename_i k; rw [if_neg k] at h; cases h

/-! By bytes, as the reference does it. -/
def unbF : Nat → List UInt8 → Option (List UInt8)
  | 0, _ => some []
  | f + 1, l =>
    if l = [] then some []
    else if byt l 0 ≠ 92 then (unbF f (l.drop 1)).map (b8 (byt l 0) :: ·)
    else if l.length < 2 then none
    else if byt l 1 = 110 then (unbF f (l.drop 2)).map (10 :: ·)
    else if byt l 1 = 120 ∧ 4 ≤ l.length ∧ hxv (byt l 2) < 16 ∧ hxv (byt l 3) < 16 then (unbF f (l.drop 4)).map (b8 (hxv (byt l 2) * 16 + hxv (byt l 3)) :: ·)
    else (unbF f (l.drop 2)).map (b8 (byt l 1) :: ·)
def unb (l : List UInt8) : Option (List UInt8) := unbF l.length l

theorem unbF_more (f g : Nat) (l : List UInt8) (hf : l.length ≤ f) (hg : l.length ≤ g) : unbF f l = unbF g l := by
  induction f generalizing g l with
  | zero =>
    have : l = [] := List.length_eq_zero_iff.mp (by omega)
    subst this
    cases g <;> simp [unbF]
  | succ f ih =>
    by_cases h : l = []
    · subst h
      cases g <;> simp [unbF]
    · have hl : 0 < l.length := List.length_pos_iff.mpr h
      obtain ⟨g', rfl⟩ : ∃ g', g = g' + 1 := ⟨g - 1, by omega⟩
      simp only [unbF, if_neg h]
      rw [ih g' (l.drop 1) (by rw [List.length_drop]; omega) (by rw [List.length_drop]; omega), ih g' (l.drop 2) (by rw [List.length_drop]; omega) (by rw [List.length_drop]; omega), ih g' (l.drop 4) (by rw [List.length_drop]; omega) (by rw [List.length_drop]; omega)]
theorem unb_nil : unb [] = some [] := rfl
theorem unb_cons (l : List UInt8) (h : l ≠ []) : unb l =
    if byt l 0 ≠ 92 then (unb (l.drop 1)).map (b8 (byt l 0) :: ·)
    else if l.length < 2 then none
    else if byt l 1 = 110 then (unb (l.drop 2)).map (10 :: ·)
    else if byt l 1 = 120 ∧ 4 ≤ l.length ∧ hxv (byt l 2) < 16 ∧ hxv (byt l 3) < 16 then (unb (l.drop 4)).map (b8 (hxv (byt l 2) * 16 + hxv (byt l 3)) :: ·)
    else (unb (l.drop 2)).map (b8 (byt l 1) :: ·) := by
  have hl : 0 < l.length := List.length_pos_iff.mpr h
  unfold unb
  obtain ⟨n, hn⟩ : ∃ n, l.length = n + 1 := ⟨l.length - 1, by omega⟩
  conv => lhs; rw [hn]
  simp only [unbF, if_neg h]
  rw [unbF_more n _ (l.drop 1) (by rw [List.length_drop]; omega) (Nat.le_refl _), unbF_more n _ (l.drop 2) (by rw [List.length_drop]; omega) (Nat.le_refl _), unbF_more n _ (l.drop 4) (by rw [List.length_drop]; omega) (Nat.le_refl _)]

/-- Bytes that are no backslash. -/
theorem unb_plain (c : List UInt8) (h : ∀ x ∈ c, x.toNat ≠ 92) (r : List UInt8) : unb (c ++ r) = (unb r).map (c ++ ·) := by
  induction c with
  | nil => simp
  | cons x c ih =>
    rw [List.cons_append, unb_cons _ (by simp)]
    have h0 : byt (x :: (c ++ r)) 0 = x.toNat := rfl
    rw [h0, if_pos (h x List.mem_cons_self), b8_eq x _ rfl, show (x :: (c ++ r)).drop 1 = c ++ r from rfl, ih (fun y hy => h y (List.mem_cons_of_mem _ hy)), Option.map_map]
    rfl

/-- Bytes of a rune: itself, or all from 128 on. -/
theorem enc_bytes (p : Nat) (h : okv p) : ∀ x ∈ enc p, (p < 128 ∧ x.toNat = p) ∨ (128 ≤ p ∧ 128 ≤ x.toNat) := by
  unfold okv at h
  intro x hx
  unfold enc at hx
  rw [if_neg (by omega)] at hx
  split at hx
  · rw [List.mem_singleton] at hx
    subst hx
    rw [b8_toNat _ (by omega)]
    omega
  split at hx
  · simp only [List.mem_cons, List.not_mem_nil, or_false] at hx
    rcases hx with rfl | rfl
    all_goals rw [b8_toNat _ (by omega)]; omega
  split at hx
  · simp only [List.mem_cons, List.not_mem_nil, or_false] at hx
    rcases hx with rfl | rfl | rfl
    all_goals rw [b8_toNat _ (by omega)]; omega
  · simp only [List.mem_cons, List.not_mem_nil, or_false] at hx
    rcases hx with rfl | rfl | rfl | rfl
    all_goals rw [b8_toNat _ (by omega)]; omega

theorem unb_pp (p : Nat) (h : okp p) (r : List UInt8) : unb ((pp p).flatMap enc ++ r) = (unb r).map (enc p ++ ·) := by
  unfold pp
  split
  · rename_i k
    have hp : p < 128 := by omega
    have e : [92, p].flatMap enc ++ r = b8 92 :: b8 p :: r := by simp [List.flatMap_cons, enc_low 92 (by omega), enc_low p hp]
    have h0 : byt (b8 92 :: b8 p :: r) 0 = 92 := b8_toNat 92 (by omega)
    have h1 : byt (b8 92 :: b8 p :: r) 1 = p := b8_toNat p (by omega)
    rw [e, unb_cons _ (by simp), h0, h1, if_neg (by omega), if_neg (by simp), if_neg (by omega), if_neg (by omega), enc_low p hp]
    rfl
  split
  · rename_i _ k
    subst k
    have e : [92, 110].flatMap enc ++ r = b8 92 :: b8 110 :: r := by simp [List.flatMap_cons, enc_low 92 (by omega), enc_low 110 (by omega)]
    have h0 : byt (b8 92 :: b8 110 :: r) 0 = 92 := b8_toNat 92 (by omega)
    have h1 : byt (b8 92 :: b8 110 :: r) 1 = 110 := b8_toNat 110 (by omega)
    rw [e, unb_cons _ (by simp), h0, h1, if_neg (by omega), if_neg (by simp), if_pos rfl, enc_low 10 (by omega)]
    rfl
  split
  · rename_i k
    have hl := low_lt p h k
    have r1 := dg_rng (low p / 16) (by omega)
    have r2 := dg_rng (low p % 16) (by omega)
    have e : [92, 120, dg (low p / 16), dg (low p % 16)].flatMap enc ++ r = b8 92 :: b8 120 :: b8 (dg (low p / 16)) :: b8 (dg (low p % 16)) :: r := by
      simp [List.flatMap_cons, enc_low 92 (by omega), enc_low 120 (by omega), enc_low (dg (low p / 16)) (by omega), enc_low (dg (low p % 16)) (by omega)]
    have h0 : byt (b8 92 :: b8 120 :: b8 (dg (low p / 16)) :: b8 (dg (low p % 16)) :: r) 0 = 92 := b8_toNat 92 (by omega)
    have h1 : byt (b8 92 :: b8 120 :: b8 (dg (low p / 16)) :: b8 (dg (low p % 16)) :: r) 1 = 120 := b8_toNat 120 (by omega)
    have h2 : byt (b8 92 :: b8 120 :: b8 (dg (low p / 16)) :: b8 (dg (low p % 16)) :: r) 2 = dg (low p / 16) := b8_toNat _ (by omega)
    have h3 : byt (b8 92 :: b8 120 :: b8 (dg (low p / 16)) :: b8 (dg (low p % 16)) :: r) 3 = dg (low p % 16) := b8_toNat _ (by omega)
    rw [e, unb_cons _ (by simp), h0, h1, h2, h3, hxv_dg _ (by omega), hxv_dg _ (by omega), if_neg (by omega), if_neg (by simp), if_neg (by omega), if_pos ⟨rfl, by simp, by omega, by omega⟩]
    have e2 : low p / 16 * 16 + low p % 16 = low p := by omega
    have e3 : enc p = [b8 (low p)] := by
      unfold enc low
      split
      · rfl
      · rw [if_pos (by omega)]
    rw [e2, e3]
    rfl
  · rename_i k1 k2 k3
    have ho : okv p := by unfold okp at h; rcases h with h | h; exact h; omega
    have e : [p].flatMap enc ++ r = enc p ++ r := by simp [List.flatMap_cons]
    rw [e, unb_plain _ (fun x hx => by have := enc_bytes p ho x hx; omega)]

theorem unb_pps (ps : List Nat) (h : ∀ p ∈ ps, okp p) : unb ((ps.flatMap pp).flatMap enc) = some (ps.flatMap enc) := by
  induction ps with
  | nil => rfl
  | cons p ps ih => rw [List.flatMap_cons, List.flatMap_append, unb_pp p (h p List.mem_cons_self), ih (fun q hq => h q (List.mem_cons_of_mem _ hq)), List.flatMap_cons]; rfl

theorem unb_body (t : List UInt8) : unb (body t) = some t := by
  unfold body
  rw [unb_pps _ (pl_okp t), pl_join]

/-- The reference's answer is the program's. -/
def mid (l : List UInt8) : List UInt8 := (l.drop 1).take (l.length - 2)
theorem mid_quote (t : List UInt8) : mid (quote t) = body t := by
  rw [quote_eq]
  unfold mid
  rw [show (34 :: (body t ++ [34])).drop 1 = body t ++ [34] from rfl, show (34 :: (body t ++ [34])).length - 2 = (body t).length by simp, List.take_append_of_le_length (Nat.le_refl _), List.take_length]
theorem quote_len (t : List UInt8) : 2 ≤ (quote t).length := by rw [quote_eq]; simp
theorem quote_first (t : List UInt8) : byt (quote t) 0 = 34 := by rw [quote_eq]; rfl
theorem quote_last (t : List UInt8) : byt (quote t) ((quote t).length - 1) = 34 := by
  rw [quote_eq]
  unfold byt
  rw [List.getD_eq_getElem?_getD]
  simp

/-! The order. -/
def lxl : List Nat → List Nat → Bool
  | _, [] => false
  | [], _ :: _ => true
  | x :: xs, y :: ys => if x = y then lxl xs ys else decide (x < y)
theorem lxl_nil (x : List Nat) : lxl x [] = false := by cases x <;> rfl
theorem lxl_first (y : Nat) (ys : List Nat) : lxl [] (y :: ys) = true := rfl
theorem lxl_same (x : Nat) (xs ys : List Nat) : lxl (x :: xs) (x :: ys) = lxl xs ys := by simp [lxl]
theorem lxl_ne (x y : Nat) (xs ys : List Nat) (h : x ≠ y) : lxl (x :: xs) (y :: ys) = decide (x < y) := by simp [lxl, h]
theorem lxl_not (x y : List Nat) : ¬ (lxl x y = true ∧ lxl y x = true) := by
  induction x generalizing y with
  | nil => rintro ⟨h, k⟩; rw [lxl_nil] at k; cases k
  | cons a x ih =>
    cases y with
    | nil => rintro ⟨h, k⟩; cases h
    | cons b y =>
      rintro ⟨h, k⟩
      by_cases e : a = b
      · subst e
        rw [lxl_same] at h k
        exact ih y ⟨h, k⟩
      · rw [lxl_ne _ _ _ _ e] at h
        rw [lxl_ne _ _ _ _ (Ne.symm e)] at k
        simp at h k
        omega
theorem lxl_or (x y : List Nat) (h : x ≠ y) : lxl x y = true ∨ lxl y x = true := by
  induction x generalizing y with
  | nil =>
    cases y with
    | nil => exact absurd rfl h
    | cons b y => exact .inl rfl
  | cons a x ih =>
    cases y with
    | nil => exact .inr rfl
    | cons b y =>
      by_cases e : a = b
      · subst e
        rw [lxl_same, lxl_same]
        exact ih y (fun e => h (by rw [e]))
      · rw [lxl_ne _ _ _ _ e, lxl_ne _ _ _ _ (Ne.symm e)]
        simp
        omega
theorem lxl_trans (x y z : List Nat) (h : lxl x y = true) (k : lxl y z = true) : lxl x z = true := by
  induction x generalizing y z with
  | nil =>
    cases z with
    | nil => rw [lxl_nil] at k; cases k
    | cons c z => rfl
  | cons a x ih =>
    cases y with
    | nil => cases h
    | cons b y =>
      cases z with
      | nil => cases k
      | cons c z =>
        by_cases e : a = b
        · subst e
          rw [lxl_same] at h
          by_cases e2 : a = c
          · subst e2
            rw [lxl_same] at k ⊢
            exact ih y z h k
          · rw [lxl_ne _ _ _ _ e2] at k ⊢
            exact k
        · rw [lxl_ne _ _ _ _ e] at h
          simp at h
          by_cases e2 : b = c
          · subst e2
            rw [lxl_ne _ _ _ _ e]
            simp [h]
          · rw [lxl_ne _ _ _ _ e2] at k
            simp at k
            rw [lxl_ne _ _ _ _ (by omega)]
            simp
            omega
theorem lxl_irr (x : List Nat) : lxl x x = false := by
  induction x with
  | nil => rfl
  | cons a x ih => rw [lxl_same, ih]

/-! Names. -/
def okn (p : Nat) : Prop := 32 ≤ p ∧ p ≠ 47 ∧ ¬ (127 ≤ p ∧ p ≤ 159) ∧ p ≠ 65533 ∧ p < 1114112
/-- As the program goes on from so many runes, and the last one. -/
def odd (c p : Nat) : Bool := if p = 47 ∨ rn p = 65533 then true else if p = 32 then decide (c = 0) else decide (p < 32 ∨ (127 ≤ p ∧ p ≤ 159))
def vgo : List Nat → Nat → Nat → Bool
  | [], _, last => decide (last ≠ 32)
  | p :: q, c, _ => if c = 24 ∨ odd c p = true then false else vgo q (c + 1) (rn p)
def vld (l : List UInt8) : Bool := vgo (pl l) 0 32

theorem odd_okn (c p : Nat) (_hp : okp p) : odd c p = false ↔ okn p ∧ ¬ (c = 0 ∧ p = 32) := by
  unfold odd okn rn
  repeat' split
  all_goals simp
  all_goals omega

theorem vgo_iff (q : List Nat) (h : ∀ p ∈ q, okp p) (c last : Nat) (hc : c ≤ 24) : vgo q c last = true ↔ c + q.length ≤ 24 ∧ (∀ p ∈ q, okn p) ∧ (c = 0 → q.head? ≠ some 32) ∧ (q.getLast?.getD last ≠ 32) := by
  induction q generalizing c last with
  | nil => simp [vgo]; omega
  | cons p q ih =>
    unfold vgo
    have hp := h p List.mem_cons_self
    have ho := odd_okn c p hp
    by_cases k : c = 24 ∨ odd c p = true
    · rw [if_pos k]
      constructor
      · intro x; cases x
      · rintro ⟨h1, h2, h3, h4⟩
        exfalso
        rcases k with k | k
        · simp only [List.length_cons] at h1
          omega
        · have : odd c p = false := ho.2 ⟨h2 p List.mem_cons_self, fun ⟨e1, e2⟩ => h3 e1 (by rw [e2]; rfl)⟩
          rw [this] at k
          cases k
    · rw [if_neg k]
      have k2 : odd c p = false := by
        cases e : odd c p
        · rfl
        · exact absurd (.inr e) k
      obtain ⟨o1, o2⟩ := ho.1 k2
      have hr : rn p = p := by unfold rn; unfold okn at o1; rw [if_neg (by omega)]
      rw [ih (fun x hx => h x (List.mem_cons_of_mem _ hx)) (c + 1) (rn p) (by omega), hr]
      have hg : ((p :: q).getLast?.getD last) = q.getLast?.getD p := by
        cases q with
        | nil => rfl
        | cons y q =>
          rw [List.getLast?_cons_cons]
          obtain ⟨z, hz⟩ : ∃ z, (y :: q).getLast? = some z := ⟨_, List.getLast?_eq_some_getLast (by simp)⟩
          rw [hz]
          rfl
      rw [hg]
      constructor
      · rintro ⟨h1, h2, h3, h4⟩
        refine ⟨by simp only [List.length_cons]; omega, ?_, ?_, h4⟩
        · intro x hx
          rcases List.mem_cons.1 hx with rfl | hx
          · exact o1
          · exact h2 x hx
        · intro e1 e2
          simp only [List.head?_cons, Option.some.injEq] at e2
          exact o2 ⟨e1, e2⟩
      · rintro ⟨h1, h2, h3, h4⟩
        simp only [List.length_cons] at h1
        exact ⟨by omega, fun x hx => h2 x (List.mem_cons_of_mem _ hx), fun e => by omega, h4⟩

theorem vld_iff (l : List UInt8) : vld l = true ↔ (pl l).length ≤ 24 ∧ (∀ p ∈ pl l, okn p) ∧ (pl l).head? ≠ some 32 ∧ (pl l).getLast?.getD 32 ≠ 32 := by
  unfold vld
  rw [vgo_iff (pl l) (pl_okp l) 0 32 (by omega)]
  simp

theorem vld_whole {l : List UInt8} (h : vld l = true) : whole l := fun p hp => ((vld_iff l).1 h).2.1 p hp |>.2.2.2.2

end Go.Proofs.YtphbkbjgjicncaaGreat.nm
