/-
  Numbers, texts and frames as bytes: plain facts. No call is walked here.
-/
import Derived.Test.YtgaggncepknafaaWords
namespace Go.Proofs.Ytgaggncepknafaa

/-- Seven bits each, the lowest first, of at most so many more bytes. -/
def numF : Nat → Nat → List UInt8
  | 0, n => [UInt8.ofNat n]
  | f + 1, n => if n < 128 then [UInt8.ofNat n] else UInt8.ofNat (n % 128 + 128) :: numF f (n / 128)
/-- A number as bytes. -/
def num (n : Nat) : List UInt8 := numF 7 n
def big : Nat := 1125899906842624
def cl (n : Nat) : Nat := min n big
/-- The number that bytes seem to be. -/
def seem : Nat → List UInt8 → Nat
  | 0, _ => 0
  | _ + 1, [] => 0
  | f + 1, b :: l => b.toNat % 128 + (if b.toNat < 128 then 0 else 128 * seem f l)
/-- The number that bytes begin with. -/
def gn (l : List UInt8) : Option (Nat × List UInt8) :=
  if (num (cl (seem 8 l))).isPrefixOf l then some (seem 8 l, l.drop (num (cl (seem 8 l))).length) else none

theorem ofNat_toNat (n : Nat) (h : n < 256) : (UInt8.ofNat n).toNat = n := by rw [UInt8.toNat_ofNat']; omega

theorem numF_low (f n : Nat) (h : n < 128) : numF f n = [UInt8.ofNat n] := by
  cases f with
  | zero => rfl
  | succ f => unfold numF; rw [if_pos h]
theorem numF_high (f n : Nat) (h : 128 ≤ n) : numF (f + 1) n = UInt8.ofNat (n % 128 + 128) :: numF f (n / 128) := by
  rw [numF, if_neg (by omega)]
theorem numF_len (f n : Nat) : 1 ≤ (numF f n).length ∧ (numF f n).length ≤ f + 1 := by
  induction f generalizing n with
  | zero => simp [numF]
  | succ f ih =>
    by_cases h : n < 128
    · rw [numF_low _ _ h]; simp
    · rw [numF_high _ _ (by omega)]; have := ih (n / 128); simp; omega
theorem num_len (n : Nat) : 1 ≤ (num n).length ∧ (num n).length ≤ 8 := numF_len 7 n

theorem numF_form (f n : Nat) (h : n < 128 ^ (f + 1)) : ∃ p b, numF f n = p ++ [b] ∧ (∀ x ∈ p, 128 ≤ x.toNat) ∧ b.toNat < 128 := by
  induction f generalizing n with
  | zero =>
    refine ⟨[], UInt8.ofNat n, rfl, (fun x hx => by cases hx), ?_⟩
    rw [ofNat_toNat _ (by omega)]; simpa using h
  | succ f ih =>
    by_cases k : n < 128
    · refine ⟨[], UInt8.ofNat n, numF_low _ _ k, (fun x hx => by cases hx), ?_⟩
      rw [ofNat_toNat _ (by omega)]; exact k
    · have e : (128 : Nat) ^ (f + 1 + 1) = 128 ^ (f + 1) * 128 := rfl
      rw [e] at h
      obtain ⟨p, b, h1, h2, h3⟩ := ih (n / 128) (Nat.div_lt_of_lt_mul (by rw [Nat.mul_comm]; exact h))
      refine ⟨UInt8.ofNat (n % 128 + 128) :: p, b, by rw [numF_high _ _ (by omega), h1]; rfl, fun x hx => ?_, h3⟩
      rcases List.mem_cons.1 hx with rfl | hx
      · rw [ofNat_toNat _ (by omega)]; omega
      · exact h2 x hx
theorem seem_num (f n : Nat) (h : n < 128 ^ (f + 1)) (r : List UInt8) : seem (f + 1) (numF f n ++ r) = n := by
  induction f generalizing n with
  | zero =>
    show (UInt8.ofNat n).toNat % 128 + (if (UInt8.ofNat n).toNat < 128 then 0 else _) = n
    have : n < 128 := by simpa using h
    rw [ofNat_toNat _ (by omega), if_pos this]; omega
  | succ f ih =>
    by_cases k : n < 128
    · rw [numF_low _ _ k]
      show (UInt8.ofNat n).toNat % 128 + (if (UInt8.ofNat n).toNat < 128 then 0 else _) = n
      rw [ofNat_toNat _ (by omega), if_pos k]; omega
    · have e : (128 : Nat) ^ (f + 1 + 1) = 128 ^ (f + 1) * 128 := rfl
      rw [e] at h
      have hi := ih (n / 128) (Nat.div_lt_of_lt_mul (by rw [Nat.mul_comm]; exact h))
      rw [numF_high _ _ (by omega)]
      show (UInt8.ofNat (n % 128 + 128)).toNat % 128 + (if (UInt8.ofNat (n % 128 + 128)).toNat < 128 then 0 else 128 * seem (f + 1) (numF f (n / 128) ++ r)) = n
      rw [ofNat_toNat _ (by omega), if_neg (by omega), hi]; omega
theorem big_lt {n : Nat} (h : n ≤ big) : n < 128 ^ (7 + 1) := by unfold big at h; omega
theorem cl_le (n : Nat) : cl n ≤ big := Nat.min_le_right _ _
theorem cl_id {n : Nat} (h : n ≤ big) : cl n = n := Nat.min_eq_left h
theorem seem8 {n : Nat} (h : n ≤ big) (r : List UInt8) : seem 8 (num n ++ r) = n := seem_num 7 n (big_lt h) r

theorem gn_num {n : Nat} (h : n ≤ big) (r : List UInt8) : gn (num n ++ r) = some (n, r) := by
  unfold gn
  rw [seem8 h, cl_id h, if_pos (by rw [List.isPrefixOf_iff_prefix]; exact List.prefix_append _ _), List.drop_left]
theorem gn_some {l r : List UInt8} {n : Nat} (h : gn l = some (n, r)) : n ≤ big ∧ l = num n ++ r := by
  unfold gn at h
  split at h
  · rename_i hp
    obtain ⟨r', hr⟩ := List.isPrefixOf_iff_prefix.1 hp
    have hs := seem8 (cl_le (seem 8 l)) r'
    rw [hr] at hs
    injection h with h
    injection h with h1 h2
    rw [← hs] at hr
    have hc := cl_le (seem 8 l)
    rw [← hs, h1] at hc
    refine ⟨hc, ?_⟩
    rw [h1] at hr
    rw [h1, cl_id hc] at h2
    rw [← hr, List.drop_left] at h2
    rw [← h2]; exact hr.symm
  · cases h
theorem gn_iff {l r : List UInt8} {n : Nat} : gn l = some (n, r) ↔ n ≤ big ∧ l = num n ++ r :=
  ⟨gn_some, fun ⟨h, e⟩ => by rw [e]; exact gn_num h r⟩
theorem gn_seem {l r : List UInt8} {n : Nat} (h : gn l = some (n, r)) : seem 8 l = n := by
  obtain ⟨h1, h2⟩ := gn_some h
  rw [h2]; exact seem8 h1 r

/-- Bytes that go on up to a place, and a number that they begin with. -/
theorem num_at {l r : List UInt8} {n i : Nat} (hn : n ≤ big) (e : l = num n ++ r) (hi : i < l.length) (ha : ∀ x ∈ l.take i, 128 ≤ x.toNat) (hb : (l[i]).toNat < 128) : num n = l.take (i + 1) := by
  obtain ⟨p, b, h1, h2, h3⟩ := numF_form 7 n (big_lt hn)
  have h1' : num n = p ++ [b] := h1
  have hl : l = p ++ (b :: r) := by rw [e, h1']; simp
  have hpi : p.length = i := by
    rcases Nat.lt_trichotomy p.length i with k | k | k
    · have : b ∈ l.take i := by
        rw [hl, List.take_append]
        apply List.mem_append_right
        obtain ⟨m, hm⟩ : ∃ m, i - p.length = m + 1 := ⟨i - p.length - 1, by omega⟩
        rw [hm, List.take_succ_cons]
        exact List.mem_cons_self
      have := ha b this
      omega
    · exact k
    · have : l[i] ∈ p := by
        have e2 : l[i] = p[i] := by
          have : l[i]? = p[i]? := by rw [hl, List.getElem?_append_left k]
          rw [List.getElem?_eq_getElem hi, List.getElem?_eq_getElem k] at this
          exact Option.some.inj this
        rw [e2]; exact List.getElem_mem _
      have := h2 _ this
      omega
  rw [h1', hl, ← hpi, List.take_append, List.take_of_length_le (by omega), show p.length + 1 - p.length = 1 by omega]
  rfl
/-- Bytes that go on to their end, or for eight, begin with no number. -/
theorem gn_none {l : List UInt8} {i : Nat} (hi : i = l.length ∨ i = 8) (ha : ∀ x ∈ l.take i, 128 ≤ x.toNat) : gn l = none := by
  cases h : gn l with
  | none => rfl
  | some q =>
    obtain ⟨n, r⟩ := q
    obtain ⟨hn, e⟩ := gn_some h
    obtain ⟨p, b, h1, h2, h3⟩ := numF_form 7 n (big_lt hn)
    have h1' : num n = p ++ [b] := h1
    have hlen := (num_len n).2
    rw [h1'] at hlen
    simp only [List.length_append, List.length_cons, List.length_nil] at hlen
    have hl : l = p ++ (b :: r) := by rw [e, h1']; simp
    have : b ∈ l.take i := by
      have hll : l.length = p.length + (r.length + 1) := by rw [hl]; simp
      rw [hl, List.take_append]
      apply List.mem_append_right
      obtain ⟨m, hm⟩ : ∃ m, i - p.length = m + 1 := ⟨i - p.length - 1, by omega⟩
      rw [hm, List.take_succ_cons]
      exact List.mem_cons_self
    have := ha b this
    omega
theorem gn_big {l : List UInt8} (h : big < seem 8 l) : gn l = none := by
  cases e : gn l with
  | none => rfl
  | some q =>
    obtain ⟨n, r⟩ := q
    have h1 := gn_seem e
    have h2 := (gn_some e).1
    omega

/-- A text as bytes, and the text that bytes begin with. -/
def text (l : List UInt8) : List UInt8 := num (cl l.length) ++ l
def gt (l : List UInt8) (most : Int) : Option (List UInt8 × List UInt8) :=
  match gn l with
  | some (n, r) => if (n : Int) ≤ most ∧ n ≤ r.length then some (r.take n, r.drop n) else none
  | none => none
theorem gt_text {l : List UInt8} {most : Int} (hl : l.length ≤ big) (hm : (l.length : Int) ≤ most) (r : List UInt8) : gt (text l ++ r) most = some (l, r) := by
  unfold gt text
  rw [cl_id hl, List.append_assoc, gn_num hl]
  simp only
  rw [if_pos ⟨hm, by simp⟩, List.take_left, List.drop_left]
theorem gt_some {s l r : List UInt8} {most : Int} (h : gt s most = some (l, r)) : s = text l ++ r ∧ (l.length : Int) ≤ most ∧ l.length ≤ big := by
  unfold gt at h
  split at h
  · rename_i n q hq
    obtain ⟨h1, h2⟩ := gn_some hq
    split at h
    · rename_i hc
      injection h with h
      injection h with h3 h4
      have hll : l.length = n := by rw [← h3, List.length_take]; omega
      refine ⟨?_, by omega, by omega⟩
      unfold text
      rw [hll, cl_id h1, List.append_assoc, h2, ← h3, ← h4, List.take_append_drop]
    · cases h
  · cases h
theorem gt_short {l : List UInt8} {most : Int} (hl : l.length ≤ big) (hm : most < (l.length : Int)) (r : List UInt8) : gt (text l ++ r) most = none := by
  unfold gt text
  rw [cl_id hl, List.append_assoc, gn_num hl]
  simp only
  rw [if_neg (by omega)]

/-- The check of bytes as four bytes, the lowest first. -/
def cb (c : BitVec 32) (i : Nat) : UInt8 := UInt8.ofNat (c.toNat / 256 ^ i % 256)
def c4 (c : BitVec 32) : List UInt8 := [cb c 0, cb c 1, cb c 2, cb c 3]
def chk (l : List UInt8) : List UInt8 := c4 (more 0#32 l)
theorem chk_len (l : List UInt8) : (chk l).length = 4 := rfl
theorem c4_inj {a b : BitVec 32} (h : c4 a = c4 b) : a = b := by
  unfold c4 cb at h
  simp only [List.cons.injEq, and_true] at h
  obtain ⟨h0, h1, h2, h3⟩ := h
  have f : ∀ n : Nat, (UInt8.ofNat (n % 256)).toNat = n % 256 := fun n => ofNat_toNat _ (Nat.mod_lt _ (by decide))
  have g0 := congrArg UInt8.toNat h0
  have g1 := congrArg UInt8.toNat h1
  have g2 := congrArg UInt8.toNat h2
  have g3 := congrArg UInt8.toNat h3
  rw [f, f] at g0 g1 g2 g3
  apply BitVec.eq_of_toNat_eq
  have ha := a.isLt
  have hb := b.isLt
  simp only [Nat.pow_zero, Nat.pow_one, Nat.div_one, show (256 : Nat) ^ 2 = 65536 from rfl, show (256 : Nat) ^ 3 = 16777216 from rfl] at g0 g1 g2 g3
  omega
/-- A frame, and the frame that bytes begin with. -/
def frame (l : List UInt8) : List UInt8 := text l ++ chk (text l)
def gf (l : List UInt8) : Option (List UInt8 × List UInt8) :=
  match gt l 5000 with
  | some (t, r) => if (chk (text t)).isPrefixOf r then some (t, r.drop 4) else none
  | none => none
theorem gf_frame {l : List UInt8} (hl : l.length ≤ 5000) (r : List UInt8) : gf (frame l ++ r) = some (l, r) := by
  unfold gf frame
  rw [List.append_assoc, gt_text (by unfold big; omega) (by omega)]
  simp only
  rw [if_pos (by rw [List.isPrefixOf_iff_prefix]; exact List.prefix_append _ _)]
  have : (chk (text l) ++ r).drop 4 = r := List.drop_left' (chk_len _)
  rw [this]
theorem gf_some {s l r : List UInt8} (h : gf s = some (l, r)) : s = frame l ++ r ∧ l.length ≤ 5000 := by
  unfold gf at h
  split at h
  · rename_i t q hq
    obtain ⟨h1, h2, _⟩ := gt_some hq
    split at h
    · rename_i hc
      injection h with h
      injection h with h3 h4
      obtain ⟨r', hr⟩ := List.isPrefixOf_iff_prefix.1 hc
      subst h3
      refine ⟨?_, by omega⟩
      have : (chk (text t) ++ r').drop 4 = r' := List.drop_left' (chk_len _)
      rw [← hr, this] at h4
      subst h4
      rw [h1, ← hr]
      unfold frame
      rw [List.append_assoc]
    · cases h
  · cases h

/-- A frame in which one byte behind its length is another one is none. -/
theorem gf_torn {l : List UInt8} (hl : l.length ≤ 5000) (i : Nat) (h1 : (num (cl l.length)).length ≤ i) (h2 : i < (frame l).length) (x : UInt8) (hx : (frame l)[i] ≠ x) : gf ((frame l).set i x) = none := by
  have hb : l.length ≤ big := by unfold big; omega
  have key : ∀ l' c' : List UInt8, l'.length = l.length → c'.length = 4 → gf (num (cl l.length) ++ (l' ++ c')) = if chk (text l') = c' then some (l', []) else none := fun l' c' h3 h4 => by
    have e : num (cl l.length) ++ (l' ++ c') = text l' ++ c' := by unfold text; rw [h3, List.append_assoc]
    rw [e]
    unfold gf
    rw [gt_text (by omega) (by omega)]
    simp only
    by_cases hc : chk (text l') = c'
    · rw [if_pos (by rw [List.isPrefixOf_iff_prefix, hc]; exact List.prefix_refl _), if_pos hc, List.drop_of_length_le (by omega)]
    · rw [if_neg ?_, if_neg hc]
      intro hp
      rw [List.isPrefixOf_iff_prefix] at hp
      exact hc (hp.eq_of_length (by rw [chk_len, h4]))
  have ef : frame l = num (cl l.length) ++ (l ++ chk (text l)) := by unfold frame; conv => lhs; lhs; unfold text
                                                                     rw [List.append_assoc]
  have hlen : (frame l).length = (num (cl l.length)).length + (l.length + 4) := by rw [ef]; simp [chk_len]
  by_cases hc : i < (num (cl l.length)).length + l.length
  · obtain ⟨j, hj⟩ : ∃ j, i = (num (cl l.length)).length + j := ⟨i - (num (cl l.length)).length, by omega⟩
    subst hj
    have hjl : j < l.length := by omega
    have hg : (frame l)[(num (cl l.length)).length + j] = l[j] := by
      have : (frame l)[(num (cl l.length)).length + j]? = l[j]? := by
        rw [ef, List.getElem?_append_right (by omega), show (num (cl l.length)).length + j - (num (cl l.length)).length = j by omega, List.getElem?_append_left hjl]
      rw [List.getElem?_eq_getElem h2, List.getElem?_eq_getElem hjl] at this
      exact Option.some.inj this
    have es : (frame l).set ((num (cl l.length)).length + j) x = num (cl l.length) ++ (l.set j x ++ chk (text l)) := by
      rw [show (frame l).set = (num (cl l.length) ++ (l ++ chk (text l))).set by rw [← ef]]
      rw [List.set_append_right _ _ (by omega), show (num (cl l.length)).length + j - (num (cl l.length)).length = j by omega, List.set_append_left _ _ hjl]
    rw [es, key _ _ (by simp) (chk_len _), if_neg]
    intro hk
    have hm := c4_inj hk
    have hd : l = l.take j ++ (l[j] :: l.drop (j + 1)) := by rw [← List.drop_eq_getElem_cons hjl, List.take_append_drop]
    have hs : l.set j x = l.take j ++ (x :: l.drop (j + 1)) := by rw [List.set_eq_take_append_cons_drop, if_pos hjl]
    have e1 : text (l.set j x) = (num (cl l.length) ++ l.take j) ++ (x :: l.drop (j + 1)) := by
      unfold text
      rw [List.length_set, hs, List.append_assoc]
    have e2 : text l = (num (cl l.length) ++ l.take j) ++ (l[j] :: l.drop (j + 1)) := by
      unfold text
      conv => lhs; rhs; rw [hd]
      rw [List.append_assoc]
    rw [e1, e2] at hm
    exact hx (by rw [hg]; exact (more_byte _ _ _ _ _ hm).symm)
  · obtain ⟨j, hj⟩ : ∃ j, i = (num (cl l.length)).length + (l.length + j) := ⟨i - (num (cl l.length)).length - l.length, by omega⟩
    subst hj
    have hj4 : j < (chk (text l)).length := by rw [chk_len]; omega
    have es : (frame l).set ((num (cl l.length)).length + (l.length + j)) x = num (cl l.length) ++ (l ++ (chk (text l)).set j x) := by
      rw [show (frame l).set = (num (cl l.length) ++ (l ++ chk (text l))).set by rw [← ef]]
      rw [List.set_append_right _ _ (by omega), show (num (cl l.length)).length + (l.length + j) - (num (cl l.length)).length = l.length + j by omega, List.set_append_right _ _ (by omega), show l.length + j - l.length = j by omega]
    have hg : (frame l)[(num (cl l.length)).length + (l.length + j)] = (chk (text l))[j] := by
      have : (frame l)[(num (cl l.length)).length + (l.length + j)]? = (chk (text l))[j]? := by
        rw [ef, List.getElem?_append_right (by omega), show (num (cl l.length)).length + (l.length + j) - (num (cl l.length)).length = l.length + j by omega, List.getElem?_append_right (by omega), show l.length + j - l.length = j by omega]
      rw [List.getElem?_eq_getElem h2, List.getElem?_eq_getElem hj4] at this
      exact Option.some.inj this
    rw [es, key _ _ rfl (by simp [chk_len]), if_neg]
    intro hk
    apply hx
    rw [hg]
    have := congrArg (·[j]?) hk
    simp only [List.getElem?_set_self hj4, List.getElem?_eq_getElem hj4] at this
    exact Option.some.inj this

/-- The digest that bytes begin with. -/
def gs (l : List UInt8) : Option (List UInt8 × List UInt8) := if 32 ≤ l.length then some (l.take 32, l.drop 32) else none

end Go.Proofs.Ytgaggncepknafaa
