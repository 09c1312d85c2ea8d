/-
  The model's words for runes and texts, told by the plain facts.
-/
import Derived.Test.YtphbkbjgjicncaaNQuoted
import Derived.Lib.RuneBytes
import Derived.Laws.RangeAny
import Derived.Lib.Bytealg
namespace Go.Proofs.Ytphbkbjgjicncaa.nm

abbrev li (s : ByteArray) : List UInt8 := s.data.toList
theorem li_len (s : ByteArray) : (li s).length = s.size := by simp [li]
theorem li_mk (l : List UInt8) : li ⟨l.toArray⟩ = l := by simp [li]
theorem mk_li (s : ByteArray) : (⟨(li s).toArray⟩ : ByteArray) = s := by cases s; simp [li]
theorem li_inj {s t : ByteArray} (h : li s = li t) : s = t := by rw [← mk_li s, ← mk_li t, h]
theorem li_extract (s : ByteArray) (i : Nat) : li (s.extract i s.size) = (li s).drop i := by
  show (s.extract i s.size).data.toList = _
  rw [ByteArray.data_extract]
  simp only [Array.toList_extract, List.extract_eq_take_drop]
  exact List.take_of_length_le (by simp)
theorem byt_drop (l : List UInt8) (i k : Nat) : byt (l.drop i) k = byt l (i + k) := by
  unfold byt
  rw [List.getD_eq_getElem?_getD, List.getD_eq_getElem?_getD, List.getElem?_drop]
theorem get_byt (s : ByteArray) (i : Nat) : (s.get! i).toNat = byt (li s) i := by
  unfold byt
  congr 1
  rw [List.getD_eq_getElem?_getD]
  show s.data[i]! = _
  by_cases h : i < s.size
  · have h' : i < s.data.size := h
    rw [getElem!_pos s.data i h', List.getElem?_eq_getElem (by simpa using h')]
    simp
  · have h' : ¬ i < s.data.size := h
    rw [getElem!_neg s.data i h', List.getElem?_eq_none (by simpa using h')]
    rfl
theorem byt_at (s : ByteArray) (i : Nat) (h : i < s.size) : (s[i]'h).toNat = byt (li s) i := by
  rw [← get_byt]
  show _ = (s.data[i]!).toNat
  have h' : i < s.data.size := h
  rw [getElem!_pos s.data i h']
  rfl
theorem byt_out (l : List UInt8) (i : Nat) (h : ¬ i < l.length) : byt l i = 0 := by
  unfold byt
  rw [List.getD_eq_getElem?_getD, List.getElem?_eq_none (by omega)]
  rfl

theorem cont_eq (n x : Nat) (i : Nat) (hx : x < 256) (hn : ¬ i < n → x = 0) : (decide (i < n) && x / 64 == 2) = decide (128 ≤ x ∧ x < 192) := by
  rw [Bool.eq_iff_iff]
  simp only [Bool.and_eq_true, decide_eq_true_eq, beq_iff_eq]
  constructor
  · rintro ⟨h1, h2⟩; omega
  · rintro ⟨h1, h2⟩
    refine ⟨?_, by omega⟩
    rcases Nat.lt_or_ge i n with h | h
    · exact h
    · have := hn (by omega); omega

theorem dec4_eq (a b c d : Nat) (ha : a < 256) (hb : b < 256) (hc : c < 256) (hd : d < 256) :
    (if a < 128 then (a, 1)
     else if (a / 32 == 6 && decide (128 ≤ b ∧ b < 192)) = true then (if a % 32 * 64 + b % 64 ≥ 128 then (a % 32 * 64 + b % 64, 2) else (Utf8.runeError, 1))
     else if (a / 16 == 14 && decide (128 ≤ b ∧ b < 192) && decide (128 ≤ c ∧ c < 192)) = true then (if (decide (a % 16 * 4096 + b % 64 * 64 + c % 64 ≥ 2048) && Utf8.valid (a % 16 * 4096 + b % 64 * 64 + c % 64 : Nat)) = true then (a % 16 * 4096 + b % 64 * 64 + c % 64, 3) else (Utf8.runeError, 1))
     else if (a / 8 == 30 && decide (128 ≤ b ∧ b < 192) && decide (128 ≤ c ∧ c < 192) && decide (128 ≤ d ∧ d < 192)) = true then (if (decide (a % 8 * 262144 + b % 64 * 4096 + c % 64 * 64 + d % 64 ≥ 65536) && Utf8.valid (a % 8 * 262144 + b % 64 * 4096 + c % 64 * 64 + d % 64 : Nat)) = true then (a % 8 * 262144 + b % 64 * 4096 + c % 64 * 64 + d % 64, 4) else (Utf8.runeError, 1))
     else (Utf8.runeError, 1)) = (rn (dec4 a b c d).1, (dec4 a b c d).2) := by
  unfold dec4 Utf8.valid Utf8.runeError
  by_cases h1 : a < 128
  · rw [if_pos h1, if_pos h1]; unfold rn; rw [if_neg (by simp only; omega)]
  rw [if_neg h1, if_neg h1]
  by_cases h2 : 194 ≤ a ∧ a < 224 ∧ 128 ≤ b ∧ b < 192
  · have g : (a / 32 == 6 && decide (128 ≤ b ∧ b < 192)) = true := by simp; omega
    rw [if_pos h2, if_pos g, if_pos (by omega)]
    unfold rn
    rw [if_neg (by simp only; omega)]
    refine Prod.ext ?_ rfl
    simp only; omega
  rw [if_neg h2]
  by_cases g2 : (a / 32 == 6 && decide (128 ≤ b ∧ b < 192)) = true
  · have : a < 194 := by simp at g2; omega
    rw [if_pos g2, if_neg (by simp at g2; omega), if_neg (by omega), if_neg (by omega)]
    unfold rn
    rw [if_pos (by simp only; omega)]
  rw [if_neg g2]
  by_cases h3 : 224 ≤ a ∧ a < 240 ∧ 128 ≤ b ∧ b < 192 ∧ 128 ≤ c ∧ c < 192 ∧ 2048 ≤ (a - 224) * 4096 + (b - 128) * 64 + (c - 128) ∧ ¬ (55296 ≤ (a - 224) * 4096 + (b - 128) * 64 + (c - 128) ∧ (a - 224) * 4096 + (b - 128) * 64 + (c - 128) ≤ 57343)
  · have g : (a / 16 == 14 && decide (128 ≤ b ∧ b < 192) && decide (128 ≤ c ∧ c < 192)) = true := by simp; omega
    have e : a % 16 * 4096 + b % 64 * 64 + c % 64 = (a - 224) * 4096 + (b - 128) * 64 + (c - 128) := by omega
    rw [if_pos h3, if_pos g, e, if_pos (by simp; omega)]
    unfold rn
    rw [if_neg (by simp only; omega)]
  rw [if_neg h3]
  by_cases g3 : (a / 16 == 14 && decide (128 ≤ b ∧ b < 192) && decide (128 ≤ c ∧ c < 192)) = true
  · have : 224 ≤ a ∧ a < 240 := by simp at g3; omega
    have e : a % 16 * 4096 + b % 64 * 64 + c % 64 = (a - 224) * 4096 + (b - 128) * 64 + (c - 128) := by simp at g3; omega
    rw [if_pos g3, e, if_neg (by simp; simp at g3; omega), if_neg (by omega)]
    unfold rn
    rw [if_pos (by simp only; omega)]
  rw [if_neg g3]
  by_cases h4 : 240 ≤ a ∧ a < 245 ∧ 128 ≤ b ∧ b < 192 ∧ 128 ≤ c ∧ c < 192 ∧ 128 ≤ d ∧ d < 192 ∧ 65536 ≤ (a - 240) * 262144 + (b - 128) * 4096 + (c - 128) * 64 + (d - 128) ∧ (a - 240) * 262144 + (b - 128) * 4096 + (c - 128) * 64 + (d - 128) ≤ 1114111
  · have g : (a / 8 == 30 && decide (128 ≤ b ∧ b < 192) && decide (128 ≤ c ∧ c < 192) && decide (128 ≤ d ∧ d < 192)) = true := by simp; omega
    have e : a % 8 * 262144 + b % 64 * 4096 + c % 64 * 64 + d % 64 = (a - 240) * 262144 + (b - 128) * 4096 + (c - 128) * 64 + (d - 128) := by omega
    rw [if_pos h4, if_pos g, e, if_pos (by simp; omega)]
    unfold rn
    rw [if_neg (by simp only; omega)]
  rw [if_neg h4]
  by_cases g4 : (a / 8 == 30 && decide (128 ≤ b ∧ b < 192) && decide (128 ≤ c ∧ c < 192) && decide (128 ≤ d ∧ d < 192)) = true
  · have : 240 ≤ a ∧ a < 248 := by simp at g4; omega
    have e : a % 8 * 262144 + b % 64 * 4096 + c % 64 * 64 + d % 64 = (a - 240) * 262144 + (b - 128) * 4096 + (c - 128) * 64 + (d - 128) := by simp at g4; omega
    rw [if_pos g4, e, if_neg (by simp; simp at g4; omega)]
    unfold rn
    rw [if_pos (by simp only; omega)]
  rw [if_neg g4]
  unfold rn
  rw [if_pos (by simp only; omega)]

theorem decode_eq (s : ByteArray) (i : Nat) : Utf8.decode s i = (rn (dec ((li s).drop i)).1, (dec ((li s).drop i)).2) := by
  unfold dec
  rw [byt_drop, byt_drop, byt_drop, byt_drop, ← dec4_eq _ _ _ _ (byt_lt _ _) (byt_lt _ _) (byt_lt _ _) (byt_lt _ _)]
  unfold Utf8.decode
  simp only [get_byt]
  rw [cont_eq s.size (byt (li s) (i + 1)) (i + 1) (byt_lt _ _) (fun h => byt_out _ _ (by rw [li_len]; exact h)), cont_eq s.size (byt (li s) (i + 2)) (i + 2) (byt_lt _ _) (fun h => byt_out _ _ (by rw [li_len]; exact h)), cont_eq s.size (byt (li s) (i + 3)) (i + 3) (byt_lt _ _) (fun h => byt_out _ _ (by rw [li_len]; exact h))]

theorem okv_rep : okv 65533 := by unfold okv; omega
theorem rn_okv (p : Nat) (h : okp p) : okv (rn p) := by
  unfold rn
  unfold okp at h
  split
  · exact okv_rep
  · rcases h with h | h
    · exact h
    · omega

theorem b8_int (x : Int) (n : Nat) (h : x.toNat = n) : x.toNat.toUInt8 = b8 n := by subst h; rfl

theorem encodeRune_eq (p : Nat) (h : okv p) : Lib.encodeRune (p : Int) = enc p := by
  unfold okv at h
  unfold Lib.encodeRune enc
  rw [if_neg (by omega)]
  by_cases h1 : p < 128
  · rw [if_pos h1, Lib.encodeRuneZ_one (by omega) (by omega)]
    simp [b8]
  rw [if_neg h1]
  by_cases h2 : p < 2048
  · rw [if_pos h2, Lib.encodeRuneZ_two (by omega) (by omega)]
    simp only [List.map_cons, List.map_nil]
    rw [b8_int _ (192 + p / 64) (by omega), b8_int _ (128 + p % 64) (by omega)]
  rw [if_neg h2]
  by_cases h3 : p < 65536
  · rw [if_pos h3, Lib.encodeRuneZ_three (by omega)]
    simp only [List.map_cons, List.map_nil]
    rw [b8_int _ (224 + p / 4096) (by omega), b8_int _ (128 + p / 64 % 64) (by omega), b8_int _ (128 + p % 64) (by omega)]
  rw [if_neg h3, Lib.encodeRuneZ_four (by omega) (by omega)]
  simp only [List.map_cons, List.map_nil]
  rw [b8_int _ (240 + p / 262144) (by omega), b8_int _ (128 + p / 4096 % 64) (by omega), b8_int _ (128 + p / 64 % 64) (by omega), b8_int _ (128 + p % 64) (by omega)]

def digs : ByteArray := ⟨#[48, 49, 50, 51, 52, 53, 54, 55, 56, 57, 97, 98, 99, 100, 101, 102]⟩
theorem digs_at (n : Nat) (h : n < 16) : (digs[n]'h).toNat = dg n := by
  have : ∀ k : Fin 16, (digs[k.val]'k.isLt).toNat = dg k.val := by decide
  exact this ⟨n, h⟩
theorem index_hx (c : UInt8) : (Lib.indexByte (li digs) c) = if hxv c.toNat < 16 then (hxv c.toNat : Int) else -1 := by
  have : ∀ k : Fin 256, Lib.indexByte (li digs) (UInt8.ofNat k.val) = if hxv k.val < 16 then (hxv k.val : Int) else -1 := by decide +kernel
  have h := this ⟨c.toNat, c.toNat_lt⟩
  simpa using h

end Go.Proofs.Ytphbkbjgjicncaa.nm
