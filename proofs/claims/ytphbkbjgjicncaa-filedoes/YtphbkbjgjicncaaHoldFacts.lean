/-
  Facts on holds that are placed, and released.
-/
import Derived.Test.YtphbkbjgjicncaaHold
namespace Go.Proofs.Ytphbkbjgjicncaa
open Go Go.RowKit

theorem hold_code (se : Bool) (x : ByteArray) (L : List ByteArray) : (hldC se x L = 0 ∧ se = true ∧ vdB x = true ∧ Lib.containsS L x = false ∧ L.length < 4) ∨ (hldC se x L ≠ 0 ∧ hldL se x L = L) := by
  unfold hldL
  by_cases h : hldC se x L = 0
  · left
    refine ⟨h, ?_⟩
    unfold hldC at h
    split at h
    · cases h
    · rename_i h1
      split at h
      · cases h
      · rename_i h2
        split at h
        · cases h
        · rename_i h3
          split at h
          · cases h
          · rename_i h4
            exact ⟨by simpa using h1, by simpa using h2, by simpa using h3, by omega⟩
  · right
    exact ⟨h, by rw [if_neg h]⟩
theorem hold_in (x : ByteArray) (L : List ByteArray) (h1 : vdB x = true) (h2 : x ∈ L) : hldC true x L = 4 := by
  unfold hldC
  rw [h1, (Lib.containsS_iff L x).2 h2]
  rfl
/-- How many times x stands in a row. -/
def cnt (x : ByteArray) : List ByteArray → Nat
  | [] => 0
  | y :: l => (if y = x then 1 else 0) + cnt x l
theorem cnt_app (x : ByteArray) (a b : List ByteArray) : cnt x (a ++ b) = cnt x a + cnt x b := by
  induction a with
  | nil => simp [cnt]
  | cons y l ih => simp only [List.cons_append, cnt, ih]; omega
theorem cnt_none (x : ByteArray) (a : List ByteArray) (h : x ∉ a) : cnt x a = 0 := by
  induction a with
  | nil => rfl
  | cons y l ih =>
    have h1 : y ≠ x := fun e => h (by rw [e]; simp)
    simp only [cnt, if_neg h1, ih (fun q => h (by simp [q]))]
theorem not_in (x : ByteArray) (L : List ByteArray) (h : Lib.containsS L x = false) : x ∉ L := fun q => by
  rw [(Lib.containsS_iff L x).2 q] at h; cases h
theorem ins_cnt (x : ByteArray) (k : Nat) (L : List ByteArray) (h : x ∉ L) : cnt x (insAt x k L) = 1 := by
  unfold insAt
  rw [cnt_app, cnt_none x _ (fun q => h (List.mem_of_mem_take q))]
  simp only [cnt, cnt_none x _ (fun q => h (List.mem_of_mem_drop q)), if_pos]
theorem ins_mem (x : ByteArray) (k : Nat) (L : List ByteArray) : x ∈ insAt x k L := by unfold insAt; simp
theorem ins_idx (x : ByteArray) (k : Nat) (L : List ByteArray) (hk : k ≤ L.length) (h : x ∉ L) : Lib.idxOfS (insAt x k L) x = (k : Int) := by
  rcases idx_cases (insAt x k L) x with ⟨h1, _⟩ | ⟨j, hj, h2, h3, h4⟩
  · exact absurd (ins_mem x k L) h1
  rw [h2]
  have e : j = k := by
    rw [insAt_at x k L hk] at h3
    by_cases q : j < k
    · rw [if_pos q] at h3; exact absurd (List.mem_of_getElem? h3) h
    rw [if_neg q] at h3
    by_cases q2 : j = k
    · exact q2
    · rw [if_neg q2] at h3; exact absurd (List.mem_of_getElem? h3) h
  rw [e]
theorem ins_rmv (x : ByteArray) (k : Nat) (L : List ByteArray) (hk : k ≤ L.length) (h : x ∉ L) : rmv x (insAt x k L) = L ∧ rlC x (insAt x k L) = 0 := by
  have hi := ins_idx x k L hk h
  unfold rmv rlC
  rw [hi, if_pos (by omega), if_pos (by omega)]
  refine ⟨?_, rfl⟩
  rw [Int.toNat_natCast]
  unfold insAt
  have hl : (L.take k).length = k := by simp; omega
  rw [List.eraseIdx_append_of_length_le (by omega), hl, Nat.sub_self, List.eraseIdx_cons_zero, List.take_append_drop]
theorem hold_fl (F : Fl) (x : ByteArray) (L : List ByteArray) (v : World) (h : StrAt v.heap.size v F.ha L) (hn : F.hn = L.length) (hL : L.length ≤ 1000) (hs : ∀ y ∈ L, y.size ≤ 1099511627776) (hx : x.size ≤ 1099511627776) (L' : List ByteArray) (c : Int) (e1 : hldC F.se x L = c) (e2 : hldL F.se x L = L') :
    Calls Try.prog 73 #[.agg (flr F), .string x] v fun e v' => ∃ X : Fl, e = .returned (.tuple #[.agg (flr X), .int .i64 c]) ∧ (X.id = F.id ∧ X.nm = F.nm ∧ X.da = F.da ∧ X.se = F.se ∧ X.un = F.un ∧ X.hn = L'.length) ∧ StrAt v'.heap.size v' X.ha L' ∧ Below v.heap.size v v' := by
  refine (hold_any F x L v h hn hL hs hx).mono ?_
  rw [e1, e2]
  rintro e v' ⟨a, c, rfl, hs, hb⟩
  exact ⟨_, rfl, ⟨rfl, rfl, rfl, rfl, rfl, rfl⟩, hs.str, hb⟩
theorem rel_fl (F : Fl) (x : ByteArray) (L : List ByteArray) (v : World) (h : StrAt v.heap.size v F.ha L) (hn : F.hn = L.length) (hL : L.length ≤ 1000) (L' : List ByteArray) (c : Int) (e1 : rlC x L = c) (e2 : rmv x L = L') :
    Calls Try.prog 74 #[.agg (flr F), .string x] v fun e v' => ∃ X : Fl, e = .returned (.tuple #[.agg (flr X), .int .i64 c]) ∧ (X.id = F.id ∧ X.nm = F.nm ∧ X.da = F.da ∧ X.se = F.se ∧ X.un = F.un ∧ X.hn = L'.length) ∧ StrAt v'.heap.size v' X.ha L' ∧ Below v.heap.size v v' := by
  refine (release_any F x L v h hn hL).mono ?_
  rw [e1, e2]
  rintro e v' ⟨a, c, rfl, hs, hb⟩
  exact ⟨_, rfl, ⟨rfl, rfl, rfl, rfl, rfl, rfl⟩, hs.str, hb⟩
theorem cnt_take (x : ByteArray) (L : List ByteArray) (k : Nat) (h : k < L.length) : cnt x (L.take (k + 1)) = cnt x (L.take k) + if L[k] = x then 1 else 0 := by
  rw [List.take_succ_eq_append_getElem h, cnt_app]; simp [cnt]
theorem cnt_le (x : ByteArray) (L : List ByteArray) : cnt x L ≤ L.length := by
  induction L with
  | nil => exact Nat.le_refl _
  | cons y l ih => simp only [cnt, List.length_cons]; split <;> omega
theorem ba_beq (a b : ByteArray) : (a.toList == b.toList) = decide (a = b) := by
  have key : a.toList = b.toList ↔ a = b := by
    constructor
    · intro h
      have ha : a = ⟨a.data.toList.toArray⟩ := by simp
      have hb : b = ⟨b.data.toList.toArray⟩ := by simp
      have h2 : a.data.toList = b.data.toList := by
        rw [ha, hb, ByteArray.toList_mk, ByteArray.toList_mk] at h
        exact h
      rw [ha, hb, h2]
    · intro h; rw [h]
  rw [Bool.eq_iff_iff]
  simp [key]
end Go.Proofs.Ytphbkbjgjicncaa
