/-
  What the library's Insert of one text into an own row comes to.
-/
import Derived.Test.YtphbkbjgjicncaaLabels
namespace Go.Proofs.Ytphbkbjgjicncaa
open Go Go.RowKit Go.Sort

def insAt (x : ByteArray) (k : Nat) (L : List ByteArray) : List ByteArray := L.take k ++ x :: L.drop k
theorem insAt_len (x : ByteArray) (k : Nat) (L : List ByteArray) (hk : k ≤ L.length) : (insAt x k L).length = L.length + 1 := by
  unfold insAt; simp; omega
theorem insAt_at (x : ByteArray) (k : Nat) (L : List ByteArray) (hk : k ≤ L.length) (j : Nat) : (insAt x k L)[j]? = if j < k then L[j]? else if j = k then some x else L[j - 1]? := by
  unfold insAt
  have hl : (L.take k).length = k := by simp; omega
  by_cases h1 : j < k
  · rw [if_pos h1, List.getElem?_append_left (by omega), List.getElem?_take_of_lt h1]
  rw [if_neg h1, List.getElem?_append_right (by omega), hl]
  by_cases h2 : j = k
  · subst h2; simp
  rw [if_neg h2]
  obtain ⟨m, rfl⟩ : ∃ m, j = k + m + 1 := ⟨j - k - 1, by omega⟩
  rw [show k + m + 1 - k = m + 1 by omega, List.getElem?_cons_succ, List.getElem?_drop]
  congr 1
theorem Fr.of {B : Nat} {w : World} {b o : Nat} {L : List ByteArray} (hB : B ≤ b) (hb : b < w.heap.size) (h : ∀ (j : Nat) (v : ByteArray), L[j]? = some v → w.cell? ⟨b, o + j, none⟩ = some (.string v)) : Fr B w (some ⟨b, o, none⟩) L :=
  .inr ⟨b, o, rfl, hB, hb, fun k hk => h k _ (List.getElem?_eq_getElem hk)⟩
theorem strs_at (L : List ByteArray) (j : Nat) : (strs L)[j]? = L[j]?.map Value.string := by unfold strs; simp
theorem strs_len (L : List ByteArray) : (strs L).length = L.length := by unfold strs; simp
theorem strs_one (L : List ByteArray) : ∀ v ∈ strs L, v.oneCell' = true := by
  intro v hv
  obtain ⟨x, _, rfl⟩ := List.mem_map.1 hv
  rfl
/-- An own row: the nil slice, or a block. -/
theorem own_cases {B : Nat} {w : World} {a : Option Addr} {c : Nat} {L : List ByteArray} (h : w.ownsRow B 9 1 (.slice a L.length c) L.length (strs L)) :
    (a = none ∧ c = 0 ∧ L = []) ∨ ∃ g cur, a = some ⟨g, 0, none⟩ ∧ B ≤ g ∧ w.heap[g]? = some (.cells cur 9) ∧ L.length ≤ c ∧ c ≤ maxLen ∧ cur.size = c ∧ ∀ (j : Nat) (v : Value), (strs L)[j]? = some v → w.cell? ⟨g, 0 + j, none⟩ = some v := by
  rcases h.2 with ⟨h0, h1⟩ | ⟨g, cap, cur, h1, h2, h3, h4, h5, h6, h7⟩
  · left
    injection h0 with h0 _ h2
    exact ⟨h0, h2, List.length_eq_zero_iff.1 h1⟩
  · right
    injection h1 with h1 _ h1'
    subst h1'
    refine ⟨g, cur, h1, h2, h3, h4, h5, by simpa using h6, fun j v hv => ?_⟩
    rw [cell_of_row w g _ _ _ _ h3, Nat.zero_add, ← Array.getElem?_toList]
    have hj : j < L.length := by rw [← strs_len]; exact (List.getElem?_eq_some_iff.1 hv).1
    rw [← hv, ← h7, List.getElem?_take_of_lt (by omega)]
theorem one_cell {w : World} {vb : Nat} {x : ByteArray} (hv : w.heap[vb]? = some (.cells #[.string x] 9)) : ∀ (j : Nat) (v : Value), [Value.string x][j]? = some v → w.cell? ⟨vb, 0 + j, none⟩ = some v := by
  intro j v h
  rw [cell_of_row w vb _ _ _ _ hv, Nat.zero_add]
  simpa using h
theorem shape_row {w : World} {b : Nat} {c : Array Value} {t : TypeId} (h : w.heap[b]? = some (.cells c t)) : w.shape? b = some (t, c.size) := by
  unfold World.shape?
  rw [h]

set_option maxHeartbeats 2000000 in
theorem insert_any (B k : Nat) (a : Option Addr) (c vb : Nat) (L : List ByteArray) (x : ByteArray) (w : World) (h : w.ownsRow B 9 1 (.slice a L.length c) L.length (strs L)) (hk : k ≤ L.length) (hL : L.length ≤ 1000)
    (hv : w.heap[vb]? = some (.cells #[.string x] 9)) (hne : ∀ g, a = some ⟨g, 0, none⟩ → vb ≠ g) (hB : B ≤ w.heap.size) :
    Calls Try.prog 89 #[.slice a L.length c, .int .i64 (k : Int), .slice (some ⟨vb, 0, none⟩) 1 1] w fun e w' => ∃ a' c', e = .returned (.slice a' (insAt x k L).length c') ∧ Fr B w' a' (insAt x k L) ∧ Below B w w' := by
  have hm : maxLen ≤ 9223372036854775807 := by unfold maxLen; omega
  have hvc := one_cell hv
  have hv1 : ∀ u ∈ [Value.string x], u.oneCell' = true := by simp [Value.oneCell']
  rw [insAt_len x k L hk]
  by_cases hkn : k < L.length
  · have hl0 : L ≠ [] := by intro e; rw [e] at hkn; simp at hkn
    rcases own_cases h with ⟨_, _, h0⟩ | ⟨g, cur, rfl, hg, hh, h4, h5, h6, hc⟩
    · exact absurd h0 hl0
    by_cases hr : L.length + 1 ≤ c
    · refine (Any2.slices_Insert_string_shift Try.laysNm222 g 0 L.length c k vb 0 1 1 (strs L) [.string x] w hkn (by omega) hr (by omega) (hne g rfl) (strs_len L) rfl hc (fun j hj => by
          rw [cell_of_row w g _ _ _ _ hh, Nat.zero_add, Array.getElem?_eq_getElem (by omega)]; rfl) (fun j _ => frozen_row hh _) hvc (strs_one L) hv1 9 9 1 c
          (by rw [shape_row hv]; rfl) (by rw [shape_row hh, h6]) (by omega) (frozen_row hv _) (frozen_row hv _)).mono ?_
      rintro e w' ⟨rfl, rfl⟩
      have hd : ((strs L).drop k).length = L.length - k := by rw [List.length_drop, strs_len]
      have hS : ∀ j, j < c → (w.drew.cell? ⟨g, j, none⟩).isSome = true := fun j hj => by
        show (w.cell? _).isSome = true
        rw [cell_of_row w g _ _ _ _ hh, Array.getElem?_eq_getElem (by omega)]; rfl
      have hS1 : ∀ j, j < c → ((w.drew.setCells g (0 + (k + 1)) ((strs L).drop k)).cell? ⟨g, j, none⟩).isSome = true := fun j hj => World.isSome_setCells _ _ _ _ _ (hS j hj)
      refine ⟨_, _, rfl, Fr.of hg (by rw [cells_size, cells_size]; exact lt_of_some hh) (fun j v hj => ?_), cells_below hg _ _ _ (cells_below hg _ _ _ (Below.refl _ _).drew)⟩
      rw [insAt_at x k L hk] at hj
      by_cases h1 : j < k
      · rw [if_pos h1] at hj
        rw [World.cell?_setCells_out _ _ _ _ _ (fun _ _ => by show 0 + j < _ ∨ _; left; omega), World.cell?_setCells_out _ _ _ _ _ (fun _ _ => by show 0 + j < _ ∨ _; left; omega)]
        exact hc j _ (by rw [strs_at, hj]; rfl)
      rw [if_neg h1] at hj
      by_cases h2 : j = k
      · rw [if_pos h2] at hj
        injection hj with hj
        have := World.cell?_setCells_in g [Value.string x] (0 + k) (w.drew.setCells g (0 + (k + 1)) ((strs L).drop k)) (fun i hi => by simp at hi; rw [hi]; exact hS1 _ (by omega)) 0 (by simp)
        rw [h2, ← hj]; exact this
      rw [if_neg h2] at hj
      have hjl : j - 1 < L.length := (List.getElem?_eq_some_iff.1 hj).1
      rw [World.cell?_setCells_out _ _ _ _ _ (fun _ _ => by show _ ∨ _ ≤ 0 + j; right; simp; omega)]
      have := World.cell?_setCells_in g ((strs L).drop k) (0 + (k + 1)) w.drew (fun i hi => hS _ (by omega)) (j - k - 1) (by omega)
      rw [show 0 + (k + 1) + (j - k - 1) = 0 + j by omega] at this
      rw [this]
      have e : ((strs L).drop k)[j - k - 1]? = some (.string v) := by
        rw [List.getElem?_drop, show k + (j - k - 1) = j - 1 by omega, strs_at, hj]; rfl
      rw [← List.getElem?_eq_getElem]; exact e
    · refine (Any2.slices_Insert_string_grow Try.laysNm222 g 0 L.length c k vb 0 1 1 (strs L) [.string x] w hkn (by omega) h4 (by omega) (by omega) (strs_len L) rfl hc hvc (strs_one L) hv1).mono ?_
      rintro e w' ⟨rfl, rfl⟩
      have hGn : L.length + 1 ≤ grownCap w (L.length + 1) c 9 := grownCap_ge w _ _ _
      show ∃ a' c', Ending.returned (.slice (some ⟨w.heap.size, 0, none⟩) (L.length + 1) (grownCap w (L.length + 1) c 9)) = _ ∧ _
      obtain ⟨ROW, hROW⟩ : ∃ ROW : Array Value, ROW = ((strs L).take k).toArray ++ Builtin.zeroCells (Value.string ⟨#[]⟩).cells (L.length + 1 - k) ++ Builtin.zeroCells (Value.string ⟨#[]⟩).cells (grownCap w (L.length + 1) c 9 - (L.length + 1)) := ⟨_, rfl⟩
      have hRl : L.length + 1 ≤ ROW.size := by
        rw [hROW]
        simp [Builtin.zeroCells, Value.cells, strs_len]
        omega
      have hRa : ∀ j, j < k → ROW[j]? = (strs L)[j]? := fun j hj => by
        rw [hROW, Array.append_assoc, Array.getElem?_append_left (by simp [strs_len]; omega)]
        simp [List.getElem?_take_of_lt hj]
      show ∃ a' c', _ ∧ Fr B ((((w.alloc (.cells (((strs L).take k).toArray ++ Builtin.zeroCells (Value.string ⟨#[]⟩).cells (L.length + 1 - k) ++ Builtin.zeroCells (Value.string ⟨#[]⟩).cells (grownCap w (L.length + 1) c 9 - (L.length + 1))) 9)).drew.setCells w.heap.size k [.string x]).drew).setCells w.heap.size (k + 1) ((strs L).drop k)) a' _ ∧ Below B w ((((w.alloc (.cells (((strs L).take k).toArray ++ Builtin.zeroCells (Value.string ⟨#[]⟩).cells (L.length + 1 - k) ++ Builtin.zeroCells (Value.string ⟨#[]⟩).cells (grownCap w (L.length + 1) c 9 - (L.length + 1))) 9)).drew.setCells w.heap.size k [.string x]).drew).setCells w.heap.size (k + 1) ((strs L).drop k))
      rw [← hROW]
      have hN : ∀ (j : Nat), (w.alloc (.cells ROW 9)).cell? ⟨w.heap.size, j, none⟩ = ROW[j]? := fun j => by
        rw [cell_of_row _ w.heap.size j ROW 9 (0, 0) (by rw [heap_alloc_if, if_pos rfl])]
      have hS : ∀ j, j < L.length + 1 → ((w.alloc (.cells ROW 9)).drew.cell? ⟨w.heap.size, j, none⟩).isSome = true := fun j hj => by
        show ((w.alloc (.cells ROW 9)).cell? _).isSome = true
        rw [hN, Array.getElem?_eq_getElem (by omega)]; rfl
      have hS1 : ∀ j, j < L.length + 1 → ((((w.alloc (.cells ROW 9)).drew.setCells w.heap.size k [.string x]).drew).cell? ⟨w.heap.size, j, none⟩).isSome = true := fun j hj => World.isSome_setCells _ _ _ _ _ (hS j hj)
      have hd : ((strs L).drop k).length = L.length - k := by rw [List.length_drop, strs_len]
      refine ⟨_, _, rfl, Fr.of hB (by rw [cells_size]; show _ < ((w.alloc (.cells ROW 9)).drew.setCells w.heap.size k [.string x]).heap.size; rw [cells_size]; show _ < (w.alloc (.cells ROW 9)).heap.size; simp) (fun j v hj => ?_),
        cells_below hB _ _ _ (cells_below hB _ _ _ ((Below.refl _ _).alloc hB _).drew).drew⟩
      rw [insAt_at x k L hk] at hj
      by_cases h1 : j < k
      · rw [if_pos h1] at hj
        rw [World.cell?_setCells_out _ _ _ _ _ (fun _ _ => by show 0 + j < _ ∨ _; left; omega)]
        show ((w.alloc (.cells ROW 9)).drew.setCells w.heap.size k [.string x]).cell? _ = _
        rw [World.cell?_setCells_out _ _ _ _ _ (fun _ _ => by show 0 + j < _ ∨ _; left; omega)]
        show (w.alloc (.cells ROW 9)).cell? _ = _
        rw [hN, Nat.zero_add, hRa j h1, strs_at, hj]; rfl
      rw [if_neg h1] at hj
      by_cases h2 : j = k
      · rw [if_pos h2] at hj
        injection hj with hj
        rw [World.cell?_setCells_out _ _ _ _ _ (fun _ _ => by show 0 + j < _ ∨ _; left; omega)]
        have := World.cell?_setCells_in w.heap.size [Value.string x] k (w.alloc (.cells ROW 9)).drew (fun i hi => by simp at hi; rw [hi]; exact hS _ (by omega)) 0 (by simp)
        rw [h2, ← hj, Nat.zero_add]; exact this
      rw [if_neg h2] at hj
      have hjl : j - 1 < L.length := (List.getElem?_eq_some_iff.1 hj).1
      have := World.cell?_setCells_in w.heap.size ((strs L).drop k) (k + 1) ((w.alloc (.cells ROW 9)).drew.setCells w.heap.size k [.string x]).drew (fun i hi => hS1 _ (by omega)) (j - k - 1) (by omega)
      rw [show k + 1 + (j - k - 1) = 0 + j by omega] at this
      rw [this]
      have e : ((strs L).drop k)[j - k - 1]? = some (.string v) := by
        rw [List.getElem?_drop, show k + (j - k - 1) = j - 1 by omega, strs_at, hj]; rfl
      rw [← List.getElem?_eq_getElem]; exact e
  · obtain rfl : k = L.length := by omega
    have hat : ∀ (j : Nat) (v : ByteArray), (insAt x L.length L)[j]? = some v → (j < L.length ∧ L[j]? = some v) ∨ (j = L.length ∧ x = v) := fun j v hj => by
      rw [insAt_at x _ L hk] at hj
      by_cases h1 : j < L.length
      · rw [if_pos h1] at hj; exact .inl ⟨h1, hj⟩
      rw [if_neg h1] at hj
      by_cases h2 : j = L.length
      · rw [if_pos h2] at hj; exact .inr ⟨h2, Option.some.inj hj⟩
      rw [if_neg h2] at hj
      have := (List.getElem?_eq_some_iff.1 hj).1
      omega
    by_cases hr : L.length + 1 ≤ c
    · rcases own_cases h with ⟨_, h0, _⟩ | ⟨g, cur, rfl, hg, hh, h4, h5, h6, hc⟩
      · omega
      refine (Any2.slices_Insert_string_end_room Try.laysNm222 g 0 L.length c vb 0 1 1 [.string x] w (by omega) hr (by omega) rfl (fun j hj => by
          rw [cell_of_row w g _ _ _ _ hh, Array.getElem?_eq_getElem (by omega)]; rfl) (fun j _ => frozen_row hh _) hvc hv1).mono ?_
      rintro e w' ⟨rfl, rfl⟩
      refine ⟨_, _, rfl, Fr.of hg (by rw [cells_size]; exact lt_of_some hh) (fun j v hj => ?_), cells_below hg _ _ _ (Below.refl _ _)⟩
      rcases hat j v hj with ⟨h1, h2⟩ | ⟨rfl, rfl⟩
      · rw [World.cell?_setCells_out _ _ _ _ _ (fun _ _ => by show 0 + j < _ ∨ _; left; omega)]
        exact hc j _ (by rw [strs_at, h2]; rfl)
      · have := World.cell?_setCells_in g [Value.string x] (0 + L.length) w (fun i hi => by
          simp at hi
          rw [hi, cell_of_row w g _ _ _ _ hh, Array.getElem?_eq_getElem (by omega)]; rfl) 0 (by simp)
        exact this
    · have hb : (L.length + 1) * 16 ≤ 140737488355328 := by omega
      have hGn : L.length + 1 ≤ grownCap w (L.length + 1) c 9 := grownCap_ge w _ _ _
      have hnc : L.length ≤ c := by
        rcases own_cases h with ⟨_, _, h0⟩ | ⟨g, cur, _, _, _, h4, _⟩
        · rw [h0]; simp
        · exact h4
      refine (Any2.slices_Insert_string_end_grow Try.laysNm222 a L.length c vb 0 1 1 (strs L) [.string x] w (by omega) hnc (by omega) hb (strs_len L) rfl (fun e => by
          rcases own_cases h with ⟨_, _, h0⟩ | ⟨g, cur, h1, _⟩
          · rw [h0]; rfl
          · rw [e] at h1; cases h1) (fun p hp j v hj => by
          rcases own_cases h with ⟨h1, _⟩ | ⟨g, cur, h1, _, _, _, _, _, hc⟩
          · rw [hp] at h1; cases h1
          · rw [hp] at h1
            injection h1 with h1
            rw [h1, Addr.add_lit]
            exact hc j v hj) hvc hv1).mono ?_
      rintro e w' ⟨rfl, rfl⟩
      show ∃ a' c', Ending.returned (.slice (some ⟨w.heap.size, 0, none⟩) (L.length + 1) (grownCap w (L.length + 1) c 9)) = _ ∧ Fr B (w.drew.alloc (.cells ((strs L ++ [Value.string x]).toArray ++ Builtin.zeroCells (Value.string ⟨#[]⟩).cells (grownCap w (L.length + 1) c 9 - (L.length + 1))) 9)) a' _ ∧ Below B w (w.drew.alloc (.cells ((strs L ++ [Value.string x]).toArray ++ Builtin.zeroCells (Value.string ⟨#[]⟩).cells (grownCap w (L.length + 1) c 9 - (L.length + 1))) 9))
      refine ⟨_, _, rfl, Fr.of hB (by simp) (fun j v hj => ?_), (Below.refl _ _).drew.alloc hB _⟩
      rw [cell_of_row _ w.heap.size (0 + j) _ 9 (0, 0) (by rw [heap_alloc_if]; exact if_pos rfl), Nat.zero_add]
      rcases hat j v hj with ⟨h1, h2⟩ | ⟨rfl, rfl⟩
      · rw [Array.getElem?_append_left (by simp [strs_len]; omega)]
        have e : (strs L ++ [Value.string x])[j]? = some (.string v) := by
          rw [List.getElem?_append_left (by rw [strs_len]; exact h1), strs_at, h2]; rfl
        simpa using e
      · rw [Array.getElem?_append_left (by simp [strs_len])]
        simp [strs_len]
end Go.Proofs.Ytphbkbjgjicncaa
