/-
  What the library's searches, and its two changes, of a row of texts come to.
-/
import Derived.Test.YtphbkbjgjicncaaLeafs
namespace Go.Proofs.Ytphbkbjgjicncaa
open Go Go.RowKit Go.Sort

/-- What is known lies below what was changed. -/
theorem KW.under {B B' : Nat} {w v v' : World} {L : List (Nat × Obj)} (h : KW B w L v) (hb : Below B' v v') (hB : B ≤ B') (hL : ∀ x ∈ L, x.1 < B') : KW B w L v' :=
  ⟨h.le, h.bel.trans (hb.mono hB), fun x hx => (hb.block _ (hL x hx)).trans (h.has x hx), h.nd⟩

theorem index_any (a : Option Addr) (c : Nat) (L : List ByteArray) (x : ByteArray) (w : World) (h : StrAt w.heap.size w a L) (hL : L.length ≤ 1000) :
    Calls Try.prog 91 #[.slice a L.length c, .string x] w fun e w' => e = .returned (.int .i64 (Lib.idxOfS L x)) ∧ w = w' := by
  rcases h with rfl | ⟨b, o, rfl, _, h3⟩
  · exact (Try.slices_Index_string_empty a c x w).mono fun e w' ⟨he, hw⟩ => ⟨he, hw.symm⟩
  · refine (Try.slices_Index_string b o L.length c L x w (Nat.le_refl _) (by omega) (fun j hj => by rw [h3 j hj, List.getD_eq_getElem?_getD, List.getElem?_eq_getElem hj]; rfl)).mono ?_
    rintro e w' ⟨rfl, rfl⟩
    rw [List.take_length]
    exact ⟨rfl, rfl⟩
theorem contains_any (a : Option Addr) (c : Nat) (L : List ByteArray) (x : ByteArray) (w : World) (h : StrAt w.heap.size w a L) (hL : L.length ≤ 1000) :
    Calls Try.prog 88 #[.slice a L.length c, .string x] w fun e w' => e = .returned (.bool (Lib.containsS L x)) ∧ w = w' := by
  rcases h with rfl | ⟨b, o, rfl, _, h3⟩
  · exact (Try.slices_Contains_string_empty a c x w).mono fun e w' ⟨he, hw⟩ => ⟨by rw [he]; rfl, hw.symm⟩
  · refine (Try.slices_Contains_string b o L.length c L x w (Nat.le_refl _) (by omega) (fun j hj => by rw [h3 j hj, List.getD_eq_getElem?_getD, List.getElem?_eq_getElem hj]; rfl)).mono ?_
    rintro e w' ⟨rfl, rfl⟩
    rw [List.take_length]
    exact ⟨rfl, rfl⟩
theorem idx_cases (L : List ByteArray) (x : ByteArray) : (x ∉ L ∧ Lib.idxOfS L x = -1) ∨ ∃ k, k < L.length ∧ Lib.idxOfS L x = (k : Int) ∧ L[k]? = some x ∧ ∀ j, j < k → L[j]? ≠ some x := by
  by_cases h : x ∈ L
  · right
    obtain ⟨k, hk, h1, h2⟩ : ∃ k, ∃ hk : k < L.length, L[k] = x ∧ ∀ j (hj : j < k), L[j]'(by omega) ≠ x := by
      induction L with
      | nil => cases h
      | cons y l ih =>
        by_cases e : y = x
        · exact ⟨0, by simp, by simpa using e, fun j hj => by omega⟩
        · rcases List.mem_cons.1 h with h | h
          · exact absurd h.symm e
          obtain ⟨k, hk, h1, h2⟩ := ih h
          refine ⟨k + 1, by simp; omega, by simpa using h1, fun j hj => ?_⟩
          cases j with
          | zero => simpa using e
          | succ j => simpa using h2 j (by omega)
    refine ⟨k, hk, ?_, by rw [List.getElem?_eq_getElem hk, h1], fun j hj => by rw [List.getElem?_eq_getElem (by omega)]; intro e; exact h2 j hj (Option.some.inj e)⟩
    have := Lib.idxOfS_hit L L.length k x hk (Nat.le_refl _) (by rw [List.getD_eq_getElem?_getD, List.getElem?_eq_getElem hk]; exact h1) (fun j hj => by rw [List.getD_eq_getElem?_getD, List.getElem?_eq_getElem (by omega)]; exact h2 j hj)
    rwa [List.take_length] at this
  · left
    refine ⟨h, ?_⟩
    have h1 := Lib.idxOfS_nonneg_iff L x
    have h2 := Lib.idxOfS_miss L L.length x (fun j hj => by rw [List.getD_eq_getElem?_getD, List.getElem?_eq_getElem hj]; intro e; exact h (e ▸ List.getElem_mem _))
    rwa [List.take_length] at h2

theorem below_drewN {B : Nat} {a w : World} (h : Below B a w) (n : Nat) : Below B a (w.drewN n) := ⟨h.os, h.tape, h.output, h.size, h.block⟩
/-- What an own row of texts has in its cells. -/
theorem own_open {B : Nat} {w : World} {a : Option Addr} {c : Nat} {L : List ByteArray} (h : w.ownsRow B 9 1 (.slice a L.length c) L.length (strs L)) (h0 : L ≠ []) :
    ∃ g cur, a = some ⟨g, 0, none⟩ ∧ B ≤ g ∧ w.heap[g]? = some (.cells cur 9) ∧ L.length ≤ c ∧ c ≤ maxLen ∧ cur.size = c ∧ ∀ j (hj : j < L.length), w.cell? ⟨g, 0 + j, none⟩ = some (.string L[j]) := by
  have hs := strAt_own h
  rcases h.2 with ⟨_, h1⟩ | ⟨g, cap, cur, h1, h2, h3, h4, h5, h6, h7⟩
  · exact absurd (List.length_eq_zero_iff.1 h1) h0
  · injection h1 with h1 _ h1'
    subst h1'
    rcases hs with hs | ⟨b, o, hb, _, hc⟩
    · exact absurd hs h0
    rw [h1] at hb
    injection hb with hb
    injection hb with hb ho _
    subst hb
    subst ho
    exact ⟨g, cur, h1, h2, h3, h4, h5, by simpa using h6, hc⟩
theorem cells_size (b : Nat) : ∀ (vs : List Value) (o : Nat) (w : World), (w.setCells b o vs).heap.size = w.heap.size
  | [], _, _ => rfl
  | v :: r, o, w => by rw [World.setCells, cells_size b r, size_setCell]
theorem cells_below {B b : Nat} (hb : B ≤ b) {w0 : World} : ∀ (vs : List Value) (o : Nat) (w : World), Below B w0 w → Below B w0 (w.setCells b o vs)
  | [], _, _, h => h
  | v :: r, o, w, h => by rw [World.setCells]; exact cells_below hb r _ _ (h.setCell hb _)
theorem enc_strs (L : List ByteArray) : ((Lib.strsOf (fun j => L.getD j ByteArray.empty) L.length).map encStr) = strs L := by
  apply List.ext_getElem?
  intro i
  unfold Lib.strsOf strs
  rw [List.map_map, List.getElem?_map, List.getElem?_map]
  by_cases hi : i < L.length
  · rw [List.getElem?_range hi, List.getElem?_eq_getElem hi]
    simp [List.getD_eq_getElem?_getD, List.getElem?_eq_getElem hi]
  · rw [List.getElem?_eq_none (by simpa using hi), List.getElem?_eq_none (by simpa using hi)]; rfl
set_option maxHeartbeats 1000000 in
theorem delete_any (B i : Nat) (a : Option Addr) (c : Nat) (L : List ByteArray) (w : World) (h : w.ownsRow B 9 1 (.slice a L.length c) L.length (strs L)) (hi : i < L.length) :
    Calls Try.prog 92 #[.slice a L.length c, .int .i64 (i : Int), .int .i64 ((i + 1 : Nat) : Int)] w fun e w' => ∃ a' c', e = .returned (.slice a' (L.eraseIdx i).length c') ∧ Fr B w' a' (L.eraseIdx i) ∧ Below B w w' := by
  obtain ⟨g, cur, rfl, hg, hh, h4, h5, h6, hc⟩ := own_open h (by intro e; rw [e] at hi; simp at hi)
  have hm : maxLen ≤ 9223372036854775807 := by unfold maxLen; omega
  refine (Try.slices_Delete_string_cells g 0 L.length c i (i + 1) (fun j => L.getD j ByteArray.empty) w h4 (by omega) (by omega) (by omega) (fun j hj => by rw [hc j hj, List.getD_eq_getElem?_getD, List.getElem?_eq_getElem hj]; rfl) (fun j _ => frozen_row hh _)).mono ?_
  rintro e w' ⟨rfl, q, rfl⟩
  have e1 : L.length - (i + 1 - i) = (L.eraseIdx i).length := by rw [List.length_eraseIdx_of_lt hi]; omega
  rw [e1]
  have hv : ((Lib.strsOf (fun j => L.getD j ByteArray.empty) L.length).take i ++ (Lib.strsOf (fun j => L.getD j ByteArray.empty) L.length).drop (i + 1) ++ List.replicate (i + 1 - i) []).map encStr = strs (L.eraseIdx i) ++ [.string ⟨#[]⟩] := by
    rw [List.map_append, List.map_append, List.map_take, List.map_drop, enc_strs, List.eraseIdx_eq_take_drop_succ]
    unfold strs
    rw [List.map_append, List.map_take, List.map_drop, show i + 1 - i = 1 by omega]
    rfl
  rw [hv]
  have hlen : (strs (L.eraseIdx i) ++ [Value.string ⟨#[]⟩]).length = L.length := by
    unfold strs
    rw [List.length_append, List.length_map, List.length_eraseIdx_of_lt hi]; simp; omega
  refine ⟨_, _, rfl, .inr ⟨g, 0, rfl, hg, ?_, fun k hk => ?_⟩, ?_⟩
  · rw [cells_size]; exact lt_of_some hh
  · have hk' : k < L.length := by rw [List.length_eraseIdx_of_lt hi] at hk; omega
    rw [World.cell?_setCells_in g _ 0 (w.drewN q) (fun j hj => by
      have := hc j (by omega)
      show (w.cell? _).isSome = true
      rw [this]; rfl) k (by omega)]
    rw [List.getElem_append_left (by unfold strs; rw [List.length_map]; exact hk)]
    simp [strs]
  · exact cells_below hg _ _ _ (below_drewN (Below.refl _ _) q)
end Go.Proofs.Ytphbkbjgjicncaa
