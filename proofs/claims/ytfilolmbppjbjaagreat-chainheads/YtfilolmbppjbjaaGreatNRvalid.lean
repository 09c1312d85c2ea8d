/-
  What Valid and Less of the reference return: for every argument of a bounded length.
-/
import Derived.Test.YtfilolmbppjbjaaGreatNRunes
namespace Go.Proofs.YtfilolmbppjbjaaGreat.nm
open Go.RowKit

/-- A slice of places. -/
structure Pls (v : Value) (q : List Nat) (g cap : Nat) (w : World) : Prop where
  val : v = .slice (some ⟨g, 0, none⟩) q.length cap
  lt : g < w.heap.size
  at_ : ∀ j (h : j < q.length), w.cell? ⟨g, j, none⟩ = some (.int .i64 ((q[j] : Nat) : Int))
theorem Pls.keep {v : Value} {q : List Nat} {g cap : Nat} {w w' : World} (h : Pls v q g cap w) (hb : Below w.heap.size w w') : Pls v q g cap w' :=
  ⟨h.val, Nat.lt_of_lt_of_le h.lt hb.size, fun j hj => (hb.cell (p := ⟨g, j, none⟩) h.lt).trans (h.at_ j hj)⟩
theorem pls_of {w : World} {B : Nat} {v : Value} {q : List Nat} (h : w.ownsRow B 3 1 v q.length (ints q)) : (q = [] ∧ ∃ a c, v = .slice a 0 c) ∨ (q ≠ [] ∧ ∃ g cap, Pls v q g cap w) := by
  rcases h.2 with ⟨rfl, h0⟩ | ⟨g, cap, cur, rfl, hB, hg, hn, hc, hs, ht⟩
  · exact .inl ⟨List.length_eq_zero_iff.mp h0, none, 0, rfl⟩
  · by_cases hq : q = []
    · subst hq; exact .inl ⟨rfl, _, _, rfl⟩
    · refine .inr ⟨hq, g, cap, rfl, (Array.getElem?_eq_some_iff.1 hg).1, fun j hj => ?_⟩
      rw [Lib.cell_of_heap hg]
      show cur[j]? = _
      rw [Nat.mul_one] at ht
      have e : cur.toList[j]? = (ints q)[j]? := by
        rw [← ht, List.getElem?_take, if_pos hj]
      rw [← Array.getElem?_toList, e]
      simp [ints, hj]

theorem vld_nil (s : ByteArray) (h : pl (li s) = []) : vld (li s) = false := by unfold vld; rw [h]; rfl
theorem vld_no (l : List UInt8) (h : ¬ ((pl l).length ≤ 24 ∧ (∀ p ∈ pl l, okn p) ∧ (pl l).head? ≠ some 32 ∧ (pl l).getLast?.getD 32 ≠ 32)) : vld l = false := by
  cases e : vld l
  · rfl
  · exact absurd ((vld_iff l).1 e) h

theorem pls_gen {w : World} {B : Nat} {v : Value} {q : List Nat} (h : w.ownsRow B 3 1 v q.length (ints q)) : ∃ A c, v = .slice A q.length c ∧ (q ≠ [] → ∃ g, A = some ⟨g, 0, none⟩ ∧ Pls v q g c w) := by
  rcases pls_of h with ⟨rfl, a, c, rfl⟩ | ⟨hq, g, cap, hP⟩
  · exact ⟨a, c, rfl, fun h => absurd rfl h⟩
  · exact ⟨_, cap, hP.val, fun _ => ⟨g, rfl, hP⟩⟩

theorem lxl_at {x y : List Nat} {k : Nat} (hx : k < x.length) (hy : k < y.length) : lxl (x.drop k) (y.drop k) = if x[k] = y[k] then lxl (x.drop (k + 1)) (y.drop (k + 1)) else decide (x[k] < y[k]) := by
  rw [List.drop_eq_getElem_cons hx, List.drop_eq_getElem_cons hy]
  rfl
theorem lxl_over {x y : List Nat} {k : Nat} (hx : k ≤ x.length) (hy : k ≤ y.length) (h : ¬ (k < x.length ∧ k < y.length)) : lxl (x.drop k) (y.drop k) = decide (x.length < y.length) := by
  by_cases hx' : k = x.length
  · rw [List.drop_eq_nil_of_le (by omega : x.length ≤ k)]
    by_cases hy' : k = y.length
    · rw [List.drop_eq_nil_of_le (by omega : y.length ≤ k)]
      simp [lxl]; omega
    · rw [List.drop_eq_getElem_cons (by omega : k < y.length)]
      rw [lxl_first]; simp; omega
  · rw [List.drop_eq_nil_of_le (by omega : y.length ≤ k), lxl_nil]
    simp; omega

theorem below_drewN {B : Nat} {a w : World} (h : Below B a w) (n : Nat) : Below B a (w.drewN n) := ⟨h.os, h.tape, h.output, h.size, h.block⟩

end Go.Proofs.YtfilolmbppjbjaaGreat.nm
