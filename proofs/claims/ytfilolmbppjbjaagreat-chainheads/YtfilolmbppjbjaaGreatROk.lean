/-
  Whether an event may be, part by part, as the document's answer asks.
-/
import Derived.Test.YtfilolmbppjbjaaGreatRWire
namespace Go.Proofs.YtfilolmbppjbjaaGreat
open Go Go.RowKit

theorem okP_no (e : Ev) (h : ¬ (0 ≤ e.kind ∧ e.kind ≤ 7)) : okP e = false := by
  rw [Bool.eq_false_iff]
  intro hk
  unfold okP at hk
  rw [Bool.and_eq_true] at hk
  have : validP (.kind e.kind) = true := by
    refine List.all_eq_true.1 hk.1 _ ?_
    unfold partsOf
    repeat' split
    all_goals simp
  exact h ((wi_iff _ _ _).1 this)
theorem okP_eq (e : Ev) (h : 0 ≤ e.kind ∧ e.kind ≤ 7) : okP e = (vI e.kind e.id && vN nm.vld e.kind e.name && vT e.kind e.time && vL e.kind e.len && vS e.kind e.sum) := by
  obtain ⟨k, i, n, t, ln, s⟩ := e
  dsimp only at h ⊢
  have hc : k = 0 ∨ k = 1 ∨ k = 2 ∨ k = 3 ∨ k = 4 ∨ k = 5 ∨ k = 6 ∨ k = 7 := by omega
  clear h
  rw [Bool.eq_iff_iff]
  unfold okP
  rw [Bool.and_eq_true, evB_iff]
  rcases hc with rfl | rfl | rfl | rfl | rfl | rfl | rfl | rfl
  all_goals
    simp [partsOf, aboutP, jn, jOne, zeroE, validP, wi_iff, vI, vN, vT, vL, vS, tI, tN, tT, tL, tS, least]
    try (constructor <;> (intro h; simp_all) <;> omega)
end Go.Proofs.YtfilolmbppjbjaaGreat
