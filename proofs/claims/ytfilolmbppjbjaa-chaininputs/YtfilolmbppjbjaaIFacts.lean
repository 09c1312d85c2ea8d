/-
  What the inputs of the heads are.
-/
import Derived.Test.YtfilolmbppjbjaaFWalks
import Derived.Test.YtfilolmbppjbjaaEGet
import Derived.Test.YtfilolmbppjbjaaIMore
namespace Go.Proofs.Ytfilolmbppjbjaa
open Go Go.RowKit
set_option linter.unusedVariables false

theorem inp_at {l : List Ev} (m : Nat) (hm : m < (told l).length) : inpD l (m : Int) = ((told l)[m]).1 := by
  unfold inpD
  rw [if_pos (by omega), Int.toNat_natCast, List.getElem?_eq_getElem hm]
  rfl
theorem tld_sha (d : List UInt8) (l : List Ev) : ∀ x ∈ tld d l, sha x.1 = x.2 := by
  induction l generalizing d with
  | nil => intro x hx; simp [tld] at hx
  | cons e l ih =>
    intro x hx
    simp only [tld, List.mem_cons] at hx
    rcases hx with rfl | hx
    · rfl
    · exact ih _ x hx
theorem told_shas (l : List Ev) : ∀ x ∈ told l, sha x.1 = x.2 := by
  intro x hx
  unfold told at hx
  split at hx
  · rcases List.mem_cons.1 hx with h | hx
    · rw [h]
      unfold startD
      exact Eq.refl (sha CEN)
    · exact tld_sha _ _ x hx
  · simp at hx
theorem tld_first (d : List UInt8) (l : List Ev) (k : Nat) (hk : k < l.length) (hk2 : k < (tld d l).length) : ((tld d l)[k]).1 = headD d (l.take k) ++ putE l[k] := by
  induction l generalizing d k with
  | nil => simp at hk
  | cons e l ih =>
    cases k with
    | zero => rfl
    | succ k => simp only [tld, List.getElem_cons_succ]; rw [ih _ _ (by simpa using hk)]; rfl
theorem inp_next {l : List Ev} (h : l.all okP = true) (k : Nat) (hk : k < l.length) : inpD l ((k + 1 : Nat) : Int) = headD startD (l.take k) ++ putE l[k] := by
  have ht : told l = (CEN, startD) :: tld startD l := by unfold told; rw [h, if_pos rfl]
  unfold inpD
  rw [if_pos (by omega), Int.toNat_natCast, ht, List.getElem?_cons_succ, List.getElem?_eq_getElem (by rw [tld_len]; exact hk)]
  exact tld_first startD l k hk (by rw [tld_len]; exact hk)
theorem inp_zero {l : List Ev} (h : l.all okP = true) : inpD l ((0 : Nat) : Int) = CEN := by
  have ht : told l = (CEN, startD) :: tld startD l := by unfold told; rw [h, if_pos rfl]
  unfold inpD
  rw [if_pos (by omega), ht]
  rfl
theorem inp_sha {l : List Ev} (h : l.all okP = true) (hl : Fit l) (m : Nat) (hm : m ≤ l.length) : sha (inpD l (m : Int)) = headD startD (l.take m) ∧ (inpD l (m : Int)).length ≤ 600 := by
  have hm' : m < (told l).length := by rw [told_ok_len h]; omega
  rw [inp_at m hm']
  have hx := List.getElem_mem hm'
  exact ⟨by rw [told_shas l _ hx, told_at h m], (told_fine l hl _ hx).1⟩
end Go.Proofs.Ytfilolmbppjbjaa
