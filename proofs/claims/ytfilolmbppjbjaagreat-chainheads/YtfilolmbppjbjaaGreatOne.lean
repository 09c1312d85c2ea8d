/-
  Plain facts: bytes tell an event; two rows of events of one head are the same, or two texts have one digest.
-/
import Derived.Test.YtfilolmbppjbjaaGreatSameOf
namespace Go.Proofs.YtfilolmbppjbjaaGreat
open Go Go.RowKit

def vn (l : List UInt8) : Bool := nm.vld l && decide (l.length ≤ 100)
theorem vn_len (l : List UInt8) (h : vn l = true) : l.length ≤ 100 := by
  unfold vn at h
  rw [Bool.and_eq_true, decide_eq_true_eq] at h
  exact h.2
theorem wi_iff (n a b : Int) : wi n a b = true ↔ a ≤ n ∧ n ≤ b := by unfold wi; simp
theorem clI_eq {n : Int} (h : n ≤ 1099511627776) : clI n = n.toNat := by unfold clI big; omega
theorem okP_ok (e : Ev) (hf : e.fit) (h : okP e = true) : ok vn e = true ∧ putE e = put e := by
  have hn := hf.n
  unfold okP at h
  rw [Bool.and_eq_true, evB_iff] at h
  obtain ⟨h1, h2⟩ := h
  have hk : 0 ≤ e.kind ∧ e.kind ≤ 7 := by
    have : validP (.kind e.kind) = true := by
      refine List.all_eq_true.1 h1 _ ?_
      unfold partsOf
      repeat' split
      all_goals simp
    exact (wi_iff _ _ _).1 this
  obtain ⟨k, i, nm', t, ln, s⟩ := e
  dsimp only at hk hn
  have hc : k = 0 ∨ k = 1 ∨ k = 2 ∨ k = 3 ∨ k = 4 ∨ k = 5 ∨ k = 6 ∨ k = 7 := by omega
  rcases hc with rfl | rfl | rfl | rfl | rfl | rfl | rfl | rfl
  all_goals
    simp [partsOf, aboutP, jn, jOne, zeroE, validP, wi_iff] at h1 h2
    refine ⟨?_, ?_⟩
    · rw [ok_iff]
      constructor <;> simp [vI, vN, vT, vL, vS, tI, tN, tT, tL, tS, vn, least] <;> first | omega | (simp_all; done) | (simp_all; omega)
    · simp [putE, putL, partsOf, aboutP, putP, put, wh, tI, tN, tT, tL, tS]
      try simp [clI_eq, h1]
      try (rw [clI_eq (n := ln) (by omega)])
theorem putE_inj {d e : Ev} (hd : d.fit) (he : e.fit) (od : okP d = true) (oe : okP e = true) (h : putE d = putE e) : d = e := by
  obtain ⟨d1, d2⟩ := okP_ok d hd od
  obtain ⟨e1, e2⟩ := okP_ok e he oe
  exact (put_apart vn_len d1 e1 hd.w.s he.w.s (r := []) (by rw [← d2, ← e2, h]; simp)).1
theorem startD_len : startD.length = 32 := sha_len _
theorem told_snoc (l : List Ev) (e : Ev) (hl : l.all okP = true) (he : okP e = true) : told (l ++ [e]) = told l ++ [(headD startD l ++ putE e, nextD (headD startD l) e)] := by
  unfold told
  have h : (l ++ [e]).all okP = true := by simp [hl, he]
  rw [if_pos h, if_pos hl, tld_snoc]; rfl
theorem ins_snoc (l : List Ev) (e : Ev) (hl : l.all okP = true) (he : okP e = true) : (ins (l ++ [e])).reverse = (headD startD l ++ putE e) :: (ins l).reverse := by
  unfold ins
  rw [told_snoc l e hl he]
  simp
theorem ins_nil : (ins []).reverse = [CEN] := rfl
theorem split_last (l : List Ev) : l = [] ∨ ∃ k d, l = k ++ [d] := by
  rcases List.eq_nil_or_concat l with h | ⟨k, d, h⟩
  · exact .inl h
  · exact .inr ⟨k, d, by rw [h]; simp⟩
theorem lastD_told (l : List Ev) (hl : l.all okP = true) : lastD (told l) = headD startD l := by
  rcases split_last l with h | ⟨k, e, h⟩
  · subst h; rfl
  · subst h
    have h : k.all okP = true ∧ okP e = true := by simpa using hl
    rw [told_snoc k e h.1 h.2, lastD_snoc, headD_snoc]
theorem told_bad {l : List Ev} (h : l.all okP = false) : told l = [] := by unfold told; rw [h]; rfl
/-- What is told of two rows of one head that are not the same. -/
structure Clash (s t : List UInt8) : Prop where
  ne : s ≠ t
  eq : sha s = sha t
  ls : s.length ≤ 600
  lt : t.length ≤ 600
theorem fit_last {k : List Ev} {d : Ev} (h : Fit (k ++ [d])) : Fit k ∧ d.fit := ⟨fun e he => h e (by simp [he]), h d (by simp)⟩
theorem all_last {k : List Ev} {d : Ev} (h : (k ++ [d]).all okP = true) : k.all okP = true ∧ okP d = true := by simpa using h
theorem inp_le (D : List UInt8) (hD : D.length = 32) (e : Ev) (he : e.fit) : (D ++ putE e).length ≤ 600 := by
  have := putE_len e he
  rw [List.length_append]; omega
theorem cen_ne (D : List UInt8) (hD : D.length = 32) (l : List UInt8) : CEN ≠ D ++ l := by
  intro h
  have := congrArg List.length h
  rw [List.length_append, hD] at this
  have h8 : CEN.length = 8 := rfl
  omega
theorem clash : ∀ (n : Nat) (a b : List Ev), a.length = n → Fit a → Fit b → a.all okP = true → b.all okP = true → headD startD a = headD startD b → a ≠ b → ∃ s t, aptR (ins a).reverse (ins b).reverse = some (s, t) ∧ Clash s t := by
  intro n
  induction n with
  | zero =>
    intro a b hn fa fb oa ob hh hne
    have ha : a = [] := List.eq_nil_of_length_eq_zero hn
    subst ha
    rcases split_last b with h | ⟨l, e, h⟩
    · exact absurd h.symm hne
    · subst h
      obtain ⟨ol, oe⟩ := all_last ob
      obtain ⟨fl, fe⟩ := fit_last fb
      have hl32 := headD_len startD l startD_len
      refine ⟨CEN, headD startD l ++ putE e, ?_, cen_ne _ hl32 _, ?_, by decide, inp_le _ hl32 e fe⟩
      · rw [ins_nil, ins_snoc l e ol oe]
        unfold aptR
        rw [if_neg (cen_ne _ hl32 _)]
      · rw [headD_snoc] at hh; exact hh
  | succ n ih =>
    intro a b hn fa fb oa ob hh hne
    rcases split_last a with h | ⟨k, d, h⟩
    · subst h; simp at hn
    subst h
    obtain ⟨ok', od⟩ := all_last oa
    obtain ⟨fk, fd⟩ := fit_last fa
    have hk32 := headD_len startD k startD_len
    rcases split_last b with h | ⟨l, e, h⟩
    · subst h
      refine ⟨headD startD k ++ putE d, CEN, ?_, (cen_ne _ hk32 _).symm, ?_, inp_le _ hk32 d fd, by decide⟩
      · rw [ins_nil, ins_snoc k d ok' od]
        unfold aptR
        rw [if_neg (cen_ne _ hk32 _).symm]
      · rw [headD_snoc] at hh; exact hh
    · subst h
      obtain ⟨ol, oe⟩ := all_last ob
      obtain ⟨fl, fe⟩ := fit_last fb
      have hl32 := headD_len startD l startD_len
      rw [headD_snoc, headD_snoc] at hh
      rw [ins_snoc k d ok' od, ins_snoc l e ol oe]
      unfold aptR
      by_cases hu : headD startD k ++ putE d = headD startD l ++ putE e
      · rw [if_pos hu]
        obtain ⟨h1, h2⟩ := List.append_inj hu (by omega)
        have hde := putE_inj fd fe od oe h2
        subst hde
        refine ih k l (by simp at hn; omega) fk fl ok' ol h1 (fun h => hne (by rw [h]))
      · rw [if_neg hu]
        exact ⟨_, _, rfl, hu, hh, inp_le _ hk32 d fd, inp_le _ hl32 e fe⟩
theorem aptR_self (l : List (List UInt8)) : aptR l l = none := by
  induction l with
  | nil => rfl
  | cons x l ih => unfold aptR; rw [if_pos rfl]; exact ih
/-- What Collide answers, case by case. -/
theorem colR_none {a b : List Ev} (h : a.all okP = false ∨ b.all okP = false ∨ headD startD a ≠ headD startD b ∨ a = b) : colR a b = .tuple #[.string ⟨#[]⟩, .string ⟨#[]⟩, .bool false] := by
  have hap : ∀ x y : List (List UInt8), aptR x.reverse y.reverse = none → apR x y = .tuple #[.string ⟨#[]⟩, .string ⟨#[]⟩, .bool false] := fun x y h => apR_none h
  unfold colR
  split
  · rename_i he
    refine hap _ _ ?_
    rcases h with h | h | h | h
    · have : ins a = [] := by unfold ins; rw [told_bad h]; rfl
      rw [this]; rfl
    · have : ins b = [] := by unfold ins; rw [told_bad h]; rfl
      rw [this]; exact aptR_nil _
    · cases oa : a.all okP with
      | false =>
        have : ins a = [] := by unfold ins; rw [told_bad oa]; rfl
        rw [this]; rfl
      | true =>
        cases ob : b.all okP with
        | false =>
          have : ins b = [] := by unfold ins; rw [told_bad ob]; rfl
          rw [this]; exact aptR_nil _
        | true => rw [lastD_told a oa, lastD_told b ob] at he; exact absurd he h
    · rw [h]; exact aptR_self _
  · rfl
theorem colR_clash {a b : List Ev} (fa : Fit a) (fb : Fit b) (oa : a.all okP = true) (ob : b.all okP = true) (hh : headD startD a = headD startD b) (hne : a ≠ b) : ∃ s t, colR a b = .tuple #[.string ⟨s.toArray⟩, .string ⟨t.toArray⟩, .bool true] ∧ Clash s t := by
  obtain ⟨s, t, h1, h2⟩ := clash a.length a b rfl fa fb oa ob hh hne
  refine ⟨s, t, ?_, h2⟩
  unfold colR
  rw [lastD_told a oa, lastD_told b ob, if_pos hh, apR_some h1]
end Go.Proofs.YtfilolmbppjbjaaGreat
