/-
  A file that may be stays one that may be.
-/
import Derived.Test.YtphbkbjgjicncaaGreatVal
namespace Go.Proofs.YtphbkbjgjicncaaGreat
open Go Go.RowKit

theorem ls_asym (a b : ByteArray) (h : lsB a b = true) : lsB b a = false := by
  cases k : lsB b a with
  | false => rfl
  | true => exact absurd ⟨h, k⟩ (nm.lxl_not _ _)
theorem ls_total (a b : ByteArray) (h : a ≠ b) (k : lsB a b = false) : lsB b a = true := by
  rcases nm.lxl_or (nm.pl (nm.li a)) (nm.pl (nm.li b)) (fun e => h (nm.li_inj (nm.pl_inj _ _ e))) with q | q
  · have : lsB a b = true := q
    rw [k] at this; cases this
  · exact q
theorem ls_trans (a b c : ByteArray) (h : lsB a b = true) (k : lsB b c = true) : lsB a c = true := nm.lxl_trans _ _ _ h k
def ins (x : ByteArray) : List ByteArray → List ByteArray
  | [] => [x]
  | y :: l => if lsB y x = true then y :: ins x l else x :: y :: l
theorem ins_at (x : ByteArray) (L : List ByteArray) : insAt x (plc x L) L = ins x L := by
  induction L with
  | nil => rfl
  | cons y l ih =>
    unfold ins plc
    by_cases h : lsB y x = true
    · rw [if_pos h, if_pos h, ← ih]; rfl
    · rw [if_neg h, if_neg h]; rfl
theorem ins_mem_iff (x z : ByteArray) (L : List ByteArray) : z ∈ ins x L ↔ z = x ∨ z ∈ L := by
  induction L with
  | nil => simp [ins]
  | cons y l ih =>
    unfold ins
    split
    · simp [ih]
      exact ⟨fun h => by rcases h with h | h | h <;> simp [h], fun h => by rcases h with h | h | h <;> simp [h]⟩
    · simp
theorem ins_length (x : ByteArray) (L : List ByteArray) : (ins x L).length = L.length + 1 := by
  induction L with
  | nil => rfl
  | cons y l ih =>
    unfold ins
    split
    · simp [ih]
    · simp
abbrev Sorted (L : List ByteArray) : Prop := L.Pairwise (fun a b => lsB a b = true)
theorem ins_sorted (x : ByteArray) (L : List ByteArray) (h : Sorted L) (hx : x ∉ L) : Sorted (ins x L) := by
  induction L with
  | nil => simp [ins, Sorted]
  | cons y l ih =>
    obtain ⟨h1, h2⟩ := List.pairwise_cons.1 h
    unfold ins
    split
    · rename_i q
      refine List.pairwise_cons.2 ⟨fun z hz => ?_, ih h2 (fun e => hx (List.mem_cons_of_mem _ e))⟩
      rcases (ins_mem_iff x z l).1 hz with rfl | hz
      · exact q
      · exact h1 z hz
    · rename_i q
      have hy : lsB x y = true := ls_total y x (fun e => hx (e ▸ List.mem_cons_self)) (by simpa using q)
      refine List.pairwise_cons.2 ⟨fun z hz => ?_, h⟩
      rcases List.mem_cons.1 hz with rfl | hz
      · exact hy
      · exact ls_trans _ _ _ hy (h1 z hz)
theorem getD_at (L : List ByteArray) (k : Nat) (h : k < L.length) : L.getD k em = L[k] := (at_getD L k h).symm
theorem tog_iff (L : List ByteArray) : togB L = true ↔ L.length ≤ 4 ∧ (∀ x ∈ L, vdB x = true) ∧ Sorted L := by
  unfold togB
  rw [Bool.and_eq_true, decide_eq_true_eq, List.all_eq_true]
  constructor
  · rintro ⟨h4, h⟩
    have hv : ∀ k (hk : k < L.length), vdB L[k] = true := fun k hk => by
      have := h k (List.mem_range.2 hk)
      unfold okAt at this
      rw [Bool.and_eq_true, getD_at L k hk] at this
      exact this.1
    have hn : ∀ k (hk : k + 1 < L.length), lsB L[k] L[k + 1] = true := fun k hk => by
      have := h (k + 1) (List.mem_range.2 hk)
      unfold okAt at this
      rw [Bool.and_eq_true, Bool.or_eq_true] at this
      rcases this.2 with q | q
      · simp at q
      · rw [Nat.add_sub_cancel, getD_at L k (by omega), getD_at L (k + 1) hk] at q; exact q
    refine ⟨h4, fun x hx => ?_, List.pairwise_iff_getElem.2 fun i j hi hj hij => ?_⟩
    · obtain ⟨k, hk, rfl⟩ := List.getElem_of_mem hx
      exact hv k hk
    · obtain ⟨d, rfl⟩ : ∃ d, j = i + 1 + d := ⟨j - i - 1, by omega⟩
      clear hij
      induction d with
      | zero => exact hn i hj
      | succ d ih => exact ls_trans _ _ _ (ih (by omega)) (hn (i + 1 + d) (by omega))
  · rintro ⟨h4, hv, hp⟩
    refine ⟨h4, fun k hk => ?_⟩
    have hk' := List.mem_range.1 hk
    unfold okAt
    rw [getD_at L k hk', hv _ (List.getElem_mem hk'), Bool.true_and, Bool.or_eq_true]
    by_cases h0 : k = 0
    · left; simp [h0]
    · right
      rw [getD_at L (k - 1) (by omega)]
      exact List.pairwise_iff_getElem.1 hp (k - 1) k (by omega) hk' (by omega)
theorem tog_nil : togB [] = true := rfl
theorem vl_iff (f : Fl) (L : List ByteArray) : vlB f L = true ↔ gvB f.id = true ∧ vdB f.nm = true ∧ f.da.size ≤ 600 ∧ 0 ≤ f.un ∧ f.un ≤ 1099511627776 ∧ (f.se = true ∨ (f.un = 0 ∧ L.length = 0)) ∧ togB L = true := by
  unfold vlB
  simp only [Bool.and_eq_true, Bool.or_eq_true, decide_eq_true_eq]

/-- What is done to a file that may be makes one that may be. -/
theorem do_valid (f : Fl) (L : List ByteArray) (o : Opv) (fl : Int) (hv : vlB f L = true) (hc : (doneR f L o fl).2.2 = 0) (h6 : o.kind ≠ 6) :
    vlB (doneR f L o fl).1 (doneR f L o fl).2.1 = true ∧ (doneR f L o fl).1.id = f.id ∧ (doneR f L o fl).1.nm = f.nm := by
  obtain ⟨v1, v2, v3, v4, v5, v6, v7⟩ := (vl_iff f L).1 hv
  unfold doneR at hc ⊢
  by_cases k0 : o.kind = 0
  · rw [if_pos k0] at hc; exact absurd (show (4 : Int) = 0 from hc) (by decide)
  rw [if_neg k0] at hc ⊢
  by_cases k1 : o.kind = 1
  · rw [if_pos k1] at hc ⊢
    dsimp only at hc ⊢
    unfold appF at hc ⊢
    split at hc
    · exact absurd (show (5 : Int) = 0 from hc) (by decide)
    split at hc
    · exact absurd (show (1 : Int) = 0 from hc) (by decide)
    split at hc
    · exact absurd (show (10 : Int) = 0 from hc) (by decide)
    rename_i q1 q2 q3
    rw [if_neg q1, if_neg q2, if_neg q3]
    refine ⟨(vl_iff _ L).2 ⟨v1, v2, ?_, v4, v5, v6, v7⟩, rfl, rfl⟩
    show (f.da ++ o.tx).size ≤ 600
    rw [ByteArray.size_append]; omega
  rw [if_neg k1] at hc ⊢
  by_cases k2 : o.kind = 2
  · rw [if_pos k2] at hc ⊢
    dsimp only at hc ⊢
    unfold sealF at hc ⊢
    split at hc
    · exact absurd (show (5 : Int) = 0 from hc) (by decide)
    split at hc
    · exact absurd (show (1 : Int) = 0 from hc) (by decide)
    rename_i q1 q2
    rw [if_neg q1, if_neg q2]
    have ht : 0 ≤ o.tm ∧ o.tm ≤ 1099511627776 := by
      have : tmB o.tm = true := by simpa using q2
      simpa [tmB] using this
    exact ⟨(vl_iff _ L).2 ⟨v1, v2, v3, ht.1, ht.2, .inl rfl, v7⟩, rfl, rfl⟩
  rw [if_neg k2] at hc ⊢
  by_cases k3 : o.kind = 3
  · rw [if_pos k3] at hc ⊢
    dsimp only at hc ⊢
    unfold extF at hc ⊢
    split at hc
    · exact absurd (show (6 : Int) = 0 from hc) (by decide)
    split at hc
    · exact absurd (show (1 : Int) = 0 from hc) (by decide)
    split at hc
    · exact absurd (show (7 : Int) = 0 from hc) (by decide)
    rename_i q1 q2 q3
    rw [if_neg q1, if_neg q2, if_neg q3]
    have ht : 0 ≤ o.tm ∧ o.tm ≤ 1099511627776 := by
      have : tmB o.tm = true := by simpa using q2
      simpa [tmB] using this
    exact ⟨(vl_iff _ L).2 ⟨v1, v2, v3, ht.1, ht.2, .inl (by simpa using q1), v7⟩, rfl, rfl⟩
  rw [if_neg k3] at hc ⊢
  by_cases k4 : o.kind = 4
  · rw [if_pos k4] at hc ⊢
    dsimp only at hc ⊢
    rcases hold_code f.se o.tx L with ⟨_, hse, hvx, hnc, h4⟩ | ⟨hne, _⟩
    · have hL : hldL f.se o.tx L = ins o.tx L := by unfold hldL; rw [if_pos hc, ins_at]
      rw [hL]
      obtain ⟨t1, t2, t3⟩ := (tog_iff L).1 v7
      refine ⟨(vl_iff _ _).2 ⟨v1, v2, v3, v4, v5, .inl hse, (tog_iff _).2 ⟨by rw [ins_length]; omega, fun z hz => ?_, ins_sorted _ _ t3 (not_in _ _ hnc)⟩⟩, rfl, rfl⟩
      rcases (ins_mem_iff _ _ _).1 hz with rfl | hz
      · exact hvx
      · exact t2 z hz
    · exact absurd hc hne
  rw [if_neg k4] at hc ⊢
  by_cases k5 : o.kind = 5
  · rw [if_pos k5] at hc ⊢
    dsimp only at hc ⊢
    obtain ⟨t1, t2, t3⟩ := (tog_iff L).1 v7
    have hsub : (rmv o.tx L).Sublist L := by
      unfold rmv
      split
      · exact List.eraseIdx_sublist _ _
      · exact List.Sublist.refl _
    refine ⟨(vl_iff _ _).2 ⟨v1, v2, v3, v4, v5, ?_, (tog_iff _).2 ⟨Nat.le_trans hsub.length_le t1, fun z hz => t2 z (hsub.subset hz), t3.sublist hsub⟩⟩, rfl, rfl⟩
    rcases v6 with q | ⟨q, q2⟩
    · exact .inl q
    · exact .inr ⟨q, by have := hsub.length_le; omega⟩
  rw [if_neg k5, if_neg h6] at hc
  exact absurd (show (1 : Int) = 0 from hc) (by decide)
end Go.Proofs.YtphbkbjgjicncaaGreat
