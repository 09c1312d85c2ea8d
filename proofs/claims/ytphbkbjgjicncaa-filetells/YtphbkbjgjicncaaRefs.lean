/-
  What New of the document's answer returns.
-/
import Derived.Test.YtphbkbjgjicncaaSmall
import Derived.Test.YtphbkbjgjicncaaNRval
namespace Go.Proofs.Ytphbkbjgjicncaa
open Go Go.RowKit

theorem rname_any (x : ByteArray) (hx : x.size ≤ 1099511627776) (w : World) : Calls Try.prog 41 #[.string x] w fun e w' => e = .returned (.bool (vdB x)) ∧ Below w.heap.size w w' := nm.rvalid_any x hx w
theorem rless_b (a b : ByteArray) (ha : a.size ≤ 1099511627776) (hb : b.size ≤ 1099511627776) (w : World) : Calls Try.prog 42 #[.string a, .string b] w fun e w' => e = .returned (.bool (lsB a b)) ∧ Below w.heap.size w w' := nm.rless_any a b ha hb w

set_option maxHeartbeats 1000000 in
theorem rnew_any (i : Int) (s : ByteArray) (w : World) (hs : s.size ≤ 1099511627776) :
    Calls Try.prog 21 #[.int .i64 i, .string s] w fun e w' => e = .returned (.tuple #[.agg (flr (newF i s).1), .int .i64 (newF i s).2]) ∧ Below w.heap.size w w' := by
  have hF : Hid (newF i s = if vdB s = false then (fl0, 2) else if gvB i = false then (fl0, 1) else (⟨i, s, em, false, 0, none, 0, 0⟩, 0)) := Lib.hid rfl
  have cv := Lib.hid (fun v => rname_any s hs v)
  have hg : Hid (gvB i = decide (1 ≤ i ∧ i ≤ 1099511627776)) := Lib.hid rfl
  generalize newF i s = R at hF ⊢
  generalize vdB s = vb at *
  generalize gvB i = gb at *
  have hK := Lib.hid ((KW.start w).new (.cells (flr fl0) 24))
  have hz := zero27
  go_enter Try.func21, Try.ntmps21
  go_wp2_with fail
  refine (cv.out _).mono ?_
  rintro e v ⟨rfl, hb⟩
  have K1 := Lib.hid (hK.out.past hb)
  clear hb hK
  cases vb with
  | false =>
    rw [if_pos rfl] at hF
    obtain rfl := hF.out
    clear hF
    have K2 := Lib.hid (K1.out.row 0 rfl (Nat.le_refl _) (flr fl0))
    go_wp2_with (refine wpList_store_row (by rfl) 24 (.tmp 4) (.tmp 11) rfl _ (flr fl0) rfl rfl 24 _ (K1.out.at 0 rfl) (row27 _) (flr_same _ _) (flr_one _) ?_)
    exact bodyPost_row2 4 5 24 rfl _ rfl _ rfl 24 _ _ (K2.out.at 0 rfl) Try.underlying24 rfl (row27 _) rfl ⟨rfl, K2.out.bel⟩
  | true =>
    rw [if_neg (by decide)] at hF
    by_cases h1 : i < 1
    · have t1 : decide (i < 1) = true := decide_eq_true h1
      have hgb : gb = false := by rw [hg.out]; exact decide_eq_false (by omega)
      rw [if_pos hgb] at hF
      obtain rfl := hF.out
      clear hF h1
      have K2 := Lib.hid (K1.out.row 0 rfl (Nat.le_refl _) (flr fl0))
      go_wp2_with (refine wpList_store_row (by rfl) 24 (.tmp 4) (.tmp 18) rfl _ (flr fl0) rfl rfl 24 _ (K1.out.at 0 rfl) (row27 _) (flr_same _ _) (flr_one _) ?_)
      exact bodyPost_row2 4 5 24 rfl _ rfl _ rfl 24 _ _ (K2.out.at 0 rfl) Try.underlying24 rfl (row27 _) rfl ⟨rfl, K2.out.bel⟩
    have t1 : decide (i < 1) = false := decide_eq_false h1
    by_cases h2 : 1099511627776 < i
    · have t2 : decide (1099511627776 < i) = true := decide_eq_true h2
      have hgb : gb = false := by rw [hg.out]; exact decide_eq_false (by omega)
      rw [if_pos hgb] at hF
      obtain rfl := hF.out
      clear hF h1 h2
      have K2 := Lib.hid (K1.out.row 0 rfl (Nat.le_refl _) (flr fl0))
      go_wp2_with (refine wpList_store_row (by rfl) 24 (.tmp 4) (.tmp 18) rfl _ (flr fl0) rfl rfl 24 _ (K1.out.at 0 rfl) (row27 _) (flr_same _ _) (flr_one _) ?_)
      exact bodyPost_row2 4 5 24 rfl _ rfl _ rfl 24 _ _ (K2.out.at 0 rfl) Try.underlying24 rfl (row27 _) rfl ⟨rfl, K2.out.bel⟩
    have t2 : decide (1099511627776 < i) = false := decide_eq_false h2
    have hgb : gb = true := by rw [hg.out]; exact decide_eq_true (by omega)
    rw [if_neg (by rw [hgb]; decide)] at hF
    obtain rfl := hF.out
    clear hF h1 h2
    have K2 := Lib.hid (K1.out.row 0 rfl (Nat.le_refl _) (flr ⟨i, s, em, false, 0, none, 0, 0⟩))
    have hE : Hid (((flr fl0).setIfInBounds 0 (.int .i64 i)).setIfInBounds 1 (.string s) = flr ⟨i, s, em, false, 0, none, 0, 0⟩) := Lib.hid (by simp [flr, fl0, em])
    go_wp2_with (refine wpList_store_row (by rfl) 24 (.tmp 4) (.tmp 21) rfl _ (flr ⟨i, s, em, false, 0, none, 0, 0⟩) rfl (congrArg Value.agg hE.out) 24 _ (K1.out.at 0 rfl) (row27 _) (flr_same _ _) (flr_one _) ?_)
    exact bodyPost_row2 4 5 24 rfl _ rfl _ rfl 24 _ _ (K2.out.at 0 rfl) Try.underlying24 rfl (row27 _) rfl ⟨rfl, K2.out.bel⟩
end Go.Proofs.Ytphbkbjgjicncaa
