/-
  What Append, Seal, Extend and May of the document's answer return: for every file.
-/
import Derived.Test.YtphbkbjgjicncaaDone
namespace Go.Proofs.Ytphbkbjgjicncaa
open Go Go.RowKit

set_option maxHeartbeats 2000000 in
theorem rseal_any (f : Fl) (t : Int) (w : World) :
    Calls Try.prog 32 #[.agg (flr f), .int .i64 t] w fun e w' => e = .returned (.tuple #[.agg (flr (sealF f t).1), .int .i64 (sealF f t).2]) ∧ Below w.heap.size w w' := by
  obtain ⟨i, nm, da, se, un, ha, n, hc⟩ := f
  have K0 := Lib.hid (KW.two w (.cells (flr ⟨i, nm, da, se, un, ha, n, hc⟩) 24) (.cells (flr fl0) 24))
  have hz := zero27
  generalize hFe : sealF ⟨i, nm, da, se, un, ha, n, hc⟩ t = R
  have k3 := K0.out.cell 1 rfl 3 (y := .bool se) rfl
  unfold sealF at hFe
  cases se with
  | true =>
    rw [if_pos rfl] at hFe
    have hF := Lib.hid hFe.symm
    clear hFe
    go_enter Try.func32, Try.ntmps32
    have Kr := Lib.hid (K0.out.row 0 rfl (Nat.le_succ _) (flr (⟨i, nm, da, true, un, ha, n, hc⟩ : Fl)))
    go_wp2_with (first
        | (refine wpList_load_row (by rfl) 24 (.tmp 2) rfl _ rfl 24 _ _ (K0.out.at 1 rfl) Try.underlying24 rfl (row27 _) ?_)
        | (refine wpList_store_row (by rfl) 24 (.tmp 4) (.tmp 8) rfl _ (flr (⟨i, nm, da, true, un, ha, n, hc⟩ : Fl)) rfl rfl 24 _ (K0.out.at 0 rfl) (row27 _) (flr_same _ _) (flr_one _) ?_))
    exact bodyPost_row2 4 5 24 rfl _ rfl _ rfl 24 _ _ (Kr.out.at 0 rfl) Try.underlying24 rfl (row27 _) rfl ⟨by rw [hF.out]; rfl, Kr.out.bel⟩
  | false =>
    rw [if_neg (show ¬ (false = true) by decide)] at hFe
    by_cases q : t < 0
    · have s1 : decide (t < 0) = true := decide_eq_true q
      have hF : Hid (R = _) := Lib.hid (hFe.symm.trans (if_pos (decide_eq_false (by omega))))
      clear hFe q
      go_enter Try.func32, Try.ntmps32
      have Kr := Lib.hid (K0.out.row 0 rfl (Nat.le_succ _) (flr (⟨i, nm, da, false, un, ha, n, hc⟩ : Fl)))
      go_wp2_with (first
          | (refine wpList_load_row (by rfl) 24 (.tmp 2) rfl _ rfl 24 _ _ (K0.out.at 1 rfl) Try.underlying24 rfl (row27 _) ?_)
          | (refine wpList_store_row (by rfl) 24 (.tmp 4) (.tmp 15) rfl _ (flr (⟨i, nm, da, false, un, ha, n, hc⟩ : Fl)) rfl rfl 24 _ (K0.out.at 0 rfl) (row27 _) (flr_same _ _) (flr_one _) ?_))
      exact bodyPost_row2 4 5 24 rfl _ rfl _ rfl 24 _ _ (Kr.out.at 0 rfl) Try.underlying24 rfl (row27 _) rfl ⟨by rw [hF.out]; rfl, Kr.out.bel⟩
    have s1 : decide (t < 0) = false := decide_eq_false q
    by_cases q2 : 1099511627776 < t
    · have s2 : decide (1099511627776 < t) = true := decide_eq_true q2
      have hF : Hid (R = _) := Lib.hid (hFe.symm.trans (if_pos (decide_eq_false (by omega))))
      clear hFe q q2
      go_enter Try.func32, Try.ntmps32
      have Kr := Lib.hid (K0.out.row 0 rfl (Nat.le_succ _) (flr (⟨i, nm, da, false, un, ha, n, hc⟩ : Fl)))
      go_wp2_with (first
          | (refine wpList_load_row (by rfl) 24 (.tmp 2) rfl _ rfl 24 _ _ (K0.out.at 1 rfl) Try.underlying24 rfl (row27 _) ?_)
          | (refine wpList_store_row (by rfl) 24 (.tmp 4) (.tmp 15) rfl _ (flr (⟨i, nm, da, false, un, ha, n, hc⟩ : Fl)) rfl rfl 24 _ (K0.out.at 0 rfl) (row27 _) (flr_same _ _) (flr_one _) ?_))
      exact bodyPost_row2 4 5 24 rfl _ rfl _ rfl 24 _ _ (Kr.out.at 0 rfl) Try.underlying24 rfl (row27 _) rfl ⟨by rw [hF.out]; rfl, Kr.out.bel⟩
    have s2 : decide (1099511627776 < t) = false := decide_eq_false q2
    have hF : Hid (R = _) := Lib.hid (hFe.symm.trans (if_neg (show ¬ (tmB t = false) by rw [show tmB t = true from decide_eq_true (by omega)]; decide)))
    clear hFe q q2
    go_enter Try.func32, Try.ntmps32
    go_upto_region 1 with fail
    clear k3
    revert K0
    generalize (w.alloc (.cells (flr ⟨i, nm, da, false, un, ha, n, hc⟩) 24)).alloc (.cells (flr fl0) 24) = V0
    intro K0
    have k3 := K0.out.cell 1 rfl 3 (y := .bool false) rfl
    have z3 := K0.out.frozen 1 rfl 3
    have K1 := Lib.hid (K0.out.fse 1 rfl (Nat.le_refl _) true)
    have k4 := K1.out.cell 1 rfl 4 (y := .int .i64 un) rfl
    have z4 := K1.out.frozen 1 rfl 4
    have K2 := Lib.hid (K1.out.fut 1 rfl (Nat.le_refl _) t)
    clear K0 K1
    have Kr := Lib.hid (K2.out.row 0 rfl (Nat.le_succ _) (flr (⟨i, nm, da, true, t, ha, n, hc⟩ : Fl)))
    have g1 : Hid (_ = some (Obj.cells (flr (⟨i, nm, da, true, t, ha, n, hc⟩ : Fl)) 24)) := Lib.hid (K2.out.at 1 rfl)
    have g0 : Hid (_ = some (Obj.cells (flr fl0) 24)) := Lib.hid (K2.out.at 0 rfl)
    clear K2
    go_wp2_with (first
        | (with_reducible refine wpList_load_row (by rfl) 24 (.tmp 2) rfl _ rfl 24 _ _ g1.out Try.underlying24 rfl (row27 _) ?_)
        | (with_reducible refine wpList_store_row (by rfl) 24 (.tmp 4) (.tmp 19) rfl _ (flr (⟨i, nm, da, true, t, ha, n, hc⟩ : Fl)) rfl rfl 24 _ g0.out (row27 _) (flr_same _ _) (flr_one _) ?_))
    exact bodyPost_row2 4 5 24 rfl _ rfl _ rfl 24 _ _ (Kr.out.at 0 rfl) Try.underlying24 rfl (row27 _) rfl ⟨by rw [hF.out]; rfl, Kr.out.bel⟩

set_option maxHeartbeats 2000000 in
theorem rextend_any (f : Fl) (t : Int) (w : World) :
    Calls Try.prog 34 #[.agg (flr f), .int .i64 t] w fun e w' => e = .returned (.tuple #[.agg (flr (extF f t).1), .int .i64 (extF f t).2]) ∧ Below w.heap.size w w' := by
  obtain ⟨i, nm, da, se, un, ha, n, hc⟩ := f
  have K0 := Lib.hid (KW.two w (.cells (flr ⟨i, nm, da, se, un, ha, n, hc⟩) 24) (.cells (flr fl0) 24))
  have hz := zero27
  generalize hFe : extF ⟨i, nm, da, se, un, ha, n, hc⟩ t = R
  have k3 := K0.out.cell 1 rfl 3 (y := .bool se) rfl
  have k4 := K0.out.cell 1 rfl 4 (y := .int .i64 un) rfl
  unfold extF at hFe
  cases se with
  | false =>
    rw [if_pos rfl] at hFe
    have hF := Lib.hid hFe.symm
    clear hFe
    go_enter Try.func34, Try.ntmps34
    have Kr := Lib.hid (K0.out.row 0 rfl (Nat.le_succ _) (flr (⟨i, nm, da, false, un, ha, n, hc⟩ : Fl)))
    go_wp2_with (first
        | (refine wpList_load_row (by rfl) 24 (.tmp 2) rfl _ rfl 24 _ _ (K0.out.at 1 rfl) Try.underlying24 rfl (row27 _) ?_)
        | (refine wpList_store_row (by rfl) 24 (.tmp 4) (.tmp 9) rfl _ (flr (⟨i, nm, da, false, un, ha, n, hc⟩ : Fl)) rfl rfl 24 _ (K0.out.at 0 rfl) (row27 _) (flr_same _ _) (flr_one _) ?_))
    exact bodyPost_row2 4 5 24 rfl _ rfl _ rfl 24 _ _ (Kr.out.at 0 rfl) Try.underlying24 rfl (row27 _) rfl ⟨by rw [hF.out]; rfl, Kr.out.bel⟩
  | true =>
    rw [if_neg (show ¬ (true = false) by decide)] at hFe
    by_cases q : t < 0
    · have s1 : decide (t < 0) = true := decide_eq_true q
      have hF : Hid (R = _) := Lib.hid (hFe.symm.trans (if_pos (decide_eq_false (by omega))))
      clear hFe q
      go_enter Try.func34, Try.ntmps34
      have Kr := Lib.hid (K0.out.row 0 rfl (Nat.le_succ _) (flr (⟨i, nm, da, true, un, ha, n, hc⟩ : Fl)))
      go_wp2_with (first
          | (refine wpList_load_row (by rfl) 24 (.tmp 2) rfl _ rfl 24 _ _ (K0.out.at 1 rfl) Try.underlying24 rfl (row27 _) ?_)
          | (refine wpList_store_row (by rfl) 24 (.tmp 4) (.tmp 16) rfl _ (flr (⟨i, nm, da, true, un, ha, n, hc⟩ : Fl)) rfl rfl 24 _ (K0.out.at 0 rfl) (row27 _) (flr_same _ _) (flr_one _) ?_))
      exact bodyPost_row2 4 5 24 rfl _ rfl _ rfl 24 _ _ (Kr.out.at 0 rfl) Try.underlying24 rfl (row27 _) rfl ⟨by rw [hF.out]; rfl, Kr.out.bel⟩
    have s1 : decide (t < 0) = false := decide_eq_false q
    by_cases q2 : 1099511627776 < t
    · have s2 : decide (1099511627776 < t) = true := decide_eq_true q2
      have hF : Hid (R = _) := Lib.hid (hFe.symm.trans (if_pos (decide_eq_false (by omega))))
      clear hFe q q2
      go_enter Try.func34, Try.ntmps34
      have Kr := Lib.hid (K0.out.row 0 rfl (Nat.le_succ _) (flr (⟨i, nm, da, true, un, ha, n, hc⟩ : Fl)))
      go_wp2_with (first
          | (refine wpList_load_row (by rfl) 24 (.tmp 2) rfl _ rfl 24 _ _ (K0.out.at 1 rfl) Try.underlying24 rfl (row27 _) ?_)
          | (refine wpList_store_row (by rfl) 24 (.tmp 4) (.tmp 16) rfl _ (flr (⟨i, nm, da, true, un, ha, n, hc⟩ : Fl)) rfl rfl 24 _ (K0.out.at 0 rfl) (row27 _) (flr_same _ _) (flr_one _) ?_))
      exact bodyPost_row2 4 5 24 rfl _ rfl _ rfl 24 _ _ (Kr.out.at 0 rfl) Try.underlying24 rfl (row27 _) rfl ⟨by rw [hF.out]; rfl, Kr.out.bel⟩
    have s2 : decide (1099511627776 < t) = false := decide_eq_false q2
    rw [if_neg (show ¬ (tmB t = false) by rw [show tmB t = true from decide_eq_true (by omega)]; decide)] at hFe
    clear q q2
    by_cases q : t < un
    · have s3 : decide (t < un) = true := decide_eq_true q
      have hF : Hid (R = _) := Lib.hid (hFe.symm.trans (if_pos q))
      clear hFe q
      go_enter Try.func34, Try.ntmps34
      have Kr := Lib.hid (K0.out.row 0 rfl (Nat.le_succ _) (flr (⟨i, nm, da, true, un, ha, n, hc⟩ : Fl)))
      go_wp2_with (first
          | (refine wpList_load_row (by rfl) 24 (.tmp 2) rfl _ rfl 24 _ _ (K0.out.at 1 rfl) Try.underlying24 rfl (row27 _) ?_)
          | (refine wpList_store_row (by rfl) 24 (.tmp 4) (.tmp 21) rfl _ (flr (⟨i, nm, da, true, un, ha, n, hc⟩ : Fl)) rfl rfl 24 _ (K0.out.at 0 rfl) (row27 _) (flr_same _ _) (flr_one _) ?_))
      exact bodyPost_row2 4 5 24 rfl _ rfl _ rfl 24 _ _ (Kr.out.at 0 rfl) Try.underlying24 rfl (row27 _) rfl ⟨by rw [hF.out]; rfl, Kr.out.bel⟩
    have s3 : decide (t < un) = false := decide_eq_false q
    have hF : Hid (R = _) := Lib.hid (hFe.symm.trans (if_neg q))
    clear hFe q
    go_enter Try.func34, Try.ntmps34
    go_upto_region 1 with fail
    clear k3 k4
    revert K0
    generalize (w.alloc (.cells (flr ⟨i, nm, da, true, un, ha, n, hc⟩) 24)).alloc (.cells (flr fl0) 24) = V0
    intro K0
    have k3 := K0.out.cell 1 rfl 3 (y := .bool true) rfl
    have k4 := K0.out.cell 1 rfl 4 (y := .int .i64 un) rfl
    have z4 := K0.out.frozen 1 rfl 4
    have K2 := Lib.hid (K0.out.fut 1 rfl (Nat.le_refl _) t)
    clear K0
    have Kr := Lib.hid (K2.out.row 0 rfl (Nat.le_succ _) (flr (⟨i, nm, da, true, t, ha, n, hc⟩ : Fl)))
    have g1 : Hid (_ = some (Obj.cells (flr (⟨i, nm, da, true, t, ha, n, hc⟩ : Fl)) 24)) := Lib.hid (K2.out.at 1 rfl)
    have g0 : Hid (_ = some (Obj.cells (flr fl0) 24)) := Lib.hid (K2.out.at 0 rfl)
    clear K2
    go_wp2_with (first
        | (with_reducible refine wpList_load_row (by rfl) 24 (.tmp 2) rfl _ rfl 24 _ _ g1.out Try.underlying24 rfl (row27 _) ?_)
        | (with_reducible refine wpList_store_row (by rfl) 24 (.tmp 4) (.tmp 24) rfl _ (flr (⟨i, nm, da, true, t, ha, n, hc⟩ : Fl)) rfl rfl 24 _ g0.out (row27 _) (flr_same _ _) (flr_one _) ?_))
    exact bodyPost_row2 4 5 24 rfl _ rfl _ rfl 24 _ _ (Kr.out.at 0 rfl) Try.underlying24 rfl (row27 _) rfl ⟨by rw [hF.out]; rfl, Kr.out.bel⟩

set_option maxHeartbeats 2000000 in
theorem rappend_any (f : Fl) (s : ByteArray) (w : World) (hd : f.da.size ≤ 4000) (hs : s.size ≤ 1099511627776) :
    Calls Try.prog 15 #[.agg (flr f), .string s] w fun e w' => e = .returned (.tuple #[.agg (flr (appF f s).1), .int .i64 (appF f s).2]) ∧ Below w.heap.size w w' := by
  obtain ⟨i, nm, da, se, un, ha, n, hc⟩ := f
  have K0 := Lib.hid (KW.two w (.cells (flr ⟨i, nm, da, se, un, ha, n, hc⟩) 24) (.cells (flr fl0) 24))
  have hz := zero27
  generalize hFe : appF ⟨i, nm, da, se, un, ha, n, hc⟩ s = R
  dsimp only at hd
  have k3 := K0.out.cell 1 rfl 3 (y := .bool se) rfl
  have k2 := K0.out.cell 1 rfl 2 (y := .string da) rfl
  unfold appF at hFe
  cases se with
  | true =>
    rw [if_pos rfl] at hFe
    have hF := Lib.hid hFe.symm
    clear hFe hd hs
    go_enter Try.func15, Try.ntmps15
    have Kr := Lib.hid (K0.out.row 0 rfl (Nat.le_succ _) (flr (⟨i, nm, da, true, un, ha, n, hc⟩ : Fl)))
    go_wp2_with (first
        | (refine wpList_load_row (by rfl) 24 (.tmp 2) rfl _ rfl 24 _ _ (K0.out.at 1 rfl) Try.underlying24 rfl (row27 _) ?_)
        | (refine wpList_store_row (by rfl) 24 (.tmp 4) (.tmp 8) rfl _ (flr (⟨i, nm, da, true, un, ha, n, hc⟩ : Fl)) rfl rfl 24 _ (K0.out.at 0 rfl) (row27 _) (flr_same _ _) (flr_one _) ?_))
    exact bodyPost_row2 4 5 24 rfl _ rfl _ rfl 24 _ _ (Kr.out.at 0 rfl) Try.underlying24 rfl (row27 _) rfl ⟨by rw [hF.out]; rfl, Kr.out.bel⟩
  | false =>
    rw [if_neg (show ¬ (false = true) by decide)] at hFe
    by_cases q : s.size = 0
    · have s1 : (s.toList == []) = true := by rw [nil_beq]; exact decide_eq_true q
      have hF : Hid (R = _) := Lib.hid (hFe.symm.trans (if_pos q))
      clear hFe q hd hs
      go_enter Try.func15, Try.ntmps15
      have Kr := Lib.hid (K0.out.row 0 rfl (Nat.le_succ _) (flr (⟨i, nm, da, false, un, ha, n, hc⟩ : Fl)))
      go_wp2_with (first
          | (refine wpList_load_row (by rfl) 24 (.tmp 2) rfl _ rfl 24 _ _ (K0.out.at 1 rfl) Try.underlying24 rfl (row27 _) ?_)
          | (refine wpList_store_row (by rfl) 24 (.tmp 4) (.tmp 11) rfl _ (flr (⟨i, nm, da, false, un, ha, n, hc⟩ : Fl)) rfl rfl 24 _ (K0.out.at 0 rfl) (row27 _) (flr_same _ _) (flr_one _) ?_))
      exact bodyPost_row2 4 5 24 rfl _ rfl _ rfl 24 _ _ (Kr.out.at 0 rfl) Try.underlying24 rfl (row27 _) rfl ⟨by rw [hF.out]; rfl, Kr.out.bel⟩
    have s1 : (s.toList == []) = false := by rw [nil_beq]; exact decide_eq_false q
    rw [if_neg q] at hFe
    clear q
    have hw : IntKind.i64.wrap ((da.size : Int) + (s.size : Int)) = (da.size : Int) + (s.size : Int) := IntWalk.i64_in _ (by omega)
    by_cases q : 600 < da.size + s.size
    · have s2 : decide ((600 : Int) < (da.size : Int) + (s.size : Int)) = true := decide_eq_true (by omega)
      have hF : Hid (R = _) := Lib.hid (hFe.symm.trans (if_pos q))
      clear hFe q hd hs
      go_enter Try.func15, Try.ntmps15
      have Kr := Lib.hid (K0.out.row 0 rfl (Nat.le_succ _) (flr (⟨i, nm, da, false, un, ha, n, hc⟩ : Fl)))
      go_wp2_with (first
          | (refine wpList_load_row (by rfl) 24 (.tmp 2) rfl _ rfl 24 _ _ (K0.out.at 1 rfl) Try.underlying24 rfl (row27 _) ?_)
          | (refine wpList_store_row (by rfl) 24 (.tmp 4) (.tmp 19) rfl _ (flr (⟨i, nm, da, false, un, ha, n, hc⟩ : Fl)) rfl rfl 24 _ (K0.out.at 0 rfl) (row27 _) (flr_same _ _) (flr_one _) ?_))
      exact bodyPost_row2 4 5 24 rfl _ rfl _ rfl 24 _ _ (Kr.out.at 0 rfl) Try.underlying24 rfl (row27 _) rfl ⟨by rw [hF.out]; rfl, Kr.out.bel⟩
    have s2 : decide ((600 : Int) < (da.size : Int) + (s.size : Int)) = false := decide_eq_false (by omega)
    have hF : Hid (R = _) := Lib.hid (hFe.symm.trans (if_neg q))
    have hm : da.size + s.size ≤ 600 := by omega
    clear hFe q hd hs
    go_enter Try.func15, Try.ntmps15
    go_upto_region 1 with fail
    clear k3 k2
    revert K0
    generalize (w.alloc (.cells (flr ⟨i, nm, da, false, un, ha, n, hc⟩) 24)).alloc (.cells (flr fl0) 24) = V0
    intro K0
    have k3 := K0.out.cell 1 rfl 3 (y := .bool false) rfl
    have k2 := K0.out.cell 1 rfl 2 (y := .string da) rfl
    have z2 := K0.out.frozen 1 rfl 2
    have K2 := Lib.hid (K0.out.fda 1 rfl (Nat.le_refl _) (da ++ s))
    clear K0
    have Kr := Lib.hid (K2.out.row 0 rfl (Nat.le_succ _) (flr (⟨i, nm, (da ++ s), false, un, ha, n, hc⟩ : Fl)))
    have g1 : Hid (_ = some (Obj.cells (flr (⟨i, nm, (da ++ s), false, un, ha, n, hc⟩ : Fl)) 24)) := Lib.hid (K2.out.at 1 rfl)
    have g0 : Hid (_ = some (Obj.cells (flr fl0) 24)) := Lib.hid (K2.out.at 0 rfl)
    clear K2
    go_wp2_with (first
        | (with_reducible refine wpList_load_row (by rfl) 24 (.tmp 2) rfl _ rfl 24 _ _ g1.out Try.underlying24 rfl (row27 _) ?_)
        | (with_reducible refine wpList_store_row (by rfl) 24 (.tmp 4) (.tmp 25) rfl _ (flr (⟨i, nm, (da ++ s), false, un, ha, n, hc⟩ : Fl)) rfl rfl 24 _ g0.out (row27 _) (flr_same _ _) (flr_one _) ?_))
    exact bodyPost_row2 4 5 24 rfl _ rfl _ rfl 24 _ _ (Kr.out.at 0 rfl) Try.underlying24 rfl (row27 _) rfl ⟨by rw [hF.out]; rfl, Kr.out.bel⟩

theorem rmay_any (f : Fl) (fl : Int) (w : World) : Calls Try.prog 37 #[.agg (flr f), .int .i64 fl] w fun e w' => e = .returned (.int .i64 (mayC f fl)) ∧ Below w.heap.size w w' := by
  obtain ⟨r, hr⟩ : ∃ r, mayC f fl = r := ⟨_, rfl⟩
  rw [hr]
  obtain ⟨i, nm, da, se, un, ha, hn, hc⟩ := f
  unfold mayC at hr
  unfold flr
  dsimp only at hr ⊢
  cases se with
  | false =>
    rw [if_pos rfl] at hr
    subst hr
    go_enter Try.func37, Try.ntmps37
    go_wp2_with fail
    go_ret
    exact ⟨rfl, (Below.refl _ _).alloc (Nat.le_refl _) _⟩
  | true =>
    rw [if_neg (by decide)] at hr
    by_cases h1 : fl < un
    · have t1 : decide (fl < un) = true := by simpa using h1
      rw [if_pos h1] at hr
      subst hr
      clear h1
      go_enter Try.func37, Try.ntmps37
      go_wp2_with fail
      go_ret
      exact ⟨rfl, (Below.refl _ _).alloc (Nat.le_refl _) _⟩
    · have t1 : decide (fl < un) = false := by simpa using h1
      rw [if_neg h1] at hr
      by_cases h2 : 0 < hn
      · have t2 : decide (0 < hn) = true := by simpa using h2
        rw [if_pos h2] at hr
        subst hr
        clear h1 h2
        go_enter Try.func37, Try.ntmps37
        go_wp2_with fail
        go_ret
        exact ⟨rfl, (Below.refl _ _).alloc (Nat.le_refl _) _⟩
      · have t2 : decide (0 < hn) = false := by simpa using h2
        rw [if_neg h2] at hr
        subst hr
        clear h1 h2
        go_enter Try.func37, Try.ntmps37
        go_wp2_with fail
        go_ret
        exact ⟨rfl, (Below.refl _ _).alloc (Nat.le_refl _) _⟩

end Go.Proofs.Ytphbkbjgjicncaa
