/-
  What Append of the program returns: for every argument.
-/
import Derived.Test.YtphbkbjgjicncaaGreatApp
namespace Go.Proofs.YtphbkbjgjicncaaGreat
open Go Go.RowKit

def appF (f : Fl) (s : ByteArray) : Fl × Int := if f.se = true then (f, 5) else if s.size = 0 then (f, 1) else if 600 < f.da.size + s.size then (f, 10) else ({ f with da := f.da ++ s }, 0)
theorem KW.fda {B : Nat} {w v : World} {L : List (Nat × Obj)} (h : KW B w L v) (i : Nat) {b : Nat} {f : Fl} {t : TypeId} (hi : L[i]? = some (b, .cells (flr f) t)) (hb : B ≤ b) (y : ByteArray) : KW B w (L.set i (b, .cells (flr { f with da := y }) t)) (v.setCell ⟨b, 2, none⟩ (.string y)) :=
  have e : (flr f).setIfInBounds 2 (.string y) = flr { f with da := y } := by simp [flr]
  e ▸ h.set i hi hb 2 (.string y)
theorem nil_beq (s : ByteArray) : (s.toList == []) = decide (s.size = 0) := by
  have : s.toList.length = s.size := by rw [ByteArray.toList_eq]; simp
  by_cases h : s.size = 0
  · have h0 : s.toList = [] := List.length_eq_zero_iff.1 (by omega)
    simp [h, h0]
  · have h0 : s.toList ≠ [] := fun e => by rw [e] at this; exact h this.symm
    simp [h, h0]

set_option maxHeartbeats 2000000 in
theorem append_any (f : Fl) (s : ByteArray) (L : List ByteArray) (w : World) (h : StrAt w.heap.size w f.ha L) (hn : f.hn = L.length) (hL : L.length ≤ 1000) (hd : f.da.size ≤ 1099511627776) (hs : s.size ≤ 1099511627776) :
    Calls Tryz.prog 11 #[.agg (flr f), .string s] w (Res (appF f s).1 (appF f s).2 L w) := by
  obtain ⟨i, nm, da, se, un, ha, n, hc⟩ := f
  dsimp only at h hn hd
  subst hn
  have cs := Lib.hid (fun (v : World) (hb : Below w.heap.size w v) => fsep_any ⟨i, nm, da, se, un, ha, L.length, hc⟩ L v (h.on hb) rfl hL)
  have hF : Hid (appF ⟨i, nm, da, se, un, ha, L.length, hc⟩ s = if se = true then (⟨i, nm, da, se, un, ha, L.length, hc⟩, 5) else if s.size = 0 then (⟨i, nm, da, se, un, ha, L.length, hc⟩, 1) else if 600 < da.size + s.size then (⟨i, nm, da, se, un, ha, L.length, hc⟩, 10) else (⟨i, nm, da ++ s, se, un, ha, L.length, hc⟩, 0)) := Lib.hid rfl
  generalize appF ⟨i, nm, da, se, un, ha, L.length, hc⟩ s = R at hF ⊢
  have hK := Lib.hid (KW.two w (.cells (flr ⟨i, nm, da, se, un, ha, L.length, hc⟩) 24) (.cells (flr fl0) 24))
  have hz := zero27
  have hd' := Lib.hid hd
  have hs' := Lib.hid hs
  clear h hL hd hs
  go_enter Tryz.func11, Tryz.ntmps11
  go_wp2_with (with_reducible refine wpList_load_row (by rfl) 24 (.tmp 2) rfl _ rfl 24 _ _ (hK.out.at 1 rfl) Tryz.underlying24 rfl (row27 _) ?_)
  refine (cs.out _ hK.out.bel).mono ?_
  rintro e v ⟨a', c', rfl, ho, hb⟩

  have hs := hb.size
  have K1 := Lib.hid (hK.out.past hb)
  have K2 := Lib.hid (K1.out.row 1 rfl (Nat.le_refl _) (flr ⟨i, nm, da, se, un, a', L.length, c'⟩))
  have o2 := Lib.hid (own_row (n₀ := w.heap.size + 2) (own_mono ho (by simp)) (b := w.heap.size) (by omega) (flr ⟨i, nm, da, se, un, a', L.length, c'⟩))
  have hc3 := K2.out.cell 1 rfl 3 (y := .bool se) rfl
  have hc2 := K2.out.cell 1 rfl 2 (y := .string da) rfl
  have K3 := Lib.hid (K2.out.row 0 rfl (Nat.le_succ _) (flr ⟨i, nm, da, se, un, a', L.length, c'⟩))
  have o3 := Lib.hid (own_row o2.out (b := w.heap.size + 1) (by omega) (flr ⟨i, nm, da, se, un, a', L.length, c'⟩))
  clear ho hb hs cs
  cases se with
  | true =>
    rw [if_pos rfl] at hF
    obtain rfl := hF.out
    clear hF
    go_wp2_with (first
      | (with_reducible refine wpList_store_row (by rfl) 24 (.tmp 2) (.tmp 7) rfl _ (flr ⟨i, nm, da, true, un, a', L.length, c'⟩) rfl rfl 24 _ (K1.out.at 1 rfl) (row27 _) (flr_same _ _) (flr_one _) ?_)
      | (with_reducible refine wpList_load_row (by rfl) 24 (.tmp 2) rfl _ rfl 24 _ _ (K2.out.at 1 rfl) Tryz.underlying24 rfl (row27 _) ?_)
      | (with_reducible refine wpList_store_row (by rfl) 24 (.tmp 4) (.tmp 11) rfl _ (flr ⟨i, nm, da, true, un, a', L.length, c'⟩) rfl rfl 24 _ (K2.out.at 0 rfl) (row27 _) (flr_same _ _) (flr_one _) ?_))
    exact bodyPost_row2 4 5 24 rfl _ rfl _ rfl 24 _ _ (K3.out.at 0 rfl) Tryz.underlying24 rfl (row27 _) rfl (Res.mk o3.out K3.out.bel)
  | false =>
    rw [if_neg (by decide)] at hF
    by_cases h0 : s.size = 0
    · have t0 : (s.toList == []) = true := by rw [nil_beq]; simpa using h0
      rw [if_pos h0] at hF
      obtain rfl := hF.out
      clear hF h0
      go_wp2_with (first
        | (with_reducible refine wpList_store_row (by rfl) 24 (.tmp 2) (.tmp 7) rfl _ (flr ⟨i, nm, da, false, un, a', L.length, c'⟩) rfl rfl 24 _ (K1.out.at 1 rfl) (row27 _) (flr_same _ _) (flr_one _) ?_)
        | (with_reducible refine wpList_load_row (by rfl) 24 (.tmp 2) rfl _ rfl 24 _ _ (K2.out.at 1 rfl) Tryz.underlying24 rfl (row27 _) ?_)
        | (with_reducible refine wpList_store_row (by rfl) 24 (.tmp 4) (.tmp 15) rfl _ (flr ⟨i, nm, da, false, un, a', L.length, c'⟩) rfl rfl 24 _ (K2.out.at 0 rfl) (row27 _) (flr_same _ _) (flr_one _) ?_))
      exact bodyPost_row2 4 5 24 rfl _ rfl _ rfl 24 _ _ (K3.out.at 0 rfl) Tryz.underlying24 rfl (row27 _) rfl (Res.mk o3.out K3.out.bel)
    · have t0 : (s.toList == []) = false := by rw [nil_beq]; simpa using h0
      rw [if_neg h0] at hF
      have b1 := hd'.out
      have b2 := hs'.out
      have wr : IntKind.i64.wrap ((da.size : Int) + (s.size : Int)) = ((da.size + s.size : Nat) : Int) := by rw [Int.natCast_add]; exact IntWalk.i64_in _ (by omega)
      clear b1 b2
      by_cases h1 : 600 < da.size + s.size
      · have t1 : decide ((600 : Int) < ((da.size + s.size : Nat) : Int)) = true := by simp; omega
        have t2 : decide (600 < da.size + s.size) = true := by simpa using h1
        have t3 : (600 : Int) < (da.size : Int) + (s.size : Int) := by omega
        rw [if_pos h1] at hF
        obtain rfl := hF.out
        clear hF h0 h1
        go_wp2_with (first
          | (with_reducible refine wpList_store_row (by rfl) 24 (.tmp 2) (.tmp 7) rfl _ (flr ⟨i, nm, da, false, un, a', L.length, c'⟩) rfl rfl 24 _ (K1.out.at 1 rfl) (row27 _) (flr_same _ _) (flr_one _) ?_)
          | (with_reducible refine wpList_load_row (by rfl) 24 (.tmp 2) rfl _ rfl 24 _ _ (K2.out.at 1 rfl) Tryz.underlying24 rfl (row27 _) ?_)
          | (with_reducible refine wpList_store_row (by rfl) 24 (.tmp 4) (.tmp 24) rfl _ (flr ⟨i, nm, da, false, un, a', L.length, c'⟩) rfl rfl 24 _ (K2.out.at 0 rfl) (row27 _) (flr_same _ _) (flr_one _) ?_))
        exact bodyPost_row2 4 5 24 rfl _ rfl _ rfl 24 _ _ (K3.out.at 0 rfl) Tryz.underlying24 rfl (row27 _) rfl (Res.mk o3.out K3.out.bel)
      · have t1 : decide ((600 : Int) < ((da.size + s.size : Nat) : Int)) = false := by simp; omega
        have t2 : decide (600 < da.size + s.size) = false := by simpa using h1
        have t3 : ¬ (600 : Int) < (da.size : Int) + (s.size : Int) := by omega
        rw [if_neg h1] at hF
        obtain rfl := hF.out
        clear hF h0 h1 K3 o3
        have hf2 := K2.out.frozen 1 rfl 2
        have K3 := Lib.hid (K2.out.fda 1 rfl (Nat.le_refl _) (da ++ s))
        have o3 := Lib.hid (own_set o2.out (b := w.heap.size) (by omega) 2 (.string (da ++ s)))
        have g4 : Hid (_ = some (Obj.cells (flr ⟨i, nm, da ++ s, false, un, a', L.length, c'⟩) 24)) := Lib.hid (K3.out.at 1 rfl)
        have g4' : Hid (_ = some (Obj.cells (flr fl0) 24)) := Lib.hid (K3.out.at 0 rfl)
        have K5 := Lib.hid (K3.out.row 0 rfl (Nat.le_succ _) (flr ⟨i, nm, da ++ s, false, un, a', L.length, c'⟩))
        have o5 := Lib.hid (own_row o3.out (b := w.heap.size + 1) (by omega) (flr ⟨i, nm, da ++ s, false, un, a', L.length, c'⟩))
        clear K2 K3 o2 o3
        go_wp2_with (first
          | (with_reducible refine wpList_store_row (by rfl) 24 (.tmp 2) (.tmp 7) rfl _ (flr ⟨i, nm, da, false, un, a', L.length, c'⟩) rfl rfl 24 _ (K1.out.at 1 rfl) (row27 _) (flr_same _ _) (flr_one _) ?_)
          | (with_reducible refine wpList_load_row (by rfl) 24 (.tmp 2) rfl _ rfl 24 _ _ g4.out Tryz.underlying24 rfl (row27 _) ?_)
          | (with_reducible refine wpList_store_row (by rfl) 24 (.tmp 4) (.tmp 30) rfl _ (flr ⟨i, nm, da ++ s, false, un, a', L.length, c'⟩) rfl rfl 24 _ g4'.out (row27 _) (flr_same _ _) (flr_one _) ?_))
        exact bodyPost_row2 4 5 24 rfl _ rfl _ rfl 24 _ _ (K5.out.at 0 rfl) Tryz.underlying24 rfl (row27 _) rfl (Res.mk o5.out K5.out.bel)
end Go.Proofs.YtphbkbjgjicncaaGreat
