/-
  What Seal and Extend of the program return: for every file.
-/
import Derived.Test.YtphbkbjgjicncaaGreatLeafs
namespace Go.Proofs.YtphbkbjgjicncaaGreat
open Go Go.RowKit

def sealF (f : Fl) (t : Int) : Fl × Int := if f.se = true then (f, 5) else if tmB t = false then (f, 1) else ({ f with se := true, un := t }, 0)

set_option maxHeartbeats 2000000 in
theorem seal_any (f : Fl) (t : Int) (L : List ByteArray) (w : World) (h : StrAt w.heap.size w f.ha L) (hn : f.hn = L.length) (hL : L.length ≤ 1000) :
    Calls Tryz.prog 32 #[.agg (flr f), .int .i64 t] w (Res (sealF f t).1 (sealF f t).2 L w) := by
  obtain ⟨i, nm, da, se, un, ha, n, hc⟩ := f
  dsimp only at h hn
  subst hn
  have cs := Lib.hid (fun (v : World) (hb : Below w.heap.size w v) => separate_any ⟨i, nm, da, se, un, ha, L.length, hc⟩ L v (h.on hb) rfl hL)
  have ct := Lib.hid (fun v => timely_any t v)
  have hF : Hid (sealF ⟨i, nm, da, se, un, ha, L.length, hc⟩ t = if se = true then (⟨i, nm, da, se, un, ha, L.length, hc⟩, 5) else if tmB t = false then (⟨i, nm, da, se, un, ha, L.length, hc⟩, 1) else (⟨i, nm, da, true, t, ha, L.length, hc⟩, 0)) := Lib.hid rfl
  generalize sealF ⟨i, nm, da, se, un, ha, L.length, hc⟩ t = R at hF ⊢
  generalize tmB t = tb at *
  have hK := Lib.hid (KW.two w (.cells (flr ⟨i, nm, da, se, un, ha, L.length, hc⟩) 24) (.cells (flr fl0) 24))
  have hz := zero27
  clear h hL
  go_enter Tryz.func32, Tryz.ntmps32
  go_wp2_with (with_reducible refine wpList_load_row (by rfl) 24 (.tmp 2) rfl _ rfl 24 _ _ (hK.out.at 1 rfl) Tryz.underlying24 rfl (row27 _) ?_)
  refine (cs.out _ hK.out.bel).mono ?_
  rintro e v ⟨a', c', rfl, ho, hb⟩

  have hs := hb.size
  have K1 := Lib.hid (hK.out.past hb)
  have K2 := Lib.hid (K1.out.row 1 rfl (Nat.le_refl _) (flr ⟨i, nm, da, se, un, a', L.length, c'⟩))
  have o2 := Lib.hid (own_row (n₀ := w.heap.size + 2) (own_mono ho (by simp)) (b := w.heap.size) (by omega) (flr ⟨i, nm, da, se, un, a', L.length, c'⟩))
  have hc3 := K2.out.cell 1 rfl 3 (y := .bool se) rfl
  clear ho hb hs cs
  cases se with
  | true =>
    rw [if_pos rfl] at hF
    obtain rfl := hF.out
    clear hF
    have K3 := Lib.hid (K2.out.row 0 rfl (Nat.le_succ _) (flr ⟨i, nm, da, true, un, a', L.length, c'⟩))
    have o3 := Lib.hid (own_row o2.out (b := w.heap.size + 1) (by omega) (flr ⟨i, nm, da, true, un, a', L.length, c'⟩))
    go_wp2_with (first
      | (with_reducible refine wpList_store_row (by rfl) 24 (.tmp 2) (.tmp 7) rfl _ (flr ⟨i, nm, da, true, un, a', L.length, c'⟩) rfl rfl 24 _ (K1.out.at 1 rfl) (row27 _) (flr_same _ _) (flr_one _) ?_)
      | (with_reducible refine wpList_load_row (by rfl) 24 (.tmp 2) rfl _ rfl 24 _ _ (K2.out.at 1 rfl) Tryz.underlying24 rfl (row27 _) ?_)
      | (with_reducible refine wpList_store_row (by rfl) 24 (.tmp 4) (.tmp 11) rfl _ (flr ⟨i, nm, da, true, un, a', L.length, c'⟩) rfl rfl 24 _ (K2.out.at 0 rfl) (row27 _) (flr_same _ _) (flr_one _) ?_))
    exact bodyPost_row2 4 5 24 rfl _ rfl _ rfl 24 _ _ (K3.out.at 0 rfl) Tryz.underlying24 rfl (row27 _) rfl (Res.mk o3.out K3.out.bel)
  | false =>
    rw [if_neg (by decide)] at hF
    cases tb with
    | false =>
      rw [if_pos rfl] at hF
      obtain rfl := hF.out
      clear hF
      have K3 := Lib.hid (K2.out.row 0 rfl (Nat.le_succ _) (flr ⟨i, nm, da, false, un, a', L.length, c'⟩))
      have o3 := Lib.hid (own_row o2.out (b := w.heap.size + 1) (by omega) (flr ⟨i, nm, da, false, un, a', L.length, c'⟩))
      go_wp2_with (first
        | (with_reducible refine wpList_store_row (by rfl) 24 (.tmp 2) (.tmp 7) rfl _ (flr ⟨i, nm, da, false, un, a', L.length, c'⟩) rfl rfl 24 _ (K1.out.at 1 rfl) (row27 _) (flr_same _ _) (flr_one _) ?_)
        | (go_at_call 46; refine (ct.out _).mono ?_; rintro e w' ⟨rfl, rfl⟩)
        | (with_reducible refine wpList_load_row (by rfl) 24 (.tmp 2) rfl _ rfl 24 _ _ (K2.out.at 1 rfl) Tryz.underlying24 rfl (row27 _) ?_)
        | (with_reducible refine wpList_store_row (by rfl) 24 (.tmp 4) (.tmp 16) rfl _ (flr ⟨i, nm, da, false, un, a', L.length, c'⟩) rfl rfl 24 _ (K2.out.at 0 rfl) (row27 _) (flr_same _ _) (flr_one _) ?_))
      exact bodyPost_row2 4 5 24 rfl _ rfl _ rfl 24 _ _ (K3.out.at 0 rfl) Tryz.underlying24 rfl (row27 _) rfl (Res.mk o3.out K3.out.bel)
    | true =>
      rw [if_neg (by decide)] at hF
      obtain rfl := hF.out
      clear hF
      go_wp2_with (with_reducible refine wpList_store_row (by rfl) 24 (.tmp 2) (.tmp 7) rfl _ (flr ⟨i, nm, da, false, un, a', L.length, c'⟩) rfl rfl 24 _ (K1.out.at 1 rfl) (row27 _) (flr_same _ _) (flr_one _) ?_)
      refine (ct.out _).mono ?_
      rintro e w' ⟨rfl, rfl⟩
      clear K1
      generalize v.setRow w.heap.size (flr ⟨i, nm, da, false, un, a', L.length, c'⟩) = V at *
      have hf3 := K2.out.frozen 1 rfl 3
      have K3 := Lib.hid (K2.out.fse 1 rfl (Nat.le_refl _) true)
      have o3 := Lib.hid (own_set o2.out (b := w.heap.size) (by omega) 3 (.bool true))
      have hf4 := K3.out.frozen 1 rfl 4
      have hc4 := K3.out.cell 1 rfl 4 (y := .int .i64 un) rfl
      have K4 := Lib.hid (K3.out.fut 1 rfl (Nat.le_refl _) t)
      have o4 := Lib.hid (own_set o3.out (b := w.heap.size) (by omega) 4 (.int .i64 t))
      have g4 : Hid (_ = some (Obj.cells (flr ⟨i, nm, da, true, t, a', L.length, c'⟩) 24)) := Lib.hid (K4.out.at 1 rfl)
      have g4' : Hid (_ = some (Obj.cells (flr fl0) 24)) := Lib.hid (K4.out.at 0 rfl)
      have K5 := Lib.hid (K4.out.row 0 rfl (Nat.le_succ _) (flr ⟨i, nm, da, true, t, a', L.length, c'⟩))
      have o5 := Lib.hid (own_row o4.out (b := w.heap.size + 1) (by omega) (flr ⟨i, nm, da, true, t, a', L.length, c'⟩))
      clear K2 K3 K4 o2 o3 o4
      go_wp2_with (first
        | (with_reducible refine wpList_load_row (by rfl) 24 (.tmp 2) rfl _ rfl 24 _ _ g4.out Tryz.underlying24 rfl (row27 _) ?_)
        | (with_reducible refine wpList_store_row (by rfl) 24 (.tmp 4) (.tmp 20) rfl _ (flr ⟨i, nm, da, true, t, a', L.length, c'⟩) rfl rfl 24 _ g4'.out (row27 _) (flr_same _ _) (flr_one _) ?_))
      exact bodyPost_row2 4 5 24 rfl _ rfl _ rfl 24 _ _ (K5.out.at 0 rfl) Tryz.underlying24 rfl (row27 _) rfl (Res.mk o5.out K5.out.bel)
end Go.Proofs.YtphbkbjgjicncaaGreat
