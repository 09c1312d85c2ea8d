/-
  What Release and Hold of the program return: for every file.
-/
import Derived.Test.YtphbkbjgjicncaaPlace
import Derived.Test.YtphbkbjgjicncaaExtend
import Derived.Test.YtphbkbjgjicncaaNValid
import Derived.Deep.RegionHeld3
namespace Go.Proofs.Ytphbkbjgjicncaa
open Go Go.RowKit

theorem delete_plus (B i : Nat) (a : Option Addr) (c : Nat) (L : List ByteArray) (w : World) (h : w.ownsRow B 9 1 (.slice a L.length c) L.length (strs L)) (hi : i < L.length) :
    Calls Try.prog 92 #[.slice a L.length c, .int .i64 (i : Int), .int .i64 ((i : Int) + 1)] w fun e w' => ∃ a' c', e = .returned (.slice a' (L.eraseIdx i).length c') ∧ Fr B w' a' (L.eraseIdx i) ∧ Below B w w' := by
  have e : ((i + 1 : Nat) : Int) = (i : Int) + 1 := by omega
  rw [← e]
  exact delete_any B i a c L w h hi
/-- A row without x. -/
def rmv (x : ByteArray) (L : List ByteArray) : List ByteArray := if 0 ≤ Lib.idxOfS L x then L.eraseIdx (Lib.idxOfS L x).toNat else L
def rlC (x : ByteArray) (L : List ByteArray) : Int := if 0 ≤ Lib.idxOfS L x then 0 else 3

set_option maxHeartbeats 2000000 in
theorem release_any (f : Fl) (x : ByteArray) (L : List ByteArray) (w : World) (h : StrAt w.heap.size w f.ha L) (hn : f.hn = L.length) (hL : L.length ≤ 1000) :
    Calls Try.prog 74 #[.agg (flr f), .string x] w (Res f (rlC x L) (rmv x L) w) := by
  obtain ⟨i, nm, da, se, un, ha, n, hc⟩ := f
  dsimp only at h hn
  subst hn
  have cs := Lib.hid (fun (v : World) (hb : Below w.heap.size w v) => separate_any ⟨i, nm, da, se, un, ha, L.length, hc⟩ L v (h.on hb) rfl hL)
  have hC : Hid (rlC x L = if 0 ≤ Lib.idxOfS L x then 0 else 3) := Lib.hid rfl
  have hR : Hid (rmv x L = if 0 ≤ Lib.idxOfS L x then L.eraseIdx (Lib.idxOfS L x).toNat else L) := Lib.hid rfl
  have hX := Lib.hid (idx_cases L x)
  have ci := Lib.hid (fun a c v (hs : StrAt v.heap.size v a L) => index_any a c L x v hs hL)
  generalize rlC x L = C at hC ⊢
  generalize rmv x L = R at hR ⊢
  generalize Lib.idxOfS L x = q at *
  have hK := Lib.hid (KW.two w (.cells (flr ⟨i, nm, da, se, un, ha, L.length, hc⟩) 24) (.cells (flr fl0) 24))
  have hz := zero27
  clear h hL
  go_enter Try.func74, Try.ntmps74
  go_wp2_with (with_reducible refine wpList_load_row (by rfl) 24 (.tmp 2) rfl _ rfl 24 _ _ (hK.out.at 1 rfl) Try.underlying24 rfl (row27 _) ?_)
  refine (cs.out _ hK.out.bel).mono ?_
  rintro e v ⟨a', c', rfl, ho, hb⟩
  have hs := hb.size
  have K1 := Lib.hid (hK.out.past hb)
  have K2 := Lib.hid (K1.out.row 1 rfl (Nat.le_refl _) (flr ⟨i, nm, da, se, un, a', L.length, c'⟩))
  have o2 := Lib.hid (own_row (n₀ := w.heap.size + 2) (own_mono ho (by simp)) (b := w.heap.size) (by omega) (flr ⟨i, nm, da, se, un, a', L.length, c'⟩))
  have hc5 := K2.out.cell 1 rfl 5 (y := .slice a' L.length c') rfl
  clear ho hb hs cs
  go_wp2_with (with_reducible refine wpList_store_row (by rfl) 24 (.tmp 2) (.tmp 8) rfl _ (flr ⟨i, nm, da, se, un, a', L.length, c'⟩) rfl rfl 24 _ (K1.out.at 1 rfl) (row27 _) (flr_same _ _) (flr_one _) ?_)
  refine (ci.out _ _ _ (strAt_own o2.out)).mono ?_
  rintro e v' ⟨rfl, rfl⟩
  clear K1 ci
  generalize v.setRow w.heap.size (flr ⟨i, nm, da, se, un, a', L.length, c'⟩) = V at *
  rcases hX.out with ⟨_, hq⟩ | ⟨k, hk, hq, _, _⟩
  · have t1 : decide ((-1 : Int) < 0) = true := rfl
    have e1 : C = 3 := by rw [hC.out, hq, if_neg (by decide)]
    have e2 : R = L := by rw [hR.out, hq, if_neg (by decide)]
    subst hq
    have E1 := Lib.hid e1
    have E2 := Lib.hid e2
    clear e1 e2
    clear hC hR hX
    have K9 := Lib.hid (K2.out.row 0 rfl (Nat.le_succ _) (flr ⟨i, nm, da, se, un, a', L.length, c'⟩))
    have o9 := Lib.hid (own_row o2.out (b := w.heap.size + 1) (by omega) (flr ⟨i, nm, da, se, un, a', L.length, c'⟩))
    go_wp2_with (first
      | (with_reducible refine wpList_load_row (by rfl) 24 (.tmp 2) rfl _ rfl 24 _ _ (K2.out.at 1 rfl) Try.underlying24 rfl (row27 _) ?_)
      | (with_reducible refine wpList_store_row (by rfl) 24 (.tmp 4) (.tmp 15) rfl _ (flr ⟨i, nm, da, se, un, a', L.length, c'⟩) rfl rfl 24 _ (K2.out.at 0 rfl) (row27 _) (flr_same _ _) (flr_one _) ?_))
    exact bodyPost_row2 4 5 24 rfl _ rfl _ rfl 24 _ _ (K9.out.at 0 rfl) Try.underlying24 rfl (row27 _) rfl (by rw [E1.out, E2.out]; exact Res.mk o9.out K9.out.bel)
  · have t1 : decide ((k : Int) < 0) = false := by simp
    have e1 : C = 0 := by rw [hC.out, hq, if_pos (by omega)]
    have e2 : R = L.eraseIdx k := by rw [hR.out, hq, if_pos (by omega)]; rfl
    have hk64 : (k : Int) < (L.length : Int) := by omega
    have hLm : (L.length : Int) ≤ 9223372036854775807 := by
      have := own_slice o2.out
      obtain ⟨a, c, he, h1, h2⟩ := this
      unfold maxLen at h2; omega
    subst hq
    have E1 := Lib.hid e1
    have E2 := Lib.hid e2
    clear e1 e2
    have cd := Lib.hid (delete_plus (w.heap.size + 2) k a' c' L V o2.out hk)
    clear hC hR hX hk
    go_wp2_with fail
    refine cd.out.mono ?_
    rintro e V2 ⟨a2, c2, rfl, hf, hb⟩
    have K3 := Lib.hid (K2.out.under hb (by omega) (by intro x hx; simp only [List.mem_cons, List.not_mem_nil, or_false, List.set] at hx; rcases hx with rfl | rfl <;> simp))
    have hf5 := K3.out.frozen 1 rfl 5
    have hc5 := K3.out.cell 1 rfl 5 (y := .slice a' L.length c') rfl
    have K4 := Lib.hid (K3.out.fho 1 rfl (Nat.le_refl _) a2 (L.eraseIdx k).length c2)
    have f4 := Lib.hid (hf.set (b := w.heap.size) (by omega) 5 (.slice a2 (L.eraseIdx k).length c2))
    have g4 : Hid (_ = some (Obj.cells (flr ⟨i, nm, da, se, un, a2, (L.eraseIdx k).length, c2⟩) 24)) := Lib.hid (K4.out.at 1 rfl)
    have g4' : Hid (_ = some (Obj.cells (flr fl0) 24)) := Lib.hid (K4.out.at 0 rfl)
    have K5 := Lib.hid (K4.out.row 0 rfl (Nat.le_succ _) (flr ⟨i, nm, da, se, un, a2, (L.eraseIdx k).length, c2⟩))
    have f5 := Lib.hid (f4.out.row (b := w.heap.size + 1) (by omega) (flr ⟨i, nm, da, se, un, a2, (L.eraseIdx k).length, c2⟩))
    clear K2 K3 K4 o2 f4 hf hb
    go_wp2_with (first
      | (with_reducible refine wpList_load_row (by rfl) 24 (.tmp 2) rfl _ rfl 24 _ _ g4.out Try.underlying24 rfl (row27 _) ?_)
      | (with_reducible refine wpList_store_row (by rfl) 24 (.tmp 4) (.tmp 23) rfl _ (flr ⟨i, nm, da, se, un, a2, (L.eraseIdx k).length, c2⟩) rfl rfl 24 _ g4'.out (row27 _) (flr_same _ _) (flr_one _) ?_))
    exact bodyPost_row2 4 5 24 rfl _ rfl _ rfl 24 _ _ (K5.out.at 0 rfl) Try.underlying24 rfl (row27 _) rfl (by rw [E1.out, E2.out]; exact Res.fr f5.out K5.out.bel)
end Go.Proofs.Ytphbkbjgjicncaa
