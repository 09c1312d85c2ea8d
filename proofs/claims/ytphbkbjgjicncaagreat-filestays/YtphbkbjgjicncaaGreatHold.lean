/-
  What Hold of the program returns: for every file.
-/
import Derived.Test.YtphbkbjgjicncaaGreatRelease
import Derived.Deep.RegionLaw
namespace Go.Proofs.YtphbkbjgjicncaaGreat
open Go Go.RowKit

/-- Is it a name? -/
def vdB (x : ByteArray) : Bool := nm.vld (nm.li x)
theorem name_any (x : ByteArray) (hx : x.size ≤ 1099511627776) (w : World) : Calls Tryz.prog 15 #[.string x] w fun e w' => e = .returned (.bool (vdB x)) ∧ Below w.heap.size w w' := nm.valid_any x hx w
def hldC (se : Bool) (x : ByteArray) (L : List ByteArray) : Int := if se = false then 6 else if vdB x = false then 2 else if Lib.containsS L x = true then 4 else if 4 ≤ L.length then 10 else 0
def hldL (se : Bool) (x : ByteArray) (L : List ByteArray) : List ByteArray := if hldC se x L = 0 then insAt x (plc x L) L else L

/-- The worlds of the region in which a new hold is laid. -/
structure HW (w : World) (f : Fl) (L : List ByteArray) (V v : World) : Prop where
  kw : KW w.heap.size w [(w.heap.size + 1, .cells (flr fl0) 24), (w.heap.size, .cells (flr f) 24)] v
  ow : v.ownsRow (w.heap.size + 2) 9 1 (.slice f.ha L.length f.hc) L.length (strs L)
  gr : V.heap.size ≤ v.heap.size
  lo : w.heap.size + 2 ≤ v.heap.size
  ap : ∀ g, f.ha = some ⟨g, 0, none⟩ → g < V.heap.size
theorem HW.past {w : World} {f : Fl} {L : List ByteArray} {V v v' : World} (h : HW w f L V v) (hb : Below v.heap.size v v') : HW w f L V v' :=
  ⟨h.kw.past hb, own_past h.ow hb, Nat.le_trans h.gr hb.size, Nat.le_trans h.lo hb.size, h.ap⟩
theorem HW.drew {w : World} {f : Fl} {L : List ByteArray} {V v : World} (h : HW w f L V v) : HW w f L V v.drew := ⟨h.kw.drew, own_same h.ow (fun _ _ => rfl), h.gr, h.lo, h.ap⟩
theorem HW.new {w : World} {f : Fl} {L : List ByteArray} {V v : World} (h : HW w f L V v) (o : Obj) : HW w f L V (v.alloc o) := h.past ((Below.refl _ _).alloc (Nat.le_refl _) _)
theorem HW.cell {w : World} {f : Fl} {L : List ByteArray} {V v : World} (h : HW w f L V v) : v.cell? ⟨w.heap.size, 5, none⟩ = some (.slice f.ha f.hn f.hc) := h.kw.cell 1 rfl 5 rfl
theorem HW.frz {w : World} {f : Fl} {L : List ByteArray} {V v : World} (h : HW w f L V v) : v.frozen? ⟨w.heap.size, 5, none⟩ = false := h.kw.frozen 1 rfl 5
theorem HW.two {w : World} {f : Fl} {L : List ByteArray} {V v : World} (h : HW w f L V v) : v.cell? ⟨w.heap.size, 5, none⟩ = some (.slice f.ha f.hn f.hc) ∧ v.frozen? ⟨w.heap.size, 5, none⟩ = false := ⟨h.cell, h.frz⟩
theorem HW.under {w : World} {f : Fl} {L : List ByteArray} {V v v' : World} (h : HW w f L V v) (hb : Below (w.heap.size + 2) v v') : KW w.heap.size w [(w.heap.size + 1, .cells (flr fl0) 24), (w.heap.size, .cells (flr f) 24)] v' :=
  h.kw.under hb (by omega) (by intro x hx; simp only [List.mem_cons, List.not_mem_nil, or_false] at hx; rcases hx with rfl | rfl <;> simp)
theorem kw_two {w v : World} {f : Fl} (h : KW w.heap.size w [(w.heap.size + 1, .cells (flr fl0) 24), (w.heap.size, .cells (flr f) 24)] v) : v.cell? ⟨w.heap.size, 5, none⟩ = some (.slice f.ha f.hn f.hc) ∧ v.frozen? ⟨w.heap.size, 5, none⟩ = false := ⟨h.cell 1 rfl 5 rfl, h.frozen 1 rfl 5⟩
theorem new_at (v : World) (o : Obj) : (v.alloc o).heap[v.heap.size]? = some o := by rw [heap_alloc_if, if_pos rfl]

set_option maxHeartbeats 4000000 in
theorem hold_any (f : Fl) (x : ByteArray) (L : List ByteArray) (w : World) (h : StrAt w.heap.size w f.ha L) (hn : f.hn = L.length) (hL : L.length ≤ 1000) (hs : ∀ y ∈ L, y.size ≤ 1099511627776) (hx : x.size ≤ 1099511627776) :
    Calls Tryz.prog 34 #[.agg (flr f), .string x] w (Res f (hldC f.se x L) (hldL f.se x L) w) := by
  obtain ⟨i, nm, da, se, un, ha, n, hc⟩ := f
  dsimp only at h hn
  subst hn
  have cs := Lib.hid (fun (v : World) (hb : Below w.heap.size w v) => separate_any ⟨i, nm, da, se, un, ha, L.length, hc⟩ L v (h.on hb) rfl hL)
  have hC : Hid (hldC se x L = if se = false then 6 else if vdB x = false then 2 else if Lib.containsS L x = true then 4 else if 4 ≤ L.length then 10 else 0) := Lib.hid rfl
  have hR : Hid (hldL se x L = if hldC se x L = 0 then insAt x (plc x L) L else L) := Lib.hid rfl
  have cv := Lib.hid (fun v => name_any x hx v)
  have cc := Lib.hid (fun a c v (hs : StrAt v.heap.size v a L) => contains_any a c L x v hs hL)
  have cp := Lib.hid (fun a c v (h1 : StrAt v.heap.size v a L) => place_any a c L x v h1 hL hs hx)
  have hple := Lib.hid (plc_le x L)
  have cn := Lib.hid (fun B a c vb v h1 h2 h3 h4 => insert_any B (plc x L) a c vb L x v h1 (plc_le x L) hL h2 h3 h4)
  dsimp only
  generalize hldL se x L = R at hR ⊢
  generalize hldC se x L = C at hC hR ⊢
  generalize vdB x = vb at *
  generalize Lib.containsS L x = cb at *
  have hK := Lib.hid (KW.two w (.cells (flr ⟨i, nm, da, se, un, ha, L.length, hc⟩) 24) (.cells (flr fl0) 24))
  have hz := zero27
  have hLL : Hid (L.length ≤ 1000) := Lib.hid hL
  clear h hL hs hx
  go_enter Tryz.func34, Tryz.ntmps34
  go_wp2_with (with_reducible refine wpList_load_row (by rfl) 24 (.tmp 2) rfl _ rfl 24 _ _ (hK.out.at 1 rfl) Tryz.underlying24 rfl (row27 _) ?_)
  refine (cs.out _ hK.out.bel).mono ?_
  rintro e v ⟨a', c', rfl, ho, hb⟩
  have hs := hb.size
  have K1 := Lib.hid (hK.out.past hb)
  have K2 := Lib.hid (K1.out.row 1 rfl (Nat.le_refl _) (flr ⟨i, nm, da, se, un, a', L.length, c'⟩))
  have o2 := Lib.hid (own_row (n₀ := w.heap.size + 2) (own_mono ho (by simp)) (b := w.heap.size) (by omega) (flr ⟨i, nm, da, se, un, a', L.length, c'⟩))
  have hc3 := K2.out.cell 1 rfl 3 (y := .bool se) rfl
  clear ho hb hs cs
  cases se with
  | false =>
    have E1 : Hid (C = 6) := Lib.hid (by rw [hC.out]; rfl)
    have E2 : Hid (R = L) := Lib.hid (by rw [hR.out, E1.out]; rfl)
    clear hC hR
    have K9 := Lib.hid (K2.out.row 0 rfl (Nat.le_succ _) (flr ⟨i, nm, da, false, un, a', L.length, c'⟩))
    have o9 := Lib.hid (own_row o2.out (b := w.heap.size + 1) (by omega) (flr ⟨i, nm, da, false, un, a', L.length, c'⟩))
    go_wp2_with (first
    | (with_reducible refine wpList_store_row (by rfl) 24 (.tmp 2) (.tmp 7) rfl _ (flr ⟨i, nm, da, false, un, a', L.length, c'⟩) rfl rfl 24 _ (K1.out.at 1 rfl) (row27 _) (flr_same _ _) (flr_one _) ?_)
      | (with_reducible refine wpList_load_row (by rfl) 24 (.tmp 2) rfl _ rfl 24 _ _ (K2.out.at 1 rfl) Tryz.underlying24 rfl (row27 _) ?_)
      | (with_reducible refine wpList_store_row (by rfl) 24 (.tmp 4) (.tmp 12) rfl _ (flr ⟨i, nm, da, false, un, a', L.length, c'⟩) rfl rfl 24 _ (K2.out.at 0 rfl) (row27 _) (flr_same _ _) (flr_one _) ?_))
    exact bodyPost_row2 4 5 24 rfl _ rfl _ rfl 24 _ _ (K9.out.at 0 rfl) Tryz.underlying24 rfl (row27 _) rfl (by rw [E1.out, E2.out]; exact Res.mk o9.out K9.out.bel)
  | true =>
    go_wp2_with (with_reducible refine wpList_store_row (by rfl) 24 (.tmp 2) (.tmp 7) rfl _ (flr ⟨i, nm, da, true, un, a', L.length, c'⟩) rfl rfl 24 _ (K1.out.at 1 rfl) (row27 _) (flr_same _ _) (flr_one _) ?_)
    refine (cv.out _).mono ?_
    rintro e v2 ⟨rfl, hb2⟩
    have K3 := Lib.hid (K2.out.past hb2)
    have o3 := Lib.hid (own_past o2.out hb2)
    have hc5 := K3.out.cell 1 rfl 5 (y := .slice a' L.length c') rfl
    clear K1 K2 o2 hb2 hc3
    cases vb with
    | false =>
      have E1 : Hid (C = 2) := Lib.hid (by rw [hC.out]; rfl)
      have E2 : Hid (R = L) := Lib.hid (by rw [hR.out, E1.out]; rfl)
      clear hC hR
      have K9 := Lib.hid (K3.out.row 0 rfl (Nat.le_succ _) (flr ⟨i, nm, da, true, un, a', L.length, c'⟩))
      have o9 := Lib.hid (own_row o3.out (b := w.heap.size + 1) (by omega) (flr ⟨i, nm, da, true, un, a', L.length, c'⟩))
      go_wp2_with (first
        | (with_reducible refine wpList_load_row (by rfl) 24 (.tmp 2) rfl _ rfl 24 _ _ (K3.out.at 1 rfl) Tryz.underlying24 rfl (row27 _) ?_)
        | (with_reducible refine wpList_store_row (by rfl) 24 (.tmp 4) (.tmp 17) rfl _ (flr ⟨i, nm, da, true, un, a', L.length, c'⟩) rfl rfl 24 _ (K3.out.at 0 rfl) (row27 _) (flr_same _ _) (flr_one _) ?_))
      exact bodyPost_row2 4 5 24 rfl _ rfl _ rfl 24 _ _ (K9.out.at 0 rfl) Tryz.underlying24 rfl (row27 _) rfl (by rw [E1.out, E2.out]; exact Res.mk o9.out K9.out.bel)
    | true =>
      go_wp2_with fail
      refine (cc.out _ _ _ (strAt_own o3.out)).mono ?_
      rintro e v3 ⟨rfl, rfl⟩
      cases cb with
      | true =>
        have E1 : Hid (C = 4) := Lib.hid (by rw [hC.out]; rfl)
        have E2 : Hid (R = L) := Lib.hid (by rw [hR.out, E1.out]; rfl)
        clear hC hR
        have K9 := Lib.hid (K3.out.row 0 rfl (Nat.le_succ _) (flr ⟨i, nm, da, true, un, a', L.length, c'⟩))
        have o9 := Lib.hid (own_row o3.out (b := w.heap.size + 1) (by omega) (flr ⟨i, nm, da, true, un, a', L.length, c'⟩))
        go_wp2_with (first
          | (with_reducible refine wpList_load_row (by rfl) 24 (.tmp 2) rfl _ rfl 24 _ _ (K3.out.at 1 rfl) Tryz.underlying24 rfl (row27 _) ?_)
          | (with_reducible refine wpList_store_row (by rfl) 24 (.tmp 4) (.tmp 23) rfl _ (flr ⟨i, nm, da, true, un, a', L.length, c'⟩) rfl rfl 24 _ (K3.out.at 0 rfl) (row27 _) (flr_same _ _) (flr_one _) ?_))
        exact bodyPost_row2 4 5 24 rfl _ rfl _ rfl 24 _ _ (K9.out.at 0 rfl) Tryz.underlying24 rfl (row27 _) rfl (by rw [E1.out, E2.out]; exact Res.mk o9.out K9.out.bel)
      | false =>
        by_cases h4 : 4 ≤ L.length
        · have t1 : decide ((4 : Int) ≤ (L.length : Int)) = true := by simp; omega
          have E1 : Hid (C = 10) := Lib.hid (by rw [hC.out]; simp [h4])
          have E2 : Hid (R = L) := Lib.hid (by rw [hR.out, E1.out]; rfl)
          clear hC hR
          have K9 := Lib.hid (K3.out.row 0 rfl (Nat.le_succ _) (flr ⟨i, nm, da, true, un, a', L.length, c'⟩))
          have o9 := Lib.hid (own_row o3.out (b := w.heap.size + 1) (by omega) (flr ⟨i, nm, da, true, un, a', L.length, c'⟩))
          go_wp2_with (first
            | (with_reducible refine wpList_load_row (by rfl) 24 (.tmp 2) rfl _ rfl 24 _ _ (K3.out.at 1 rfl) Tryz.underlying24 rfl (row27 _) ?_)
            | (with_reducible refine wpList_store_row (by rfl) 24 (.tmp 4) (.tmp 29) rfl _ (flr ⟨i, nm, da, true, un, a', L.length, c'⟩) rfl rfl 24 _ (K3.out.at 0 rfl) (row27 _) (flr_same _ _) (flr_one _) ?_))
          exact bodyPost_row2 4 5 24 rfl _ rfl _ rfl 24 _ _ (K9.out.at 0 rfl) Tryz.underlying24 rfl (row27 _) rfl (by rw [E1.out, E2.out]; exact Res.mk o9.out K9.out.bel)
        have t1 : decide ((4 : Int) ≤ (L.length : Int)) = false := by simp; omega
        have E1 : Hid (C = 0) := Lib.hid (by rw [hC.out]; simp [h4])
        have E2 : Hid (R = insAt x (plc x L) L) := Lib.hid (by rw [hR.out, E1.out]; rfl)
        clear hC hR
        clear h4
        have H0 : HW w ⟨i, nm, da, true, un, a', L.length, c'⟩ L v2 v2 := ⟨K3.out, o3.out, Nat.le_refl _, K3.out.lt 0 rfl, fun g hg => by
          have hg : a' = some ⟨g, 0, none⟩ := hg
          subst hg
          obtain ⟨c, hc, _⟩ := own_at o3.out rfl
          exact lt_of_some hc⟩
        have H1 := Lib.hid H0
        clear H0 K3 o3
        have cp1 := Lib.hid (fun v (hv : HW w ⟨i, nm, da, true, un, a', L.length, c'⟩ L v2 v) => cp.out a' c' v (strAt_own hv.ow))
        have cn1 : Hid (∀ (v : World) (b : Nat), HW w ⟨i, nm, da, true, un, a', L.length, c'⟩ L v2 v → v.heap[b]? = some (.cells #[.string x] 9) → v2.heap.size ≤ b → Calls Tryz.prog 48 #[.slice a' L.length c', .int .i64 (plc x L : Int), .slice (some ⟨b, 0, none⟩) 1 1] v fun e w' => ∃ a2 c2, e = .returned (.slice a2 (insAt x (plc x L) L).length c2) ∧ Fr (w.heap.size + 2) w' a2 (insAt x (plc x L) L) ∧ Below (w.heap.size + 2) v w') := Lib.hid (fun v b hv h1 h2 => cn.out (w.heap.size + 2) a' c' b v hv.ow h1 (fun g hg => by have := hv.ap g hg; omega) hv.lo)
        clear cp cn cc cv
        go_wp2_with fail
        have q1 := H1.out.cell
        have q2 := H1.out.drew.cell
        have q3 := fun o => (H1.out.new o).cell
        have q4 := fun o => (H1.out.drew.new o).cell
        go_region_law (first
            | (go_simp; go_at_call 49; refine (cp1.out _ (by first | exact H1.out.drew | exact H1.out.drew.new _)).mono ?_; rintro e vP ⟨rfl, hbP⟩; have hP := (by first | exact H1.out.drew.past hbP | exact (H1.out.drew.new _).past hbP : HW w ⟨i, nm, da, true, un, a', L.length, c'⟩ L v2 vP); have q5 := hP.cell; have q6 := fun o => (hP.new o).cell)
            | (go_simp; go_at_call 48; refine (cn1.out _ _ (by first | exact hP | exact hP.new _) (by first | exact new_at _ _ | exact (hbP.block _ (by simp)).trans (new_at _ _)) (by first | exact hP.gr | exact H1.out.gr)).mono ?_; rintro e V2 ⟨a2, c2, rfl, hf, hbI⟩; have hI := (by first | exact hP.under hbI | exact (hP.new _).under hbI : KW w.heap.size w [(w.heap.size + 1, .cells (flr fl0) 24), (w.heap.size, .cells (flr ⟨i, nm, da, true, un, a', L.length, c'⟩) 24)] V2); have q7 := (kw_two hI).1; have q8 := (kw_two hI).2))
        all_goals
          have K4 := Lib.hid (hI.fho 1 rfl (Nat.le_refl _) a2 (insAt x (plc x L) L).length c2)
          have f4 := Lib.hid (hf.set (b := w.heap.size) (by omega) 5 (.slice a2 (insAt x (plc x L) L).length c2))
          have g4 : Hid (_ = some (Obj.cells (flr ⟨i, nm, da, true, un, a2, (insAt x (plc x L) L).length, c2⟩) 24)) := Lib.hid (K4.out.at 1 rfl)
          have g4' : Hid (_ = some (Obj.cells (flr fl0) 24)) := Lib.hid (K4.out.at 0 rfl)
          have K5 := Lib.hid (K4.out.row 0 rfl (Nat.le_succ _) (flr ⟨i, nm, da, true, un, a2, (insAt x (plc x L) L).length, c2⟩))
          have f5 := Lib.hid (f4.out.row (b := w.heap.size + 1) (by omega) (flr ⟨i, nm, da, true, un, a2, (insAt x (plc x L) L).length, c2⟩))
          clear K4 f4 hf hbI hI q1 q2 q3 q4 q5 q6 q7 q8 hbP hP
          go_wp2_with (first
            | (with_reducible refine wpList_load_row (by rfl) 24 (.tmp 2) rfl _ rfl 24 _ _ g4.out Tryz.underlying24 rfl (row27 _) ?_)
            | (with_reducible refine wpList_store_row (by rfl) 24 (.tmp 4) (.tmp 40) rfl _ (flr ⟨i, nm, da, true, un, a2, (insAt x (plc x L) L).length, c2⟩) rfl rfl 24 _ g4'.out (row27 _) (flr_same _ _) (flr_one _) ?_))
          exact bodyPost_row2 4 5 24 rfl _ rfl _ rfl 24 _ _ (K5.out.at 0 rfl) Tryz.underlying24 rfl (row27 _) rfl (by rw [E1.out, E2.out]; exact Res.fr f5.out K5.out.bel)
end Go.Proofs.YtphbkbjgjicncaaGreat
