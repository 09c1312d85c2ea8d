/-
  What New, Read and Meta of the program return: for every argument.
-/
import Derived.Test.YtphbkbjgjicncaaGreatEqls
namespace Go.Proofs.YtphbkbjgjicncaaGreat
open Go Go.RowKit

def em : ByteArray := ⟨#[]⟩
def newF (i : Int) (s : ByteArray) : Fl × Int := if vdB s = false then (fl0, 2) else if gvB i = false then (fl0, 1) else (⟨i, s, em, false, 0, none, 0, 0⟩, 0)

set_option maxHeartbeats 1000000 in
theorem new_any (i : Int) (s : ByteArray) (w : World) (hs : s.size ≤ 1099511627776) :
    Calls Tryz.prog 10 #[.int .i64 i, .string s] w fun e w' => e = .returned (.tuple #[.agg (flr (newF i s).1), .int .i64 (newF i s).2]) ∧ Below w.heap.size w w' := by
  have hF : Hid (newF i s = if vdB s = false then (fl0, 2) else if gvB i = false then (fl0, 1) else (⟨i, s, em, false, 0, none, 0, 0⟩, 0)) := Lib.hid rfl
  have cv := Lib.hid (fun v => name_any s hs v)
  have cg := Lib.hid (fun v => given_any i v)
  generalize newF i s = R at hF ⊢
  generalize vdB s = vb at *
  generalize gvB i = gb at *
  have hK := Lib.hid ((KW.start w).new (.cells (flr fl0) 24))
  have hz := zero27
  go_enter Tryz.func10, Tryz.ntmps10
  go_wp2_with fail
  refine (cv.out _).mono ?_
  rintro e v ⟨rfl, hb⟩
  have K1 := Lib.hid (hK.out.past hb)
  clear hb hK
  cases vb with
  | false =>
    rw [if_pos rfl] at hF
    obtain rfl := hF.out
    clear hF
    have K2 := Lib.hid (K1.out.row 0 rfl (Nat.le_refl _) (flr fl0))
    go_wp2_with (refine wpList_store_row (by rfl) 24 (.tmp 4) (.tmp 10) rfl _ (flr fl0) rfl rfl 24 _ (K1.out.at 0 rfl) (row27 _) (flr_same _ _) (flr_one _) ?_)
    exact bodyPost_row2 4 5 24 rfl _ rfl _ rfl 24 _ _ (K2.out.at 0 rfl) Tryz.underlying24 rfl (row27 _) rfl ⟨rfl, K2.out.bel⟩
  | true =>
    rw [if_neg (by decide)] at hF
    cases gb with
    | false =>
      rw [if_pos rfl] at hF
      obtain rfl := hF.out
      clear hF
      have K2 := Lib.hid (K1.out.row 0 rfl (Nat.le_refl _) (flr fl0))
      go_wp2_with (first
        | (go_at_call 14; refine (cg.out _).mono ?_; rintro e w' ⟨rfl, rfl⟩)
        | (refine wpList_store_row (by rfl) 24 (.tmp 4) (.tmp 15) rfl _ (flr fl0) rfl rfl 24 _ (K1.out.at 0 rfl) (row27 _) (flr_same _ _) (flr_one _) ?_))
      exact bodyPost_row2 4 5 24 rfl _ rfl _ rfl 24 _ _ (K2.out.at 0 rfl) Tryz.underlying24 rfl (row27 _) rfl ⟨rfl, K2.out.bel⟩
    | true =>
      rw [if_neg (by decide)] at hF
      obtain rfl := hF.out
      clear hF
      have K2 := Lib.hid (K1.out.row 0 rfl (Nat.le_refl _) (flr ⟨i, s, em, false, 0, none, 0, 0⟩))
      have hE : Hid (((flr fl0).setIfInBounds 0 (.int .i64 i)).setIfInBounds 1 (.string s) = flr ⟨i, s, em, false, 0, none, 0, 0⟩) := Lib.hid (by simp [flr, fl0, em])
      go_wp2_with (first
        | (go_at_call 14; refine (cg.out _).mono ?_; rintro e w' ⟨rfl, rfl⟩)
        | (refine wpList_store_row (by rfl) 24 (.tmp 4) (.tmp 18) rfl _ (flr ⟨i, s, em, false, 0, none, 0, 0⟩) rfl (congrArg Value.agg hE.out) 24 _ (K1.out.at 0 rfl) (row27 _) (flr_same _ _) (flr_one _) ?_))
      exact bodyPost_row2 4 5 24 rfl _ rfl _ rfl 24 _ _ (K2.out.at 0 rfl) Tryz.underlying24 rfl (row27 _) rfl ⟨rfl, K2.out.bel⟩

/-- Some of a text. -/
def rdR (d : ByteArray) (a b : Int) : ByteArray × Int := if 0 ≤ a ∧ a ≤ b ∧ b ≤ (d.size : Int) then (d.extract a.toNat b.toNat, 0) else (em, 1)

set_option maxHeartbeats 1000000 in
theorem read_out (F : FuncId) (hFF : F = 12) (f : Fl) (a b : Int) (w : World) (hd : f.da.size ≤ maxLen) :
    Calls Tryz.prog F #[.agg (flr f), .int .i64 a, .int .i64 b] w fun e w' => e = .returned (.tuple #[.string (rdR f.da a b).1, .int .i64 (rdR f.da a b).2]) ∧ Below w.heap.size w w' := by
  have hK := Lib.hid ((KW.start w).new (.cells (flr f) 24))
  have c2 := hK.out.cell 0 rfl 2 (y := .string f.da) rfl
  have hF : Hid (rdR f.da a b = if 0 ≤ a ∧ a ≤ b ∧ b ≤ (f.da.size : Int) then (f.da.extract a.toNat b.toNat, 0) else (em, 1)) := Lib.hid rfl
  have hd' : f.da.size ≤ 9223372036854775807 := by unfold maxLen at hd; omega
  clear hd
  generalize rdR f.da a b = R at hF ⊢
  by_cases h0 : a < 0
  · have t0 : decide (a < 0) = true := by simpa using h0
    rw [if_neg (by omega)] at hF
    obtain rfl := hF.out
    clear hF
    subst hFF
    · go_enter Tryz.func12, Tryz.ntmps12
      go_wp2_with fail
      go_returns
      exact ⟨rfl, hK.out.bel⟩
  have t0 : decide (a < 0) = false := by simpa using h0
  by_cases h1 : b < a
  · have t1 : decide (b < a) = true := by simpa using h1
    rw [if_neg (by omega)] at hF
    obtain rfl := hF.out
    clear hF
    subst hFF
    · go_enter Tryz.func12, Tryz.ntmps12
      go_wp2_with fail
      go_returns
      exact ⟨rfl, hK.out.bel⟩
  have t1 : decide (b < a) = false := by simpa using h1
  by_cases h2 : (f.da.size : Int) < b
  · have t2 : decide ((f.da.size : Int) < b) = true := by simpa using h2
    rw [if_neg (by omega)] at hF
    obtain rfl := hF.out
    clear hF
    subst hFF
    · go_enter Tryz.func12, Tryz.ntmps12
      go_wp2_with fail
      go_returns
      exact ⟨rfl, hK.out.bel⟩
  have t2 : decide ((f.da.size : Int) < b) = false := by simpa using h2
  rw [if_pos (by omega)] at hF
  obtain rfl := hF.out
  clear hF
  obtain ⟨x, rfl⟩ : ∃ x : Nat, a = (x : Int) := ⟨a.toNat, by omega⟩
  obtain ⟨y, rfl⟩ : ∃ y : Nat, b = (y : Int) := ⟨b.toNat, by omega⟩
  have h3 : x ≤ y := by omega
  have h4 : y ≤ f.da.size := by omega
  subst hFF
  · go_enter Tryz.func12, Tryz.ntmps12
    go_wp2_with fail
    go_returns
    exact ⟨rfl, hK.out.bel⟩
theorem read_any (f : Fl) (a b : Int) (w : World) (hd : f.da.size ≤ maxLen) :
    Calls Tryz.prog 12 #[.agg (flr f), .int .i64 a, .int .i64 b] w fun e w' => e = .returned (.tuple #[.string (rdR f.da a b).1, .int .i64 (rdR f.da a b).2]) ∧ Below w.heap.size w w' := read_out 12 rfl f a b w hd
set_option maxHeartbeats 1000000 in
/-- The same file without its bytes. -/
theorem meta_any (f : Fl) (L : List ByteArray) (w : World) (h : StrAt w.heap.size w f.ha L) (hn : f.hn = L.length) (hL : L.length ≤ 1000) :
    Calls Tryz.prog 13 #[.agg (flr f)] w fun e w' => ∃ a' c', e = .returned (.agg (flr { f with da := em, ha := a', hn := L.length, hc := c' })) ∧ Fr w.heap.size w' a' L ∧ Below w.heap.size w w' := by
  obtain ⟨i, nm, da, se, un, ha, n, hc⟩ := f
  dsimp only at h hn
  subst hn
  have cs := Lib.hid (fun (v : World) (hb : Below w.heap.size w v) => fsep_any ⟨i, nm, da, se, un, ha, L.length, hc⟩ L v (h.on hb) rfl hL)
  have hK := Lib.hid (KW.two w (.cells (flr ⟨i, nm, da, se, un, ha, L.length, hc⟩) 24) (.cells (flr fl0) 24))
  have hz := zero27
  clear h hL
  go_enter Tryz.func13, Tryz.ntmps13
  go_wp2_with (with_reducible refine wpList_load_row (by rfl) 24 (.tmp 1) rfl _ rfl 24 _ _ (hK.out.at 1 rfl) Tryz.underlying24 rfl (row27 _) ?_)
  refine (cs.out _ hK.out.bel).mono ?_
  rintro e v ⟨a', c', rfl, ho, hb⟩
  have K1 := Lib.hid (hK.out.past hb)
  have K2 := Lib.hid (K1.out.row 1 rfl (Nat.le_refl _) (flr ⟨i, nm, da, se, un, a', L.length, c'⟩))
  have hc2 := K2.out.cell 1 rfl 2 (y := .string da) rfl
  have hf2 := K2.out.frozen 1 rfl 2
  have K3 := Lib.hid (K2.out.fda 1 rfl (Nat.le_refl _) em)
  have K4 := Lib.hid (K3.out.row 0 rfl (Nat.le_succ _) (flr ⟨i, nm, em, se, un, a', L.length, c'⟩))
  have hsz : Hid (w.heap.size + 1 + 1 ≤ v.heap.size) := Lib.hid (by have := hb.size; simpa using this)
  have f4 := Lib.hid (((((fr_own ho).less (B' := w.heap.size + 1 + 1) (by simp)).row (b := w.heap.size) (by omega) (flr ⟨i, nm, da, se, un, a', L.length, c'⟩)).set (b := w.heap.size) (by omega) 2 (.string em)).row (b := w.heap.size + 1) (by omega) (flr ⟨i, nm, em, se, un, a', L.length, c'⟩))
  have g1 : Hid (_ = some (Obj.cells (flr ⟨i, nm, em, se, un, a', L.length, c'⟩) 24)) := Lib.hid (K3.out.at 1 rfl)
  have g0 : Hid (_ = some (Obj.cells (flr fl0) 24)) := Lib.hid (K3.out.at 0 rfl)
  clear ho hb hK K2 K3 cs
  go_wp2_with (first
    | (with_reducible refine wpList_store_row (by rfl) 24 (.tmp 1) (.tmp 4) rfl _ (flr ⟨i, nm, da, se, un, a', L.length, c'⟩) rfl rfl 24 _ (K1.out.at 1 rfl) (row27 _) (flr_same _ _) (flr_one _) ?_)
    | (refine wpList_load_row (by rfl) 24 (.tmp 1) rfl _ rfl 24 _ _ g1.out Tryz.underlying24 rfl (row27 _) ?_)
    | (refine wpList_store_row (by rfl) 24 (.tmp 2) (.tmp 6) rfl _ (flr ⟨i, nm, em, se, un, a', L.length, c'⟩) rfl rfl 24 _ g0.out (row27 _) (flr_same _ _) (flr_one _) ?_))
  exact bodyPost_row 2 24 rfl _ rfl 24 _ _ (K4.out.at 0 rfl) Tryz.underlying24 rfl (row27 _) rfl ⟨a', c', rfl, f4.out.less (by omega), K4.out.bel⟩
end Go.Proofs.YtphbkbjgjicncaaGreat
