/-
  What 'Head' returns.
-/
import Derived.Test.YtfilolmbppjbjaaGreatHeads
namespace Go.Proofs.YtfilolmbppjbjaaGreat
open Go Go.RowKit

def headD (d : List UInt8) (l : List Ev) : List UInt8 := l.foldl nextD d
theorem headD_len (d : List UInt8) (l : List Ev) (hd : d.length = 32) : (headD d l).length = 32 := by
  unfold headD
  induction l generalizing d with
  | nil => exact hd
  | cons e l ih => exact ih _ (nextD_len _ _)
theorem headD_snoc (d : List UInt8) (l : List Ev) (e : Ev) : headD d (l ++ [e]) = nextD (headD d l) e := by unfold headD; rw [List.foldl_append]; rfl
/-- The head behind events, and whether there is one. -/
def hdR (d : List UInt8) (l : List Ev) : List UInt8 := if l.all okP then headD d l else zs

set_option maxRecDepth 100000 in
set_option maxHeartbeats 1000000 in
theorem head_any (d : List UInt8) (hd : d.length = 32) (l : List Ev) (hl : Fit l) (hn : l.length ≤ 1000) (p : Option Addr) (cap : Nat) (w : World) (hE : EvsAt w.heap.size w p l) :
    Calls Tryz.prog 7 #[.agg (row d), .slice p l.length cap] w fun r w' => r = .returned (.tuple #[.agg (row (hdR d l)), .bool (l.all okP)]) ∧ Below w.heap.size w w' := by
  have hz := z41
  have hz2 := zero26
  have hE' := Lib.hid hE
  have hfit := Lib.hid hl
  have hll : (l.length : Int) ≤ 1000 := by omega
  have hd' := Lib.hid hd
  have hK0 : Hid (KW w.heap.size w [(w.heap.size + 1, .cells (row zs) 23), (w.heap.size, .cells (row d) 23)] ((w.alloc (.cells (row d) 23)).alloc (.cells (row zs) 23))) := Lib.hid (by
    have := ((KW.start w).new (.cells (row d) 23)).new (.cells (row zs) 23); simpa using this)
  clear hE hl hd
  go_enter Tryz.func7, Tryz.ntmps7
  go_wp2_with fail
  go_loopw [12] (fun i wr => ∃ k : Nat, k ≤ l.length ∧ i = .int .i64 (k : Int) ∧ Hid ((l.take k).all okP = true) ∧ Hid (KW w.heap.size w [(w.heap.size + 1, .cells (row zs) 23), (w.heap.size, .cells (row (headD d (l.take k))) 23)] wr)) (fun i _ => l.length - (intOf i).toNat)
  case atStart => exact ⟨0, Nat.zero_le _, rfl, Lib.hid rfl, hK0⟩
  case round =>
    obtain ⟨k, hk, rfl, hall, hK⟩ := hrel
    by_cases hlt : k < l.length
    · have hb : (k : Int) < (l.length : Int) := by omega
      obtain ⟨b, o, rfl, hr⟩ := hE'.out.at k hlt
      have hr' := Lib.hid (hr wr hK.out.bel)
      have hft := Lib.hid (hfit.out _ (List.getElem_mem hlt))
      have hts : Hid ((l.take (k + 1)).all okP = okP l[k]) := Lib.hid (by rw [List.take_succ_eq_append_getElem hlt, List.all_append, hall.out]; simp)
      have hhd : Hid (headD d (l.take (k + 1)) = nextD (headD d (l.take k)) l[k]) := Lib.hid (by rw [List.take_succ_eq_append_getElem hlt, headD_snoc])
      have hno : Hid (okP l[k] = false → l.all okP = false) := Lib.hid (fun h => by rw [List.all_eq_false]; exact ⟨_, List.getElem_mem hlt, by rw [h]; decide⟩)
      have hDl := Lib.hid (headD_len d (l.take k) hd'.out)
      clear hr
      generalize l[k] = e at *
      generalize headD d (l.take k) = D at *
      have hes := Lib.hid hft.out.w.s
      have hK1 := Lib.hid (hK.out.new (.cells (evr zeroE) 34))
      have hK2 := Lib.hid (hK1.out.row 0 rfl hK.out.size (evr e))
      have hev : Hid (okP e = true ∨ okP e = false) := Lib.hid (by cases okP e <;> simp)
      rcases hev.out with ho | ho
      · have cn := Lib.hid (fun v => next_true D hDl.out e hft.out ho v)
        have hNl := Lib.hid (nextD_len D e)
        rw [ho] at hts
        clear hno ho
        generalize nextD D e = N at *
        go_wp2_with (first
          | (with_reducible refine wpList_load_ev rfl (.tmp 14) rfl b (o + k * 37) rfl e hes.out hr'.out ?_)
          | (with_reducible refine wpList_store_row rfl 34 (.tmp 7) (.tmp 15) rfl _ (evr e) rfl rfl 34 _ (hK1.out.at 0 rfl) (row41 e hes.out) (evr_same _ _ rfl hes.out) (evr_one e) ?_)
          | (with_reducible refine wpList_load_row rfl 23 (.tmp 2) rfl _ rfl 23 (row D) _ (hK2.out.at 2 rfl) Tryz.underlying23 rfl (row26 D hDl.out) ?_)
          | (with_reducible refine wpList_load_row rfl 34 (.tmp 7) rfl _ rfl 34 (evr e) _ (hK2.out.at 0 rfl) Tryz.underlying34 rfl (row41 e hes.out) ?_))
        refine (cn.out _).mono ?_
        rintro r u ⟨rfl, hu⟩
        have hK3 := Lib.hid (hK2.out.past hu).drop
        have hK4 := Lib.hid (hK3.out.new (.cells (row zs) 23))
        have hK5 := Lib.hid (hK4.out.row 0 rfl hK3.out.size (row N))
        have hK6 := Lib.hid (hK5.out.row 2 rfl (Nat.le_refl _) (row N))
        clear hu
        go_wp2_with (first
          | (with_reducible refine wpList_store_row rfl 23 (.tmp 8) (.tmp 20) rfl _ (row N) rfl rfl 23 _ (hK4.out.at 0 rfl) (row26 N hNl.out) (row_eq _ _ zs_len hNl.out) (row_one N) ?_)
          | (with_reducible refine wpList_load_row rfl 23 (.tmp 8) rfl _ rfl 23 (row N) _ (hK5.out.at 0 rfl) Tryz.underlying23 rfl (row26 N hNl.out) ?_)
          | (with_reducible refine wpList_store_row rfl 23 (.tmp 2) (.tmp 25) rfl _ (row N) rfl rfl 23 _ (hK5.out.at 2 rfl) (row26 N hNl.out) (row_eq _ _ hDl.out hNl.out) (row_one N) ?_))
        go_roundw
        case rel => exact ⟨k + 1, by omega, by go_num, hts, Lib.hid (by rw [hhd.out]; exact hK6.out.drop)⟩
        case measure => simp [intOf]; omega
      · have cn := Lib.hid (fun v => next_false D hDl.out e hft.out ho v)
        have hq := Lib.hid (hno.out ho)
        clear hno ho hts hhd
        go_wp2_with (first
          | (with_reducible refine wpList_load_ev rfl (.tmp 14) rfl b (o + k * 37) rfl e hes.out hr'.out ?_)
          | (with_reducible refine wpList_store_row rfl 34 (.tmp 7) (.tmp 15) rfl _ (evr e) rfl rfl 34 _ (hK1.out.at 0 rfl) (row41 e hes.out) (evr_same _ _ rfl hes.out) (evr_one e) ?_)
          | (with_reducible refine wpList_load_row rfl 23 (.tmp 2) rfl _ rfl 23 (row D) _ (hK2.out.at 2 rfl) Tryz.underlying23 rfl (row26 D hDl.out) ?_)
          | (with_reducible refine wpList_load_row rfl 34 (.tmp 7) rfl _ rfl 34 (evr e) _ (hK2.out.at 0 rfl) Tryz.underlying34 rfl (row41 e hes.out) ?_))
        refine (cn.out _).mono ?_
        rintro r u ⟨rfl, hu⟩
        have hK3 := Lib.hid (hK2.out.past hu).drop
        have hK4 := Lib.hid (hK3.out.new (.cells (row zs) 23))
        have hK5 := Lib.hid (hK4.out.row 0 rfl hK3.out.size (row zs))
        have hK6 := Lib.hid (hK5.out.row 1 rfl (by omega) (row zs))
        clear hu
        go_wp2_with (first
          | (with_reducible refine wpList_store_row rfl 23 (.tmp 8) (.tmp 20) rfl _ (row zs) rfl rfl 23 _ (hK4.out.at 0 rfl) (row26 zs rfl) rfl (row_one zs) ?_)
          | (with_reducible refine wpList_build0 rfl 23 rfl _ build26 ?_)
          | (with_reducible refine wpList_store_row rfl 23 (.tmp 4) (.tmp 24) rfl _ (row zs) rfl rfl 23 _ (hK5.out.at 1 rfl) (row26 zs rfl) rfl (row_one zs) ?_))
        exact bodyPost_row2 4 5 23 rfl _ rfl (.bool false) rfl 23 (row zs) _ (hK6.out.at 1 rfl) Tryz.underlying23 rfl (row26 zs rfl) rfl ⟨by rw [hq.out]; unfold hdR; rw [hq.out]; rfl, hK6.out.bel⟩
    · obtain rfl : k = l.length := by omega
      have hb : ¬ (l.length : Int) < (l.length : Int) := by omega
      have hall' : Hid (l.all okP = true) := Lib.hid (by have := hall.out; rwa [List.take_length] at this)
      have hD : Hid (headD d (l.take l.length) = hdR d l) := Lib.hid (by unfold hdR; rw [hall'.out, List.take_length]; rfl)
      have hDl := Lib.hid (headD_len d (l.take l.length) hd'.out)
      rw [hD.out] at hK hDl
      clear hD hall
      obtain ⟨D, hDe⟩ : ∃ D, Hid (hdR d l = D) := ⟨_, Lib.hid rfl⟩
      rw [hDe.out] at hK hDl
      have hK1 := Lib.hid (hK.out.row 0 rfl (by omega) (row D))
      go_wp2_with (first
        | (with_reducible refine wpList_load_row rfl 23 (.tmp 2) rfl _ rfl 23 (row D) _ (hK.out.at 1 rfl) Tryz.underlying23 rfl (row26 D hDl.out) ?_)
        | (with_reducible refine wpList_store_row rfl 23 (.tmp 4) (.tmp 27) rfl _ (row D) rfl rfl 23 _ (hK.out.at 0 rfl) (row26 D hDl.out) (row_eq _ _ zs_len hDl.out) (row_one D) ?_))
      exact bodyPost_row2 4 5 23 rfl _ rfl (.bool true) rfl 23 (row D) _ (hK1.out.at 0 rfl) Tryz.underlying23 rfl (row26 D hDl.out) rfl ⟨by rw [hall'.out, hDe.out], hK1.out.bel⟩
end Go.Proofs.YtfilolmbppjbjaaGreat
