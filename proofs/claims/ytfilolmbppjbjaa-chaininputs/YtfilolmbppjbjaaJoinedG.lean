/-
  What 'joined' returns of a row whose reach is greater than its length.
-/
import Derived.Test.YtfilolmbppjbjaaGevent
namespace Go.Proofs.Ytfilolmbppjbjaa
open Go Go.RowKit

set_option maxRecDepth 100000 in
set_option maxHeartbeats 1000000 in
theorem joined_row (l : List Pt) (hl : ∀ p ∈ l, p.fine) (hn : l.length ≤ 100) (w : World) (g cap : Nat) (cur : Array Value) (hg : w.heap[g]? = some (.cells cur 65)) (hcur : ∀ k (h : k < l.length), cur[k]? = some (l[k]).enc) :
    Calls Try.prog 31 #[.slice (some ⟨g, 0, none⟩) l.length cap] w fun e w' => e = .returned (.agg (evr (jn l))) ∧ Below w.heap.size w w' := by
  have hgl := lt_of_some hg
  have hcell : Hid (∀ v, Below w.heap.size w v → ∀ k (h : k < l.length), v.cell? ⟨g, k, none⟩ = some (l[k]).enc) := Lib.hid (fun v hb k h => by
    rw [hb.cell (p := ⟨g, k, none⟩) hgl, cell_of_row w g k _ _ _ hg]; exact hcur k h)
  have hs := Lib.hid (fun k => jn_sum (l.take k) (fun p hp => hl p (List.mem_of_mem_take hp)))
  have hz := zero41
  have h0 : Hid (JW w w.heap.size (w.heap.size + 1) (evr (jn (l.take 0))) ((w.alloc (.cells (evr zeroE) 41)).alloc (.cells (evr zeroE) 41))) := Lib.hid {
    bel := ((Below.refl _ _).alloc (Nat.le_refl _) _).alloc (by simp) _
    res := by rw [heap_alloc_if, if_neg (by simp), heap_alloc_if, if_pos rfl]
    ev := by rw [heap_alloc_if, if_pos (by simp)]; rfl
    lr := Nat.le_refl _
    lx := by omega
    ne := by omega }
  have hfine := Lib.hid hl
  rw [hz] at h0
  clear hg hgl hl hz hcur
  go_enter Try.func31, Try.ntmps31
  go_wp2_with fail
  go_loopw [15] (fun i wr => ∃ k : Nat, k ≤ l.length ∧ i = .int .i64 (k : Int) ∧ Hid (JW w w.heap.size (w.heap.size + 1) (evr (jn (l.take k))) wr)) (fun i _ => l.length - (intOf i).toNat)
  case atStart => exact ⟨0, Nat.zero_le _, rfl, h0⟩
  case round =>
    obtain ⟨k, hk, rfl, hJ⟩ := hrel
    by_cases hlt : k < l.length
    · have hb : (k : Int) < (l.length : Int) := by omega
      have hc := hcell.out wr hJ.out.bel k hlt
      have hts := Lib.hid (List.take_succ_eq_append_getElem hlt)
      cases hp : l[k] with
      | kind n =>
        rw [hp] at hc
        simp only [Pt.enc] at hc
        have hj : Hid (jn (l.take (k + 1)) = jOne (jn (l.take k)) (.kind n)) := Lib.hid (by rw [hts.out, jn_snoc, hp])
        have he := Lib.hid (evr_kind (jn (l.take k)) n)
        obtain ⟨hf1, hf2⟩ := hJ.out.at 0 (evr0 _)
        clear hp hts
        go_wp2_with (first
          | (with_reducible refine wpList_is rfl (.tmp 19) 65 67 rfl 67 _ rfl _ (yes67 _ _) ?_))
        go_roundw
        case rel => exact ⟨k + 1, by omega, by go_num, Lib.hid (by rw [hj.out]; unfold jOne; rw [← he.out]; exact hJ.out.set 0 _)⟩
        case measure => simp [intOf]; omega
      | id n =>
        rw [hp] at hc
        simp only [Pt.enc] at hc
        have hj : Hid (jn (l.take (k + 1)) = jOne (jn (l.take k)) (.id n)) := Lib.hid (by rw [hts.out, jn_snoc, hp])
        have he := Lib.hid (evr_id (jn (l.take k)) n)
        obtain ⟨hf1, hf2⟩ := hJ.out.at 1 (evr1 _)
        clear hp hts
        go_wp2_with (first
          | (with_reducible refine wpList_is rfl (.tmp 19) 65 67 rfl 100 _ rfl _ (no67 100 (by decide) _ _) ?_)
          | (with_reducible refine wpList_is rfl (.tmp 19) 65 100 rfl 100 _ rfl _ (yes100 _ _) ?_))
        go_roundw
        case rel => exact ⟨k + 1, by omega, by go_num, Lib.hid (by rw [hj.out]; unfold jOne; rw [← he.out]; exact hJ.out.set 1 _)⟩
        case measure => simp [intOf]; omega
      | label t =>
        rw [hp] at hc
        simp only [Pt.enc] at hc
        have hj : Hid (jn (l.take (k + 1)) = jOne (jn (l.take k)) (.label t)) := Lib.hid (by rw [hts.out, jn_snoc, hp])
        have he := Lib.hid (evr_name (jn (l.take k)) t)
        obtain ⟨hf1, hf2⟩ := hJ.out.at 2 (evr2 _)
        clear hp hts
        go_wp2_with (first
          | (with_reducible refine wpList_is rfl (.tmp 19) 65 67 rfl 95 _ rfl _ (no67 95 (by decide) _ _) ?_)
          | (with_reducible refine wpList_is rfl (.tmp 19) 65 100 rfl 95 _ rfl _ (no100 95 (by decide) _ _) ?_)
          | (with_reducible refine wpList_is rfl (.tmp 19) 65 95 rfl 95 _ rfl _ (yes95 _ _) ?_))
        go_roundw
        case rel => exact ⟨k + 1, by omega, by go_num, Lib.hid (by rw [hj.out]; unfold jOne; rw [← he.out]; exact hJ.out.set 2 _)⟩
        case measure => simp [intOf]; omega
      | moment n =>
        rw [hp] at hc
        simp only [Pt.enc] at hc
        have hj : Hid (jn (l.take (k + 1)) = jOne (jn (l.take k)) (.moment n)) := Lib.hid (by rw [hts.out, jn_snoc, hp])
        have he := Lib.hid (evr_time (jn (l.take k)) n)
        obtain ⟨hf1, hf2⟩ := hJ.out.at 3 (evr3 _)
        clear hp hts
        go_wp2_with (first
          | (with_reducible refine wpList_is rfl (.tmp 19) 65 67 rfl 97 _ rfl _ (no67 97 (by decide) _ _) ?_)
          | (with_reducible refine wpList_is rfl (.tmp 19) 65 100 rfl 97 _ rfl _ (no100 97 (by decide) _ _) ?_)
          | (with_reducible refine wpList_is rfl (.tmp 19) 65 95 rfl 97 _ rfl _ (no95 97 (by decide) _ _) ?_)
          | (with_reducible refine wpList_is rfl (.tmp 19) 65 97 rfl 97 _ rfl _ (yes97 _ _) ?_))
        go_roundw
        case rel => exact ⟨k + 1, by omega, by go_num, Lib.hid (by rw [hj.out]; unfold jOne; rw [← he.out]; exact hJ.out.set 3 _)⟩
        case measure => simp [intOf]; omega
      | added n =>
        rw [hp] at hc
        simp only [Pt.enc] at hc
        have hj : Hid (jn (l.take (k + 1)) = jOne (jn (l.take k)) (.added n)) := Lib.hid (by rw [hts.out, jn_snoc, hp])
        have he := Lib.hid (evr_len (jn (l.take k)) n)
        obtain ⟨hf1, hf2⟩ := hJ.out.at 4 (evr4 _)
        clear hp hts
        go_wp2_with (first
          | (with_reducible refine wpList_is rfl (.tmp 19) 65 67 rfl 96 _ rfl _ (no67 96 (by decide) _ _) ?_)
          | (with_reducible refine wpList_is rfl (.tmp 19) 65 100 rfl 96 _ rfl _ (no100 96 (by decide) _ _) ?_)
          | (with_reducible refine wpList_is rfl (.tmp 19) 65 95 rfl 96 _ rfl _ (no95 96 (by decide) _ _) ?_)
          | (with_reducible refine wpList_is rfl (.tmp 19) 65 97 rfl 96 _ rfl _ (no97 96 (by decide) _ _) ?_)
          | (with_reducible refine wpList_is rfl (.tmp 19) 65 96 rfl 96 _ rfl _ (yes96 _ _) ?_))
        go_roundw
        case rel => exact ⟨k + 1, by omega, by go_num, Lib.hid (by rw [hj.out]; unfold jOne; rw [← he.out]; exact hJ.out.set 4 _)⟩
        case measure => simp [intOf]; omega
      | length n =>
        rw [hp] at hc
        simp only [Pt.enc] at hc
        have hj : Hid (jn (l.take (k + 1)) = jOne (jn (l.take k)) (.length n)) := Lib.hid (by rw [hts.out, jn_snoc, hp])
        have he := Lib.hid (evr_len (jn (l.take k)) n)
        obtain ⟨hf1, hf2⟩ := hJ.out.at 4 (evr4 _)
        clear hp hts
        go_wp2_with (first
          | (with_reducible refine wpList_is rfl (.tmp 19) 65 67 rfl 98 _ rfl _ (no67 98 (by decide) _ _) ?_)
          | (with_reducible refine wpList_is rfl (.tmp 19) 65 100 rfl 98 _ rfl _ (no100 98 (by decide) _ _) ?_)
          | (with_reducible refine wpList_is rfl (.tmp 19) 65 95 rfl 98 _ rfl _ (no95 98 (by decide) _ _) ?_)
          | (with_reducible refine wpList_is rfl (.tmp 19) 65 97 rfl 98 _ rfl _ (no97 98 (by decide) _ _) ?_)
          | (with_reducible refine wpList_is rfl (.tmp 19) 65 96 rfl 98 _ rfl _ (no96 98 (by decide) _ _) ?_)
          | (with_reducible refine wpList_is rfl (.tmp 19) 65 98 rfl 98 _ rfl _ (yes98 _ _) ?_))
        go_roundw
        case rel => exact ⟨k + 1, by omega, by go_num, Lib.hid (by rw [hj.out]; unfold jOne; rw [← he.out]; exact hJ.out.set 4 _)⟩
        case measure => simp [intOf]; omega
      | sum d =>
        rw [hp] at hc
        simp only [Pt.enc] at hc
        have hd : Hid (d.length = 32) := Lib.hid (by have := hfine.out _ (List.getElem_mem hlt); rw [hp] at this; exact this)
        have hj : Hid (jn (l.take (k + 1)) = jOne (jn (l.take k)) (.sum d)) := Lib.hid (by rw [hts.out, jn_snoc, hp])
        have he := Lib.hid (evr_sum (jn (l.take k)) (hs.out k) d hd.out)
        have hi99 : Hid ((Try.prog.info? 99).map (·.size) = some (row d).size) := Lib.hid (by rw [row_size, hd.out]; exact info99)
        have hi26 : Hid ((Try.prog.info? 26).map (·.size) = some (row d).size) := Lib.hid (by rw [row_size, hd.out]; exact info28)
        have hA : Hid ((wr.alloc (.cells (row zs) 99)).heap[wr.heap.size]? = some (.cells (row zs) 99)) := Lib.hid (by rw [heap_alloc_if, if_pos rfl])
        have hB : Hid (((wr.alloc (.cells (row zs) 99)).setRow wr.heap.size (row d)).heap[wr.heap.size]? = some (.cells (row d) 99)) := Lib.hid (setRow_heap _ _ _ _ _ _ hA.out)
        have hJ2 : Hid (JW w w.heap.size (w.heap.size + 1) (evr (jn (l.take k))) ((wr.alloc (.cells (row zs) 99)).setRow wr.heap.size (row d))) := Lib.hid (hJ.out.past (below_setRow ((Below.refl _ _).alloc (Nat.le_refl _) _) (Nat.le_refl _) _))
        have hsz : Hid ((row zs).size = (row d).size) := Lib.hid (by rw [row_size, row_size, hd.out]; rfl)
        have hsz2 : Hid (5 + (row d).size ≤ (evr (jn (l.take k))).size) := Lib.hid (by rw [row_size, hd.out, evr_size, hs.out k]; omega)
        have hro := Lib.hid (row_one d)
        have z99 := zero99
        clear hp hts
        generalize row d = D at *
        go_wp2_with (first
          | (with_reducible refine wpList_is rfl (.tmp 19) 65 67 rfl 99 _ rfl _ (no67 99 (by decide) _ _) ?_)
          | (with_reducible refine wpList_is rfl (.tmp 19) 65 100 rfl 99 _ rfl _ (no100 99 (by decide) _ _) ?_)
          | (with_reducible refine wpList_is rfl (.tmp 19) 65 95 rfl 99 _ rfl _ (no95 99 (by decide) _ _) ?_)
          | (with_reducible refine wpList_is rfl (.tmp 19) 65 97 rfl 99 _ rfl _ (no97 99 (by decide) _ _) ?_)
          | (with_reducible refine wpList_is rfl (.tmp 19) 65 96 rfl 99 _ rfl _ (no96 99 (by decide) _ _) ?_)
          | (with_reducible refine wpList_is rfl (.tmp 19) 65 98 rfl 99 _ rfl _ (no98 99 (by decide) _ _) ?_)
          | (with_reducible refine wpList_is rfl (.tmp 19) 65 99 rfl 99 _ rfl _ (yes99 _ _) ?_)
          | (with_reducible refine wpList_store_row rfl 99 (.tmp 12) (.tmp 52) rfl _ D rfl rfl 99 _ hA.out hi99.out hsz.out hro.out ?_)
          | (with_reducible refine wpList_load_row rfl 99 (.tmp 12) rfl _ rfl 99 D _ hB.out Try.underlying99 rfl hi99.out ?_)
          | (with_reducible refine wpList_store_part rfl 26 (.tmp 54) (.tmp 53) rfl (w.heap.size + 1) 5 D rfl rfl 41 _ _ hJ2.out.ev hi26.out hsz2.out hro.out he.out ?_))
        go_roundw
        case rel => exact ⟨k + 1, by omega, by go_num, Lib.hid (by rw [hj.out]; exact hJ2.out.row _)⟩
        case measure => simp [intOf]; omega
    · obtain rfl : k = l.length := by omega
      have hb : ¬ (l.length : Int) < (l.length : Int) := by omega
      have hJ' : Hid (JW w w.heap.size (w.heap.size + 1) (evr (jn l)) wr) := Lib.hid (by have := hJ.out; rwa [List.take_length] at this)
      have hs' : Hid ((jn l).sum.length = 32) := Lib.hid (by have := hs.out l.length; rwa [List.take_length] at this)
      have hi41 : Hid ((Try.prog.info? 41).map (·.size) = some (evr (jn l)).size) := Lib.hid (by rw [evr_size, hs'.out]; exact info41)
      have hsz : Hid ((evr zeroE).size = (evr (jn l)).size) := Lib.hid (by rw [evr_size, evr_size, hs'.out]; rfl)
      have hro := Lib.hid (evr_one (jn l))
      clear hJ hs
      go_wp2_with (first
        | (with_reducible refine wpList_load_row rfl 41 (.tmp 3) rfl _ rfl 41 (evr (jn l)) _ hJ'.out.ev Try.underlying41 rfl hi41.out ?_)
        | (with_reducible refine wpList_store_row rfl 41 (.tmp 2) (.tmp 56) rfl _ (evr (jn l)) rfl rfl 41 _ hJ'.out.res hi41.out hsz.out hro.out ?_))
      exact bodyPost_row 2 41 rfl _ rfl 41 (evr (jn l)) _ (setRow_heap _ _ _ _ _ _ hJ'.out.res) Try.underlying41 rfl hi41.out rfl ⟨rfl, below_setRow hJ'.out.bel hJ'.out.lr _⟩
end Go.Proofs.Ytfilolmbppjbjaa
