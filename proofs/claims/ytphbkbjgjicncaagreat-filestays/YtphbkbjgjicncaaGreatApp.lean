/-
  What New, Append, Read, Meta, exists and given of the program return: for every argument.
-/
import Derived.Test.YtphbkbjgjicncaaGreatHold
import Derived.Test.YtphbkbjgjicncaaGreatEv0
namespace Go.Proofs.YtphbkbjgjicncaaGreat
open Go Go.RowKit

def gvB (i : Int) : Bool := decide (1 ≤ i ∧ i ≤ 1099511627776)
theorem given_any (t : Int) (w : World) : Calls Tryz.prog 14 #[.int .i64 t] w fun e w' => e = .returned (.bool (gvB t)) ∧ w = w' := by
  by_cases h1 : 1 ≤ t
  · have e : Hid (gvB t = decide (t ≤ 1099511627776)) := Lib.hid (by unfold gvB; simp [h1])
    have t1 : decide (1 ≤ t) = true := by simpa using h1
    go_enter Tryz.func14, Tryz.ntmps14
    go_wp2_with fail
    go_ret
    exact ⟨by rw [e.out]; rfl, rfl⟩
  · have e : Hid (gvB t = false) := Lib.hid (by unfold gvB; simp [h1])
    have t1 : decide (1 ≤ t) = false := by simpa using h1
    go_enter Tryz.func14, Tryz.ntmps14
    go_wp2_with fail
    go_ret
    exact ⟨by rw [e.out]; rfl, rfl⟩

theorem exists_any (f : Fl) (fl : Int) (w : World) : Calls Tryz.prog 31 #[.agg (flr f), .int .i64 fl] w fun e w' => e = .returned (.int .i64 4) ∧ Below w.heap.size w w' := by
  have hB : Hid (Below w.heap.size w (w.alloc (.cells (flr f) 24))) := Lib.hid ((Below.refl _ _).alloc (Nat.le_refl _) _)
  go_enter Tryz.func31, Tryz.ntmps31
  go_wp2_with fail
  go_ret
  exact ⟨rfl, hB.out⟩

set_option maxHeartbeats 1000000 in
theorem fsep_any (f : Fl) (L : List ByteArray) (w : World) (h : StrAt w.heap.size w f.ha L) (hn : L.length = f.hn) (hL : L.length ≤ 1000) :
    Calls Tryz.prog 19 #[.agg (flr f)] w fun e w' => ∃ a' c', e = .returned (.agg (flr { f with ha := a', hc := c' })) ∧ w'.ownsRow w.heap.size 9 1 (.slice a' f.hn c') f.hn (strs L) ∧ Below w.heap.size w w' := by
  have hg : Hid (KW w.heap.size w [(w.heap.size + 1, .cells (flr fl0) 24), (w.heap.size, .cells (flr f) 24)] ((w.alloc (.cells (flr f) 24)).alloc (.cells (flr fl0) 24))) := Lib.hid (KW.two w _ _)
  have hc : ((w.alloc (.cells (flr f) 24)).alloc (.cells (flr fl0) 24)).cell? ⟨w.heap.size, 5, none⟩ = some (.slice f.ha f.hn f.hc) := hg.out.cell 1 rfl 5 rfl
  have hA := Lib.hid (fun (v : World) (hb : Below w.heap.size w v) => clone_any f.ha f.hc L v (h.on hb) hL)
  rw [hn] at hA
  have hz := zero27
  clear h hn hL
  go_enter Tryz.func19, Tryz.ntmps19
  go_wp2_with fail
  refine (hA.out _ hg.out.bel).mono ?_
  rintro e v ⟨a', c', rfl, ho, hb⟩
  have hk1 := Lib.hid (hg.out.past hb)
  have hf5 := hk1.out.frozen 1 rfl 5
  have hc5 := hk1.out.cell 1 rfl 5 (y := .slice f.ha f.hn f.hc) rfl
  have hk2 : Hid (KW w.heap.size w [(w.heap.size + 1, .cells (flr fl0) 24), (w.heap.size, .cells (flr { f with ha := a', hc := c' }) 24)] (v.setCell ⟨w.heap.size, 5, none⟩ (.slice a' f.hn c'))) := Lib.hid (hk1.out.set 1 rfl (Nat.le_refl _) 5 _)
  have hk3 := Lib.hid (hk2.out.row 0 rfl (Nat.le_succ _) (flr { f with ha := a', hc := c' }))
  have hB : Hid (w.heap.size + 2 ≤ v.heap.size) := Lib.hid (by have := hb.size; simpa using this)
  have ho3 : Hid (((v.setCell ⟨w.heap.size, 5, none⟩ (.slice a' f.hn c')).setRow (w.heap.size + 1) (flr { f with ha := a', hc := c' })).ownsRow w.heap.size 9 1 (.slice a' f.hn c') f.hn (strs L)) := Lib.hid (by
    refine own_mono (base := w.heap.size + 2) (own_same (own_mono ho (by simp)) fun g hg' => ?_) (by omega)
    obtain ⟨c, hc, hge⟩ := own_at ho hg'
    have hge' : w.heap.size + 2 ≤ g := by simpa using hge
    rw [setRow_other _ _ _ _ (by omega), setCell_eq_setRow _ _ _ _ _ _ _ (hk1.out.at 1 rfl), setRow_other _ _ _ _ (by omega)])
  clear ho hb hc
  go_wp2_with (first
    | (with_reducible refine wpList_load_row (by rfl) 24 (.tmp 1) rfl _ rfl 24 _ _ (hk2.out.at 1 rfl) Tryz.underlying24 rfl (row27 _) ?_)
    | (with_reducible refine wpList_store_row (by rfl) 24 (.tmp 2) (.tmp 7) rfl _ (flr { f with ha := a', hc := c' }) rfl rfl 24 _ (hk2.out.at 0 rfl) (row27 _) (flr_same _ _) (flr_one _) ?_))
  exact bodyPost_row 2 24 rfl _ rfl 24 _ _ (hk3.out.at 0 rfl) Tryz.underlying24 rfl (row27 _) rfl ⟨a', c', rfl, ho3.out, hk3.out.bel⟩
end Go.Proofs.YtphbkbjgjicncaaGreat
