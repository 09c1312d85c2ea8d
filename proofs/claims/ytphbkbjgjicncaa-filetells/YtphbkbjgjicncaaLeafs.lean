/-
  What timely, Floor, May, Kept and separate of the program return: for every argument.
-/
import Derived.Test.YtphbkbjgjicncaaFiles
namespace Go.Proofs.Ytphbkbjgjicncaa
open Go Go.RowKit

def tmB (t : Int) : Bool := decide (0 ≤ t ∧ t ≤ 1099511627776)
theorem timely_any (t : Int) (w : World) : Calls Try.prog 87 #[.int .i64 t] w fun e w' => e = .returned (.bool (tmB t)) ∧ w = w' := by
  by_cases h1 : 0 ≤ t
  · have e : Hid (tmB t = decide (t ≤ 1099511627776)) := Lib.hid (by unfold tmB; simp [h1])
    have t1 : decide (0 ≤ t) = true := by simpa using h1
    go_enter Try.func87, Try.ntmps87
    go_wp2_with fail
    go_ret
    exact ⟨by rw [e.out]; rfl, rfl⟩
  · have e : Hid (tmB t = false) := Lib.hid (by unfold tmB; simp [h1])
    have t1 : decide (0 ≤ t) = false := by simpa using h1
    go_enter Try.func87, Try.ntmps87
    go_wp2_with fail
    go_ret
    exact ⟨by rw [e.out]; rfl, rfl⟩

def flC (fl t : Int) : Int := max fl (min (max t 0) 1099511627776)
theorem floor_any (fl t : Int) (w : World) : Calls Try.prog 26 #[.int .i64 fl, .int .i64 t] w fun e w' => e = .returned (.int .i64 (flC fl t)) ∧ w = w' := by
  go_enter Try.func26, Try.ntmps26
  go_wp2_with fail
  go_ret
  exact ⟨rfl, rfl⟩

/-- May a file go? -/
def mayC (f : Fl) (fl : Int) : Int := if f.se = false then 6 else if fl < f.un then 8 else if 0 < f.hn then 9 else 0
theorem may_any (f : Fl) (fl : Int) (w : World) : Calls Try.prog 45 #[.agg (flr f), .int .i64 fl] w fun e w' => e = .returned (.int .i64 (mayC f fl)) ∧ Below w.heap.size w w' := by
  obtain ⟨r, hr⟩ : ∃ r, mayC f fl = r := ⟨_, rfl⟩
  rw [hr]
  obtain ⟨i, nm, da, se, un, ha, hn, hc⟩ := f
  unfold mayC at hr
  unfold flr
  dsimp only at hr ⊢
  cases se with
  | false =>
    rw [if_pos rfl] at hr
    subst hr
    go_enter Try.func45, Try.ntmps45
    go_wp2_with fail
    go_ret
    exact ⟨rfl, (Below.refl _ _).alloc (Nat.le_refl _) _⟩
  | true =>
    rw [if_neg (by decide)] at hr
    by_cases h1 : fl < un
    · have t1 : decide (fl < un) = true := by simpa using h1
      rw [if_pos h1] at hr
      subst hr
      clear h1
      go_enter Try.func45, Try.ntmps45
      go_wp2_with fail
      go_ret
      exact ⟨rfl, (Below.refl _ _).alloc (Nat.le_refl _) _⟩
    · have t1 : decide (fl < un) = false := by simpa using h1
      rw [if_neg h1] at hr
      by_cases h2 : 0 < hn
      · have t2 : decide (0 < hn) = true := by simpa using h2
        rw [if_pos h2] at hr
        subst hr
        clear h1 h2
        go_enter Try.func45, Try.ntmps45
        go_wp2_with fail
        go_ret
        exact ⟨rfl, (Below.refl _ _).alloc (Nat.le_refl _) _⟩
      · have t2 : decide (0 < hn) = false := by simpa using h2
        rw [if_neg h2] at hr
        subst hr
        clear h1 h2
        go_enter Try.func45, Try.ntmps45
        go_wp2_with fail
        go_ret
        exact ⟨rfl, (Below.refl _ _).alloc (Nat.le_refl _) _⟩
theorem ent45 : ∀ args w, (callFunc 45 args).run Try.prog w = .ok (.enter 45 args) w := enters_of Try.func45 (by kernel_rfl) rfl
def kptB (f : Fl) (fl : Int) : Bool := f.se && !(mayC f fl == 0)
theorem kept_any (f : Fl) (fl : Int) (w : World) : Calls Try.prog 27 #[.agg (flr f), .int .i64 fl] w fun e w' => e = .returned (.bool (kptB f fl)) ∧ Below w.heap.size w w' := by
  have hg : Hid ((w.alloc (.cells (flr f) 24)).heap[w.heap.size]? = some (.cells (flr f) 24)) := Lib.hid (by rw [heap_alloc_if, if_pos rfl])
  have hc : (w.alloc (.cells (flr f) 24)).cell? ⟨w.heap.size, 3, none⟩ = some (.bool f.se) := (cell_of_row _ _ _ _ _ _ hg.out).trans rfl
  have c := Lib.hid (fun v => may_any f fl v)
  have hB : Hid (Below w.heap.size w (w.alloc (.cells (flr f) 24))) := Lib.hid ((Below.refl _ _).alloc (Nat.le_refl _) _)
  have hk : Hid (kptB f fl = (f.se && !(mayC f fl == 0))) := Lib.hid rfl
  generalize kptB f fl = R at hk ⊢
  generalize mayC f fl = M at *
  cases hs : f.se with
  | false =>
    rw [hs] at hk hc
    go_enter Try.func27, Try.ntmps27
    go_wp2_with fail
    go_ret
    exact ⟨by rw [hk.out]; rfl, hB.out⟩
  | true =>
    rw [hs] at hk hc
    have hsz := hB.out.size
    go_enter Try.func27, Try.ntmps27
    go_wp2_with (first
      | (with_reducible refine wpList_load_row_g (by with_unfolding_all rfl) 24 (.tmp 2) rfl _ rfl 24 (flr f) _ hg.out Try.underlying24 rfl (row27 f) ?_)
      | (go_at_call 45; refine (c.out _).mono ?_; rintro e w' ⟨rfl, hb⟩))
    go_ret
    exact ⟨by rw [hk.out]; rfl, hB.out.trans (hb.mono hsz)⟩

set_option maxHeartbeats 1000000 in
/-- The same file with holds of its own. -/
theorem separate_any (f : Fl) (L : List ByteArray) (w : World) (h : StrAt w.heap.size w f.ha L) (hn : L.length = f.hn) (hL : L.length ≤ 1000) :
    Calls Try.prog 86 #[.agg (flr f)] w fun e w' => ∃ a' c', e = .returned (.agg (flr { f with ha := a', hc := c' })) ∧ w'.ownsRow w.heap.size 9 1 (.slice a' f.hn c') f.hn (strs L) ∧ Below w.heap.size w w' := by
  have hg : Hid (KW w.heap.size w [(w.heap.size + 1, .cells (flr fl0) 24), (w.heap.size, .cells (flr f) 24)] ((w.alloc (.cells (flr f) 24)).alloc (.cells (flr fl0) 24))) := Lib.hid (KW.two w _ _)
  have hc : ((w.alloc (.cells (flr f) 24)).alloc (.cells (flr fl0) 24)).cell? ⟨w.heap.size, 5, none⟩ = some (.slice f.ha f.hn f.hc) := hg.out.cell 1 rfl 5 rfl
  have hA := Lib.hid (fun (v : World) (hb : Below w.heap.size w v) => clone_any f.ha f.hc L v (h.on hb) hL)
  rw [hn] at hA
  have hz := zero27
  clear h hn hL
  go_enter Try.func86, Try.ntmps86
  go_wp2_with fail
  refine (hA.out _ hg.out.bel).mono ?_
  rintro e v ⟨a', c', rfl, ho, hb⟩
  have hk1 := Lib.hid (hg.out.past hb)
  have hf5 := hk1.out.frozen 1 rfl 5
  have hc5 := hk1.out.cell 1 rfl 5 (y := .slice f.ha f.hn f.hc) rfl
  have hk2 : Hid (KW w.heap.size w [(w.heap.size + 1, .cells (flr fl0) 24), (w.heap.size, .cells (flr { f with ha := a', hc := c' }) 24)] (v.setCell ⟨w.heap.size, 5, none⟩ (.slice a' f.hn c'))) := Lib.hid (hk1.out.set 1 rfl (Nat.le_refl _) 5 _)
  have hk3 := Lib.hid (hk2.out.row 0 rfl (Nat.le_succ _) (flr { f with ha := a', hc := c' }))
  have hB : Hid (w.heap.size + 2 ≤ v.heap.size) := Lib.hid (by have := hb.size; simpa using this)
  have ho3 : Hid (((v.setCell ⟨w.heap.size, 5, none⟩ (.slice a' f.hn c')).setRow (w.heap.size + 1) (flr { f with ha := a', hc := c' })).ownsRow w.heap.size 9 1 (.slice a' f.hn c') f.hn (strs L)) := Lib.hid (by
    refine own_mono (base := w.heap.size + 2) (own_same (own_mono ho (by simp)) fun g hg' => ?_) (by omega)
    obtain ⟨c, hc, hge⟩ := own_at ho hg'
    have hge' : w.heap.size + 2 ≤ g := by simpa using hge
    rw [setRow_other _ _ _ _ (by omega), setCell_eq_setRow _ _ _ _ _ _ _ (hk1.out.at 1 rfl), setRow_other _ _ _ _ (by omega)])
  clear ho hb hc
  go_wp2_with (first
    | (with_reducible refine wpList_load_row (by rfl) 24 (.tmp 1) rfl _ rfl 24 _ _ (hk2.out.at 1 rfl) Try.underlying24 rfl (row27 _) ?_)
    | (with_reducible refine wpList_store_row (by rfl) 24 (.tmp 2) (.tmp 7) rfl _ (flr { f with ha := a', hc := c' }) rfl rfl 24 _ (hk2.out.at 0 rfl) (row27 _) (flr_same _ _) (flr_one _) ?_))
  exact bodyPost_row 2 24 rfl _ rfl 24 _ _ (hk3.out.at 0 rfl) Try.underlying24 rfl (row27 _) rfl ⟨a', c', rfl, ho3.out, hk3.out.bel⟩
end Go.Proofs.Ytphbkbjgjicncaa
