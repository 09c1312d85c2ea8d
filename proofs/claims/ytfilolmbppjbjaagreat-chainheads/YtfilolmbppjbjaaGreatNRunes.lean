/-
  What Runes of the reference returns: for every argument of a bounded length.
-/
import Derived.Test.YtfilolmbppjbjaaGreatNRune
import Derived.Laws.AppendOwn
namespace Go.Proofs.YtfilolmbppjbjaaGreat.nm
open Go.RowKit

def ints (q : List Nat) : List Value := q.map fun p : Nat => Value.int .i64 (p : Int)
theorem ints_len (q : List Nat) : (ints q).length = q.length := by simp [ints]
theorem ints_app (a b : List Nat) : ints (a ++ b) = ints a ++ ints b := by simp [ints]
theorem info3' : (Tryz.prog.info? 3).map (fun i => (i.zero, i.size, i.bytes)) = some (some (.int .i64 0), 1, 8) := by kernel_rfl
theorem info3 : ∃ i, Tryz.prog.info? 3 = some i ∧ i.zero = some (.int .i64 0) ∧ i.size = 1 ∧ i.bytes = 8 := by
  have h := info3'
  cases hq : Tryz.prog.info? 3 with
  | none => rw [hq] at h; cases h
  | some i =>
    rw [hq] at h
    simp only [Option.map_some, Option.some.injEq, Prod.mk.injEq] at h
    exact ⟨i, rfl, h⟩
/-- A new block of one cell. -/
theorem one_new (w : World) (u : Value) (t : TypeId) : ∀ j x, [u][j]? = some x → (w.alloc (.cells #[u] t)).cell? ((⟨w.heap.size, 0, none⟩ : Addr).add j) = some x := by
  intro j x h
  have hj : j = 0 := by
    have := (List.getElem?_eq_some_iff.1 h).1
    simp at this; omega
  subst hj
  have e : (⟨w.heap.size, 0, none⟩ : Addr).add 0 = ⟨w.heap.size, 0, none⟩ := by unfold Addr.add; split <;> simp_all
  have hg : (w.alloc (.cells #[u] t)).heap[w.heap.size]? = some (.cells #[u] t) := by
    show (w.heap.push _)[w.heap.size]? = _
    simp
  rw [e, Lib.cell_of_heap hg]
  exact h

theorem rv_neg (p : Nat) : rv p < 0 ↔ 1114112 ≤ p := by unfold rv; split <;> omega

theorem own_base {w : World} {B : Nat} {e : TypeId} {v : Value} {n : Nat} {xs : List Value} (h : w.ownsRow B e 1 v n xs) : ∀ k, v.ownBlock = some k → B ≤ k := by
  intro k hk
  rcases h.2 with ⟨rfl, _⟩ | ⟨g, cap, cur, rfl, hB, _⟩
  · cases hk
  · have : g = k := Option.some.inj hk
    omega

theorem broken_byte (s : ByteArray) (pos : Nat) (hlt : pos < s.size) (h : 1114112 ≤ (dec ((li s).drop pos)).1) : (dec ((li s).drop pos)).1 = 1114112 + byt (li s) pos := by
  have e1 : byt (li s) pos = byt ((li s).drop pos) 0 := by rw [byt_drop]; rfl
  rw [e1]
  rcases dec_ways _ (drop_ne hlt) with ⟨a, t, e0, h1, e⟩ | ⟨a, b, t, e0, h1, h2, h3, h4, e⟩ | ⟨a, b, c, t, e0, h1, h2, h3, h4, h5, h6, h7, h8, e⟩ | ⟨a, b, c, d, t, e0, h1, h2, h3, h4, h5, h6, h7, h8, h9, h10, e⟩ | ⟨a, t, e0, h1, e⟩
  all_goals (rw [e] at h ⊢; simp only at h ⊢)
  · omega
  · omega
  · omega
  · omega
  · rw [e0]; rfl

set_option maxHeartbeats 1000000 in
set_option maxRecDepth 100000 in
theorem runes_any (s : ByteArray) (hs : s.size ≤ 1099511627776) (w : World) :
    Calls Tryz.prog 72 #[.string s] w fun e w' => ∃ v, e = .returned v ∧ w'.ownsRow w.heap.size 3 1 v (pl (li s)).length (ints (pl (li s))) ∧ Below w.heap.size w w' := by
  obtain ⟨i, hi, hz0, hz1, hz2⟩ := info3
  have H := Lib.hid (And.intro hi (And.intro hz0 (And.intro hz1 hz2)))
  clear hi hz0 hz1 hz2
  have hstart := Lib.hid (World.ownsRow_nil w w.heap.size 3 1)
  go_enter Tryz.func72, Tryz.ntmps72
  go_wp2_with fail
  go_loopw [3, 4] (fun v i wr => ∃ (pos : Nat) (xs : List Nat), i = .int .i64 (pos : Int) ∧ Hid (wr.ownsRow w.heap.size 3 1 v xs.length (ints xs)) ∧ Hid (Below w.heap.size w wr) ∧ pos ≤ s.size ∧ Hid (xs ++ pl ((li s).drop pos) = pl (li s)) ∧ xs.length ≤ pos) (fun _ i _ => s.size - (intOf i).toNat)
  case atStart => exact ⟨0, [], rfl, hstart, Below.refl _ _, by omega, rfl, by simp⟩
  case round =>
    obtain ⟨pos, xs, rfl, ho, hb, hp, hx, hl⟩ := hrel
    rename_i wr
    by_cases hlt : pos < s.size
    · have hne := drop_ne hlt
      have hru := Lib.hid (fun v => rune_any (s.extract pos s.size) (by rw [li_extract]; exact hne) v)
      rw [li_extract] at hru
      have hw := drop_width hlt
      have hle : (pos : Int) ≤ (s.size : Int) := by omega
      have hx2 : Hid (xs ++ [(dec ((li s).drop pos)).1] ++ pl ((li s).drop (pos + (dec ((li s).drop pos)).2)) = pl (li s)) := by
        show _ = _; rw [← hx.out, pl_at hlt]; simp
      obtain ⟨c, hch, hcb⟩ := byt8 s pos hlt
      have hbr : Hid (1114112 ≤ (dec ((li s).drop pos)).1 → (dec ((li s).drop pos)).1 = 1114112 + c.toNat) := fun k => by
        rw [← hcb]; exact broken_byte s pos hlt k
      clear hcb
      unfold runeR at hru
      revert hru hw hx2 hbr
      generalize (dec ((li s).drop pos)).1 = p
      generalize (dec ((li s).drop pos)).2 = n
      intro hru hw hx2 hbr
      have hsize := hb.out.size
      have hcl := c.toNat_lt
      have hb1 : xs.length + 1 ≤ maxLen := by unfold maxLen; omega
      have hb2 : (xs.length + 1) * 8 ≤ 140737488355328 := by omega
      by_cases k : 1114112 ≤ p
      · have t1 : decide (rv p < 0) = true := by simp [rv_neg, k]
        have hbr' := Lib.hid (hbr.out k)
        clear hbr k
        revert hru t1
        generalize rv p = r
        intro hru t1
        go_wp2_with (first
          | (go_at_call 76; refine (hru.out _).mono ?_; rintro e w' ⟨rfl, rfl⟩)
          | (at_builtin; refine wpList_append_own _ rfl (.tmp 25) (.tmp 27) 118 rfl w.heap.size 3 i (.int .i64 0) 1 8 Tryz.underlying118 H.out.1 H.out.2.1 H.out.2.2.1 H.out.2.2.2 rfl (by decide) _ _ _ rfl (ho.out.alloc _) _ 1 1 [.int .i64 (1114112 + (c.toNat : Int))] rfl rfl (one_new _ _ _) (by simp [Value.oneCell']) hb1 hb2 (Nat.le_trans hsize (by simp)) ?_)
          | fail)
        intro v' w' o1 g1 _
        have o2 : Hid (w'.ownsRow w.heap.size 3 1 v' (xs ++ [p]).length (ints (xs ++ [p]))) := by
          show w'.ownsRow w.heap.size 3 1 v' (xs ++ [p]).length (ints (xs ++ [p]))
          rw [ints_app, List.length_append, hbr'.out]
          exact o1
        have b2 := Lib.hid ((hb.out.alloc hsize (.cells #[.int .i64 (1114112 + (c.toNat : Int))] 3)).grown g1 (Nat.le_trans hsize (by simp)) (own_base ho.out))
        clear o1 g1
        go_wp2_with fail
        go_roundw
        case rel => exact ⟨pos + n, xs ++ [p], by go_num, o2, b2, by omega, hx2, by simp; omega⟩
        case measure => simp [intOf]; omega
      · have t1 : decide (rv p < 0) = false := by simp [rv_neg, k]
        have hrv : rv p = (p : Int) := by unfold rv; rw [if_neg k]
        rw [hrv] at hru t1
        clear hbr k hrv
        go_wp2_with (first
          | (go_at_call 76; refine (hru.out _).mono ?_; rintro e w' ⟨rfl, rfl⟩)
          | (at_builtin; refine wpList_append_own _ rfl (.tmp 25) (.tmp 27) 118 rfl w.heap.size 3 i (.int .i64 0) 1 8 Tryz.underlying118 H.out.1 H.out.2.1 H.out.2.2.1 H.out.2.2.2 rfl (by decide) _ _ _ rfl (ho.out.alloc _) _ 1 1 [.int .i64 (p : Int)] rfl rfl (one_new _ _ _) (by simp [Value.oneCell']) hb1 hb2 (Nat.le_trans hsize (by simp)) ?_)
          | fail)
        intro v' w' o1 g1 _
        have o2 : Hid (w'.ownsRow w.heap.size 3 1 v' (xs ++ [p]).length (ints (xs ++ [p]))) := by
          show w'.ownsRow w.heap.size 3 1 v' (xs ++ [p]).length (ints (xs ++ [p]))
          rw [ints_app, List.length_append]
          exact o1
        have b2 := Lib.hid ((hb.out.alloc hsize (.cells #[.int .i64 (p : Int)] 3)).grown g1 (Nat.le_trans hsize (by simp)) (own_base ho.out))
        clear o1 g1
        go_wp2_with fail
        go_roundw
        case rel => exact ⟨pos + n, xs ++ [p], by go_num, o2, b2, by omega, hx2, by simp; omega⟩
        case measure => simp [intOf]; omega
    · have e : Hid (xs = pl (li s)) := by
        show _ = _
        rw [← hx.out, drop_end hlt, pl_nil, List.append_nil]
      go_wp2_with fail
      go_ret
      exact ⟨_, rfl, by rw [← e.out]; exact ho.out, hb.out⟩

end Go.Proofs.YtfilolmbppjbjaaGreat.nm
