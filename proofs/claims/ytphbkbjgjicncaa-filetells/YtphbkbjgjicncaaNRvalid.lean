/-
  What Valid and Less of the reference return: for every argument of a bounded length.
-/
import Derived.Test.YtphbkbjgjicncaaNRunes
namespace Go.Proofs.Ytphbkbjgjicncaa.nm
open Go.RowKit

/-- A slice of places. -/
structure Pls (v : Value) (q : List Nat) (g cap : Nat) (w : World) : Prop where
  val : v = .slice (some ⟨g, 0, none⟩) q.length cap
  lt : g < w.heap.size
  at_ : ∀ j (h : j < q.length), w.cell? ⟨g, j, none⟩ = some (.int .i64 ((q[j] : Nat) : Int))
theorem Pls.keep {v : Value} {q : List Nat} {g cap : Nat} {w w' : World} (h : Pls v q g cap w) (hb : Below w.heap.size w w') : Pls v q g cap w' :=
  ⟨h.val, Nat.lt_of_lt_of_le h.lt hb.size, fun j hj => (hb.cell (p := ⟨g, j, none⟩) h.lt).trans (h.at_ j hj)⟩
theorem pls_of {w : World} {B : Nat} {v : Value} {q : List Nat} (h : w.ownsRow B 3 1 v q.length (ints q)) : (q = [] ∧ ∃ a c, v = .slice a 0 c) ∨ (q ≠ [] ∧ ∃ g cap, Pls v q g cap w) := by
  rcases h.2 with ⟨rfl, h0⟩ | ⟨g, cap, cur, rfl, hB, hg, hn, hc, hs, ht⟩
  · exact .inl ⟨List.length_eq_zero_iff.mp h0, none, 0, rfl⟩
  · by_cases hq : q = []
    · subst hq; exact .inl ⟨rfl, _, _, rfl⟩
    · refine .inr ⟨hq, g, cap, rfl, (Array.getElem?_eq_some_iff.1 hg).1, fun j hj => ?_⟩
      rw [Lib.cell_of_heap hg]
      show cur[j]? = _
      rw [Nat.mul_one] at ht
      have e : cur.toList[j]? = (ints q)[j]? := by
        rw [← ht, List.getElem?_take, if_pos hj]
      rw [← Array.getElem?_toList, e]
      simp [ints, hj]

theorem vld_nil (s : ByteArray) (h : pl (li s) = []) : vld (li s) = false := by unfold vld; rw [h]; rfl
theorem vld_no (l : List UInt8) (h : ¬ ((pl l).length ≤ 24 ∧ (∀ p ∈ pl l, okn p) ∧ (pl l).head? ≠ some 32 ∧ (pl l).getLast?.getD 32 ≠ 32)) : vld l = false := by
  cases e : vld l
  · rfl
  · exact absurd ((vld_iff l).1 e) h

theorem pls_gen {w : World} {B : Nat} {v : Value} {q : List Nat} (h : w.ownsRow B 3 1 v q.length (ints q)) : ∃ A c, v = .slice A q.length c ∧ (q ≠ [] → ∃ g, A = some ⟨g, 0, none⟩ ∧ Pls v q g c w) := by
  rcases pls_of h with ⟨rfl, a, c, rfl⟩ | ⟨hq, g, cap, hP⟩
  · exact ⟨a, c, rfl, fun h => absurd rfl h⟩
  · exact ⟨_, cap, hP.val, fun _ => ⟨g, rfl, hP⟩⟩

theorem lxl_at {x y : List Nat} {k : Nat} (hx : k < x.length) (hy : k < y.length) : lxl (x.drop k) (y.drop k) = if x[k] = y[k] then lxl (x.drop (k + 1)) (y.drop (k + 1)) else decide (x[k] < y[k]) := by
  rw [List.drop_eq_getElem_cons hx, List.drop_eq_getElem_cons hy]
  rfl
theorem lxl_over {x y : List Nat} {k : Nat} (hx : k ≤ x.length) (hy : k ≤ y.length) (h : ¬ (k < x.length ∧ k < y.length)) : lxl (x.drop k) (y.drop k) = decide (x.length < y.length) := by
  by_cases hx' : k = x.length
  · rw [List.drop_eq_nil_of_le (by omega : x.length ≤ k)]
    by_cases hy' : k = y.length
    · rw [List.drop_eq_nil_of_le (by omega : y.length ≤ k)]
      simp [lxl]; omega
    · rw [List.drop_eq_getElem_cons (by omega : k < y.length)]
      rw [lxl_first]; simp; omega
  · rw [List.drop_eq_nil_of_le (by omega : y.length ≤ k), lxl_nil]
    simp; omega

theorem below_drewN {B : Nat} {a w : World} (h : Below B a w) (n : Nat) : Below B a (w.drewN n) := ⟨h.os, h.tape, h.output, h.size, h.block⟩

set_option maxHeartbeats 1000000 in
set_option maxRecDepth 100000 in
theorem rless_any (a b : ByteArray) (ha : a.size ≤ 1099511627776) (hb : b.size ≤ 1099511627776) (w : World) :
    Calls Try.prog 42 #[.string a, .string b] w fun e w' => e = .returned (.bool (lxl (pl (li a)) (pl (li b)))) ∧ Below w.heap.size w w' := by
  have c1 := Lib.hid (fun v => runes_any a ha v)
  have c2 := Lib.hid (fun v => runes_any b hb v)
  have hlx : (pl (li a)).length ≤ 1099511627776 := by have := pl_le (li a); rw [li_len] at this; omega
  have hly : (pl (li b)).length ≤ 1099511627776 := by have := pl_le (li b); rw [li_len] at this; omega
  revert c1 c2 hlx hly
  generalize pl (li a) = x
  generalize pl (li b) = y
  intro c1 c2 hlx hly
  go_enter Try.func42, Try.ntmps42
  go_wp2_with fail
  refine (c1.out _).mono ?_
  rintro e w1 ⟨v1, rfl, o1, b1⟩
  obtain ⟨A1, n1, rfl, p1⟩ := pls_gen o1
  have P1 := Lib.hid p1
  have B1 := Lib.hid b1
  clear o1 p1 b1
  go_wp2_with fail
  refine (c2.out _).mono ?_
  rintro e w2 ⟨v2, rfl, o2, b2⟩
  obtain ⟨A2, n2, rfl, p2⟩ := pls_gen o2
  have P2 := Lib.hid p2
  have P1' : Hid (x ≠ [] → ∃ g, A1 = some ⟨g, 0, none⟩ ∧ Pls (.slice A1 x.length n1) x g n1 w2) := fun h => by
    obtain ⟨g, e, hp⟩ := P1.out h
    exact ⟨g, e, hp.keep b2⟩
  have B2 := Lib.hid (B1.out.trans (b2.mono B1.out.size))
  clear o2 p2 b2 P1 B1 c1 c2
  go_wp2_with fail
  go_loopw [7] (fun i wr => ∃ k m : Nat, k ≤ x.length ∧ k ≤ y.length ∧ i = .int .i64 (k : Int) ∧ wr = w2.drewN m ∧ Hid (lxl (x.drop k) (y.drop k) = lxl x y)) (fun i _ => x.length - (intOf i).toNat)
  case atStart => exact ⟨0, 0, by omega, by omega, rfl, rfl, rfl⟩
  case round =>
    obtain ⟨k, m, hkx, hky, rfl, rfl, hj⟩ := hrel
    by_cases hlx2 : k < x.length
    · by_cases hly2 : k < y.length
      · obtain ⟨g1, rfl, q1⟩ := P1'.out (fun e => by rw [e] at hlx2; simp at hlx2)
        obtain ⟨g2, rfl, q2⟩ := P2.out (fun e => by rw [e] at hly2; simp at hly2)
        have x1 := q1.at_ k hlx2
        have x2 := q2.at_ k hly2
        have hkx' : (k : Int) < (x.length : Int) := by omega
        have hky' : (k : Int) < (y.length : Int) := by omega
        have hat := Lib.hid (lxl_at hlx2 hly2)
        have h0 : (0 : Int) ≤ (k : Int) := by omega
        clear q1 q2
        revert x1 x2 hat
        generalize x[k] = X
        generalize y[k] = Y
        intro x1 x2 hat
        by_cases e : X = Y
        · have t1 : (((X : Nat) : Int) != ((Y : Nat) : Int)) = false := by rw [e]; simp
          have hj2 : Hid (lxl (x.drop (k + 1)) (y.drop (k + 1)) = lxl x y) := by show _ = _; rw [← hj.out, hat.out, if_pos e]
          clear hat hj e
          go_wp2_with fail
          go_quiet (fail)
          go_wp2_with fail
          go_roundw
          case rel => exact ⟨k + 1, _, by omega, by omega, by go_num, rfl, hj2⟩
          case measure => simp [intOf]; omega
        · have t1 : (((X : Nat) : Int) != ((Y : Nat) : Int)) = true := by simp; omega
          have hj2 : Hid (decide ((X : Nat) < Y) = lxl x y) := by show _ = _; rw [← hj.out, hat.out, if_neg e]
          clear hat hj
          go_wp2_with fail
          go_quiet (fail)
          go_wp2_with fail
          go_quiet (fail)
          go_wp2_with fail
          go_ret
          exact ⟨by rw [← hj2.out]; rfl, below_drewN (below_drewN (below_drewN B2.out _) _) _⟩
      · have hr := Lib.hid (lxl_over hkx hky (fun h => hly2 h.2))
        have e : Hid (decide (x.length < y.length) = lxl x y) := by show _ = _; rw [← hj.out, hr.out]
        clear hr hj
        go_wp2_with fail
        go_ret
        exact ⟨by rw [← e.out]; rfl, below_drewN B2.out _⟩
    · have hr := Lib.hid (lxl_over hkx hky (fun h => hlx2 h.1))
      have e : Hid (decide (x.length < y.length) = lxl x y) := by show _ = _; rw [← hj.out, hr.out]
      clear hr hj
      go_wp2_with fail
      go_ret
      exact ⟨by rw [← e.out]; rfl, below_drewN B2.out _⟩

end Go.Proofs.Ytphbkbjgjicncaa.nm
