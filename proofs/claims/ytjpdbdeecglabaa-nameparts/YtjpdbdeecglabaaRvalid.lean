/-
  What Valid and Less of the reference return: for every argument of a bounded length.
-/
import Derived.Test.YtjpdbdeecglabaaRunes
namespace Go.Proofs.Ytjpdbdeecglabaa
open Go.RowKit

/-- A slice of places. -/
structure Pls (v : Value) (q : List Nat) (g cap : Nat) (w : World) : Prop where
  val : v = .slice (some ⟨g, 0, none⟩) q.length cap
  lt : g < w.heap.size
  at_ : ∀ j (h : j < q.length), w.cell? ⟨g, j, none⟩ = some (.int .i64 ((q[j] : Nat) : Int))
theorem Pls.keep {v : Value} {q : List Nat} {g cap : Nat} {w w' : World} (h : Pls v q g cap w) (hb : Below w.heap.size w w') : Pls v q g cap w' :=
  ⟨h.val, Nat.lt_of_lt_of_le h.lt hb.size, fun j hj => (hb.cell (p := ⟨g, j, none⟩) h.lt).trans (h.at_ j hj)⟩
theorem pls_of {w : World} {B : Nat} {v : Value} {q : List Nat} (h : w.ownsRow B 3 1 v q.length (ints q)) : (q = [] ∧ ∃ a c, v = .slice a 0 c) ∨ (q ≠ [] ∧ ∃ g cap, Pls v q g cap w) := by
  rcases h.2 with ⟨rfl, h0⟩ | ⟨g, cap, cur, rfl, hB, hg, hn, hc, hs, ht⟩
  · exact .inl ⟨List.length_eq_zero_iff.mp h0, none, 0, rfl⟩
  · by_cases hq : q = []
    · subst hq; exact .inl ⟨rfl, _, _, rfl⟩
    · refine .inr ⟨hq, g, cap, rfl, (Array.getElem?_eq_some_iff.1 hg).1, fun j hj => ?_⟩
      rw [Lib.cell_of_heap hg]
      show cur[j]? = _
      rw [Nat.mul_one] at ht
      have e : cur.toList[j]? = (ints q)[j]? := by
        rw [← ht, List.getElem?_take, if_pos hj]
      rw [← Array.getElem?_toList, e]
      simp [ints, hj]

theorem vld_nil (s : ByteArray) (h : pl (li s) = []) : vld (li s) = false := by unfold vld; rw [h]; rfl
theorem vld_no (l : List UInt8) (h : ¬ ((pl l).length ≤ 24 ∧ (∀ p ∈ pl l, okn p) ∧ (pl l).head? ≠ some 32 ∧ (pl l).getLast?.getD 32 ≠ 32)) : vld l = false := by
  cases e : vld l
  · rfl
  · exact absurd ((vld_iff l).1 e) h

set_option maxHeartbeats 2000000 in
set_option maxRecDepth 100000 in
theorem rvalid_any (s : ByteArray) (hs : s.size ≤ 1099511627776) (w : World) :
    Calls Try.prog 12 #[.string s] w fun e w' => e = .returned (.bool (vld (li s))) ∧ Below w.heap.size w w' := by
  have c1 := Lib.hid (runes_any s hs w)
  have hN : Hid ((pl (li s)) = [] → vld (li s) = false) := vld_nil s
  have hI := Lib.hid (vld_iff (li s))
  have hle : (pl (li s)).length ≤ 1099511627776 := by have := pl_le (li s); rw [li_len] at this; omega
  revert c1 hN hI hle
  generalize pl (li s) = q
  generalize vld (li s) = R
  intro c1 hN hI hle
  go_enter Try.func12, Try.ntmps12
  go_wp2_with fail
  refine c1.out.mono ?_
  rintro e w1 ⟨v, rfl, ho, hb⟩
  have hb' := Lib.hid hb
  rcases pls_of ho with ⟨rfl, a, c, rfl⟩ | ⟨hq, g, cap, hP⟩
  · have e := Lib.hid (hN.out rfl)
    clear hN hI c1 ho hb
    go_wp2_with fail
    go_ret
    exact ⟨by rw [e.out]; rfl, hb'.out⟩
  · obtain rfl := hP.val
    have hP' := Lib.hid hP
    have hq0 : 0 < q.length := List.length_pos_iff.mpr hq
    have t0 : decide ((q.length : Int) < 1) = false := by simp; omega
    have hno : Hid (¬ (q.length ≤ 24 ∧ (∀ p ∈ q, okn p) ∧ q.head? ≠ some 32 ∧ q.getLast?.getD 32 ≠ 32) → R = false) := fun h => by
      cases R
      · rfl
      · exact absurd (hI.out.1 rfl) h
    clear hN ho hb c1 hP
    by_cases h24 : 24 < q.length
    · have t1 : decide ((24 : Int) < (q.length : Int)) = true := by simp; omega
      have e := Lib.hid (hno.out (fun h => by omega))
      clear hI hno h24
      go_wp2_with fail
      go_ret
      exact ⟨by rw [e.out]; rfl, hb'.out⟩
    have t1 : decide ((24 : Int) < (q.length : Int)) = false := by simp; omega
    have x0 := hP'.out.at_ 0 hq0
    have hi0 : (0 : Int) < (q.length : Int) := by omega
    have hl1 : q.length - 1 < q.length := by omega
    have x1 := hP'.out.at_ (q.length - 1) hl1
    have hi1 : (0 : Int) ≤ (q.length : Int) - 1 ∧ (q.length : Int) - 1 < (q.length : Int) := by omega
    by_cases h0 : q[0] = 32
    · have t2 : (((q[0] : Nat) : Int) == 32) = true := by rw [h0]; rfl
      have e := Lib.hid (hno.out (fun h => h.2.2.1 (by rw [List.head?_eq_getElem?, List.getElem?_eq_getElem hq0, h0])))
      clear hI hno h24 h0 x1
      go_wp2_with fail
      go_ret
      exact ⟨by rw [e.out]; rfl, hb'.out⟩
    have t2 : (((q[0] : Nat) : Int) == 32) = false := by rw [beq_eq_false_iff_ne]; omega
    have hlast : q.getLast?.getD 32 = q[q.length - 1] := by
      rw [List.getLast?_eq_getElem?, List.getElem?_eq_getElem hl1]; rfl
    have hlast' := Lib.hid hlast
    clear hlast
    have hcast : ((q.length : Int) - 1).toNat = q.length - 1 := by omega
    by_cases h1 : q[q.length - 1] = 32
    · have t3 : (((q[q.length - 1] : Nat) : Int) == 32) = true := by rw [h1]; rfl
      have e := Lib.hid (hno.out (fun h => h.2.2.2 (by rw [hlast'.out, h1])))
      clear hI hno h24 h0 h1
      go_wp2_with fail
      go_ret
      exact ⟨by rw [e.out]; rfl, hb'.out⟩
    have t3 : (((q[q.length - 1] : Nat) : Int) == 32) = false := by rw [beq_eq_false_iff_ne]; omega
    have hyes : Hid ((∀ j (h : j < q.length), okn q[j]) → R = true) := fun h => hI.out.2 ⟨by omega, fun p hp => by
        obtain ⟨j, hj, rfl⟩ := List.mem_iff_getElem.1 hp
        exact h j hj, by
        rw [List.head?_eq_getElem?, List.getElem?_eq_getElem hq0]
        intro e; exact h0 (Option.some.inj e), by rw [hlast'.out]; exact h1⟩
    have hbad : Hid (∀ j (h : j < q.length), ¬ okn q[j] → R = false) := fun j h k => hno.out (fun x => k (x.2.1 _ (List.getElem_mem h)))
    clear hI hno h24 h0 h1 hlast'
    go_wp2_with fail
    clear x0 x1 t1 t2 t3 hcast hi1 t0
    go_loop [4] (fun i => ∃ k : Nat, k ≤ q.length ∧ i = .int .i64 (k : Int) ∧ Hid (∀ j (h : j < q.length), j < k → okn q[j])) (fun i => q.length - (intOf i).toNat)
    case atStart => exact ⟨0, by omega, rfl, fun j _ hj => by omega⟩
    case round =>
      obtain ⟨k, hk, rfl, hj⟩ := hrel
      by_cases hlt : k < q.length
      · have hlt' : (k : Int) < (q.length : Int) := by omega
        have x := hP'.out.at_ k hlt
        have hb1 : Hid (¬ okn q[k] → R = false) := hbad.out k hlt
        have hj2 : Hid (okn q[k] → ∀ j (h : j < q.length), j < k + 1 → okn q[j]) := fun ho j h h' => by
          by_cases e : j = k
          · subst e; exact ho
          · exact hj.out j h (by omega)
        clear hj
        revert x hb1 hj2
        generalize q[k] = r
        intro x hb1 hj2
        have bad : ∀ (P : Prop), (¬ okn r → P) → P ∨ okn r := fun P h => by
          by_cases k : okn r
          · exact .inr k
          · exact .inl (h k)
        clear bad
        by_cases r1 : r < 32
        · have e := Lib.hid (hb1.out (fun o => by unfold okn at o; omega))
          have u1 : decide ((r : Int) < 32) = true := by simp; omega
          clear r1 hb1 hj2
          go_wp2_with fail
          go_ret
          exact ⟨by rw [e.out]; rfl, hb'.out⟩
        have u1 : decide ((r : Int) < 32) = false := by simp; omega
        by_cases r2 : r = 47
        · have e := Lib.hid (hb1.out (fun o => by unfold okn at o; omega))
          have u2 : ((r : Int) == 47) = true := by rw [r2]; rfl
          clear r1 r2 hb1 hj2
          go_wp2_with fail
          go_ret
          exact ⟨by rw [e.out]; rfl, hb'.out⟩
        have u2 : ((r : Int) == 47) = false := by rw [beq_eq_false_iff_ne]; omega
        have u3 : decide ((127 : Int) ≤ (r : Int)) = false ∨ (decide ((127 : Int) ≤ (r : Int)) = true ∧ decide ((r : Int) ≤ 159) = false) ∨ (decide ((127 : Int) ≤ (r : Int)) = true ∧ decide ((r : Int) ≤ 159) = true) := by
          simp only [decide_eq_true_eq, decide_eq_false_iff_not]; omega
        by_cases r3 : 127 ≤ r ∧ r ≤ 159
        · have e := Lib.hid (hb1.out (fun o => by unfold okn at o; omega))
          have u4 : decide ((127 : Int) ≤ (r : Int)) = true := by simp; omega
          have u5 : decide ((r : Int) ≤ 159) = true := by simp; omega
          clear r1 r2 r3 hb1 hj2 u3
          go_wp2_with fail
          go_ret
          exact ⟨by rw [e.out]; rfl, hb'.out⟩
        by_cases r4 : r = 65533
        · have e := Lib.hid (hb1.out (fun o => by unfold okn at o; omega))
          have u6 : ((r : Int) == 65533) = true := by rw [r4]; rfl
          have u4 : decide ((127 : Int) ≤ (r : Int)) = true := by simp; omega
          have u5 : decide ((r : Int) ≤ 159) = false := by simp; omega
          clear r1 r2 r3 r4 hb1 hj2 u3
          go_wp2_with fail
          go_ret
          exact ⟨by rw [e.out]; rfl, hb'.out⟩
        have u6 : ((r : Int) == 65533) = false := by rw [beq_eq_false_iff_ne]; omega
        by_cases r5 : 1114112 ≤ r
        · have e := Lib.hid (hb1.out (fun o => by unfold okn at o; omega))
          have u7 : decide ((1114112 : Int) ≤ (r : Int)) = true := by simp; omega
          have u4 : decide ((127 : Int) ≤ (r : Int)) = true := by simp; omega
          have u5 : decide ((r : Int) ≤ 159) = false := by simp; omega
          clear r1 r2 r3 r4 r5 hb1 hj2 u3
          go_wp2_with fail
          go_ret
          exact ⟨by rw [e.out]; rfl, hb'.out⟩
        have u7 : decide ((1114112 : Int) ≤ (r : Int)) = false := by simp; omega
        have hj3 := Lib.hid (hj2.out (by unfold okn; omega))
        by_cases r6 : 127 ≤ r
        · have u4 : decide ((127 : Int) ≤ (r : Int)) = true := by simp; omega
          have u5 : decide ((r : Int) ≤ 159) = false := by simp; omega
          clear r1 r2 r3 r4 r5 r6 hb1 hj2 u3
          go_wp2_with fail
          go_round
          case rel => exact ⟨k + 1, by omega, by go_num, hj3.out⟩
          case measure => simp [intOf]; omega
        · have u4 : decide ((127 : Int) ≤ (r : Int)) = false := by simp; omega
          clear r1 r2 r3 r4 r5 r6 hb1 hj2 u3
          go_wp2_with fail
          go_round
          case rel => exact ⟨k + 1, by omega, by go_num, hj3.out⟩
          case measure => simp [intOf]; omega
      · obtain rfl : k = q.length := by omega
        have e := Lib.hid (hyes.out (fun j h => hj.out j h h))
        clear hj hyes hbad
        go_wp2_with fail
        go_ret
        exact ⟨by rw [e.out]; rfl, hb'.out⟩

theorem pls_gen {w : World} {B : Nat} {v : Value} {q : List Nat} (h : w.ownsRow B 3 1 v q.length (ints q)) : ∃ A c, v = .slice A q.length c ∧ (q ≠ [] → ∃ g, A = some ⟨g, 0, none⟩ ∧ Pls v q g c w) := by
  rcases pls_of h with ⟨rfl, a, c, rfl⟩ | ⟨hq, g, cap, hP⟩
  · exact ⟨a, c, rfl, fun h => absurd rfl h⟩
  · exact ⟨_, cap, hP.val, fun _ => ⟨g, rfl, hP⟩⟩

theorem lxl_at {x y : List Nat} {k : Nat} (hx : k < x.length) (hy : k < y.length) : lxl (x.drop k) (y.drop k) = if x[k] = y[k] then lxl (x.drop (k + 1)) (y.drop (k + 1)) else decide (x[k] < y[k]) := by
  rw [List.drop_eq_getElem_cons hx, List.drop_eq_getElem_cons hy]
  rfl
theorem lxl_over {x y : List Nat} {k : Nat} (hx : k ≤ x.length) (hy : k ≤ y.length) (h : ¬ (k < x.length ∧ k < y.length)) : lxl (x.drop k) (y.drop k) = decide (x.length < y.length) := by
  by_cases hx' : k = x.length
  · rw [List.drop_eq_nil_of_le (by omega : x.length ≤ k)]
    by_cases hy' : k = y.length
    · rw [List.drop_eq_nil_of_le (by omega : y.length ≤ k)]
      simp [lxl]; omega
    · rw [List.drop_eq_getElem_cons (by omega : k < y.length)]
      rw [lxl_first]; simp; omega
  · rw [List.drop_eq_nil_of_le (by omega : y.length ≤ k), lxl_nil]
    simp; omega

theorem below_drewN {B : Nat} {a w : World} (h : Below B a w) (n : Nat) : Below B a (w.drewN n) := ⟨h.os, h.tape, h.output, h.size, h.block⟩

set_option maxHeartbeats 1000000 in
set_option maxRecDepth 100000 in
theorem rless_any (a b : ByteArray) (ha : a.size ≤ 1099511627776) (hb : b.size ≤ 1099511627776) (w : World) :
    Calls Try.prog 13 #[.string a, .string b] w fun e w' => e = .returned (.bool (lxl (pl (li a)) (pl (li b)))) ∧ Below w.heap.size w w' := by
  have c1 := Lib.hid (fun v => runes_any a ha v)
  have c2 := Lib.hid (fun v => runes_any b hb v)
  have hlx : (pl (li a)).length ≤ 1099511627776 := by have := pl_le (li a); rw [li_len] at this; omega
  have hly : (pl (li b)).length ≤ 1099511627776 := by have := pl_le (li b); rw [li_len] at this; omega
  revert c1 c2 hlx hly
  generalize pl (li a) = x
  generalize pl (li b) = y
  intro c1 c2 hlx hly
  go_enter Try.func13, Try.ntmps13
  go_wp2_with fail
  refine (c1.out _).mono ?_
  rintro e w1 ⟨v1, rfl, o1, b1⟩
  obtain ⟨A1, n1, rfl, p1⟩ := pls_gen o1
  have P1 := Lib.hid p1
  have B1 := Lib.hid b1
  clear o1 p1 b1
  go_wp2_with fail
  refine (c2.out _).mono ?_
  rintro e w2 ⟨v2, rfl, o2, b2⟩
  obtain ⟨A2, n2, rfl, p2⟩ := pls_gen o2
  have P2 := Lib.hid p2
  have P1' : Hid (x ≠ [] → ∃ g, A1 = some ⟨g, 0, none⟩ ∧ Pls (.slice A1 x.length n1) x g n1 w2) := fun h => by
    obtain ⟨g, e, hp⟩ := P1.out h
    exact ⟨g, e, hp.keep b2⟩
  have B2 := Lib.hid (B1.out.trans (b2.mono B1.out.size))
  clear o2 p2 b2 P1 B1 c1 c2
  go_wp2_with fail
  go_loopw [7] (fun i wr => ∃ k m : Nat, k ≤ x.length ∧ k ≤ y.length ∧ i = .int .i64 (k : Int) ∧ wr = w2.drewN m ∧ Hid (lxl (x.drop k) (y.drop k) = lxl x y)) (fun i _ => x.length - (intOf i).toNat)
  case atStart => exact ⟨0, 0, by omega, by omega, rfl, rfl, rfl⟩
  case round =>
    obtain ⟨k, m, hkx, hky, rfl, rfl, hj⟩ := hrel
    by_cases hlx2 : k < x.length
    · by_cases hly2 : k < y.length
      · obtain ⟨g1, rfl, q1⟩ := P1'.out (fun e => by rw [e] at hlx2; simp at hlx2)
        obtain ⟨g2, rfl, q2⟩ := P2.out (fun e => by rw [e] at hly2; simp at hly2)
        have x1 := q1.at_ k hlx2
        have x2 := q2.at_ k hly2
        have hkx' : (k : Int) < (x.length : Int) := by omega
        have hky' : (k : Int) < (y.length : Int) := by omega
        have hat := Lib.hid (lxl_at hlx2 hly2)
        have h0 : (0 : Int) ≤ (k : Int) := by omega
        clear q1 q2
        revert x1 x2 hat
        generalize x[k] = X
        generalize y[k] = Y
        intro x1 x2 hat
        by_cases e : X = Y
        · have t1 : (((X : Nat) : Int) != ((Y : Nat) : Int)) = false := by rw [e]; simp
          have hj2 : Hid (lxl (x.drop (k + 1)) (y.drop (k + 1)) = lxl x y) := by show _ = _; rw [← hj.out, hat.out, if_pos e]
          clear hat hj e
          go_wp2_with fail
          go_quiet (fail)
          go_wp2_with fail
          go_roundw
          case rel => exact ⟨k + 1, _, by omega, by omega, by go_num, rfl, hj2⟩
          case measure => simp [intOf]; omega
        · have t1 : (((X : Nat) : Int) != ((Y : Nat) : Int)) = true := by simp; omega
          have hj2 : Hid (decide ((X : Nat) < Y) = lxl x y) := by show _ = _; rw [← hj.out, hat.out, if_neg e]
          clear hat hj
          go_wp2_with fail
          go_quiet (fail)
          go_wp2_with fail
          go_quiet (fail)
          go_wp2_with fail
          go_ret
          exact ⟨by rw [← hj2.out]; rfl, below_drewN (below_drewN (below_drewN B2.out _) _) _⟩
      · have hr := Lib.hid (lxl_over hkx hky (fun h => hly2 h.2))
        have e : Hid (decide (x.length < y.length) = lxl x y) := by show _ = _; rw [← hj.out, hr.out]
        clear hr hj
        go_wp2_with fail
        go_ret
        exact ⟨by rw [← e.out]; rfl, below_drewN B2.out _⟩
    · have hr := Lib.hid (lxl_over hkx hky (fun h => hlx2 h.1))
      have e : Hid (decide (x.length < y.length) = lxl x y) := by show _ = _; rw [← hj.out, hr.out]
      clear hr hj
      go_wp2_with fail
      go_ret
      exact ⟨by rw [← e.out]; rfl, below_drewN B2.out _⟩

end Go.Proofs.Ytjpdbdeecglabaa
