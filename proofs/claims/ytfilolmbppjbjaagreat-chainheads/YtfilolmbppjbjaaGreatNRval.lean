/-
  What Valid of the document's names returns.
-/
import Derived.Test.YtfilolmbppjbjaaGreatNRvalid
namespace Go.Proofs.YtfilolmbppjbjaaGreat.nm
open Go.RowKit
set_option maxHeartbeats 2000000 in
set_option maxRecDepth 100000 in
theorem rvalid_any (s : ByteArray) (hs : s.size ≤ 1099511627776) (w : World) :
    Calls Tryz.prog 63 #[.string s] w fun e w' => e = .returned (.bool (vld (li s))) ∧ Below w.heap.size w w' := by
  have c1 := Lib.hid (runes_any s hs w)
  have hN : Hid ((pl (li s)) = [] → vld (li s) = false) := vld_nil s
  have hI := Lib.hid (vld_iff (li s))
  have hle : (pl (li s)).length ≤ 1099511627776 := by have := pl_le (li s); rw [li_len] at this; omega
  revert c1 hN hI hle
  generalize pl (li s) = q
  generalize vld (li s) = R
  intro c1 hN hI hle
  go_enter Tryz.func63, Tryz.ntmps63
  go_wp2_with fail
  refine c1.out.mono ?_
  rintro e w1 ⟨v, rfl, ho, hb⟩
  have hb' := Lib.hid hb
  rcases pls_of ho with ⟨rfl, a, c, rfl⟩ | ⟨hq, g, cap, hP⟩
  · have e := Lib.hid (hN.out rfl)
    clear hN hI c1 ho hb
    go_wp2_with fail
    go_ret
    exact ⟨by rw [e.out]; rfl, hb'.out⟩
  · obtain rfl := hP.val
    have hP' := Lib.hid hP
    have hq0 : 0 < q.length := List.length_pos_iff.mpr hq
    have t0 : decide ((q.length : Int) < 1) = false := by simp; omega
    have hno : Hid (¬ (q.length ≤ 24 ∧ (∀ p ∈ q, okn p) ∧ q.head? ≠ some 32 ∧ q.getLast?.getD 32 ≠ 32) → R = false) := fun h => by
      cases R
      · rfl
      · exact absurd (hI.out.1 rfl) h
    clear hN ho hb c1 hP
    by_cases h24 : 24 < q.length
    · have t1 : decide ((24 : Int) < (q.length : Int)) = true := by simp; omega
      have e := Lib.hid (hno.out (fun h => by omega))
      clear hI hno h24
      go_wp2_with fail
      go_ret
      exact ⟨by rw [e.out]; rfl, hb'.out⟩
    have t1 : decide ((24 : Int) < (q.length : Int)) = false := by simp; omega
    have x0 := hP'.out.at_ 0 hq0
    have hi0 : (0 : Int) < (q.length : Int) := by omega
    have hl1 : q.length - 1 < q.length := by omega
    have x1 := hP'.out.at_ (q.length - 1) hl1
    have hi1 : (0 : Int) ≤ (q.length : Int) - 1 ∧ (q.length : Int) - 1 < (q.length : Int) := by omega
    by_cases h0 : q[0] = 32
    · have t2 : (((q[0] : Nat) : Int) == 32) = true := by rw [h0]; rfl
      have e := Lib.hid (hno.out (fun h => h.2.2.1 (by rw [List.head?_eq_getElem?, List.getElem?_eq_getElem hq0, h0])))
      clear hI hno h24 h0 x1
      go_wp2_with fail
      go_ret
      exact ⟨by rw [e.out]; rfl, hb'.out⟩
    have t2 : (((q[0] : Nat) : Int) == 32) = false := by rw [beq_eq_false_iff_ne]; omega
    have hlast : q.getLast?.getD 32 = q[q.length - 1] := by
      rw [List.getLast?_eq_getElem?, List.getElem?_eq_getElem hl1]; rfl
    have hlast' := Lib.hid hlast
    clear hlast
    have hcast : ((q.length : Int) - 1).toNat = q.length - 1 := by omega
    by_cases h1 : q[q.length - 1] = 32
    · have t3 : (((q[q.length - 1] : Nat) : Int) == 32) = true := by rw [h1]; rfl
      have e := Lib.hid (hno.out (fun h => h.2.2.2 (by rw [hlast'.out, h1])))
      clear hI hno h24 h0 h1
      go_wp2_with fail
      go_ret
      exact ⟨by rw [e.out]; rfl, hb'.out⟩
    have t3 : (((q[q.length - 1] : Nat) : Int) == 32) = false := by rw [beq_eq_false_iff_ne]; omega
    have hyes : Hid ((∀ j (h : j < q.length), okn q[j]) → R = true) := fun h => hI.out.2 ⟨by omega, fun p hp => by
        obtain ⟨j, hj, rfl⟩ := List.mem_iff_getElem.1 hp
        exact h j hj, by
        rw [List.head?_eq_getElem?, List.getElem?_eq_getElem hq0]
        intro e; exact h0 (Option.some.inj e), by rw [hlast'.out]; exact h1⟩
    have hbad : Hid (∀ j (h : j < q.length), ¬ okn q[j] → R = false) := fun j h k => hno.out (fun x => k (x.2.1 _ (List.getElem_mem h)))
    clear hI hno h24 h0 h1 hlast'
    go_wp2_with fail
    clear x0 x1 t1 t2 t3 hcast hi1 t0
    go_loop [4] (fun i => ∃ k : Nat, k ≤ q.length ∧ i = .int .i64 (k : Int) ∧ Hid (∀ j (h : j < q.length), j < k → okn q[j])) (fun i => q.length - (intOf i).toNat)
    case atStart => exact ⟨0, by omega, rfl, fun j _ hj => by omega⟩
    case round =>
      obtain ⟨k, hk, rfl, hj⟩ := hrel
      by_cases hlt : k < q.length
      · have hlt' : (k : Int) < (q.length : Int) := by omega
        have x := hP'.out.at_ k hlt
        have hb1 : Hid (¬ okn q[k] → R = false) := hbad.out k hlt
        have hj2 : Hid (okn q[k] → ∀ j (h : j < q.length), j < k + 1 → okn q[j]) := fun ho j h h' => by
          by_cases e : j = k
          · subst e; exact ho
          · exact hj.out j h (by omega)
        clear hj
        revert x hb1 hj2
        generalize q[k] = r
        intro x hb1 hj2
        have bad : ∀ (P : Prop), (¬ okn r → P) → P ∨ okn r := fun P h => by
          by_cases k : okn r
          · exact .inr k
          · exact .inl (h k)
        clear bad
        by_cases r1 : r < 32
        · have e := Lib.hid (hb1.out (fun o => by unfold okn at o; omega))
          have u1 : decide ((r : Int) < 32) = true := by simp; omega
          clear r1 hb1 hj2
          go_wp2_with fail
          go_ret
          exact ⟨by rw [e.out]; rfl, hb'.out⟩
        have u1 : decide ((r : Int) < 32) = false := by simp; omega
        by_cases r2 : r = 47
        · have e := Lib.hid (hb1.out (fun o => by unfold okn at o; omega))
          have u2 : ((r : Int) == 47) = true := by rw [r2]; rfl
          clear r1 r2 hb1 hj2
          go_wp2_with fail
          go_ret
          exact ⟨by rw [e.out]; rfl, hb'.out⟩
        have u2 : ((r : Int) == 47) = false := by rw [beq_eq_false_iff_ne]; omega
        have u3 : decide ((127 : Int) ≤ (r : Int)) = false ∨ (decide ((127 : Int) ≤ (r : Int)) = true ∧ decide ((r : Int) ≤ 159) = false) ∨ (decide ((127 : Int) ≤ (r : Int)) = true ∧ decide ((r : Int) ≤ 159) = true) := by
          simp only [decide_eq_true_eq, decide_eq_false_iff_not]; omega
        by_cases r3 : 127 ≤ r ∧ r ≤ 159
        · have e := Lib.hid (hb1.out (fun o => by unfold okn at o; omega))
          have u4 : decide ((127 : Int) ≤ (r : Int)) = true := by simp; omega
          have u5 : decide ((r : Int) ≤ 159) = true := by simp; omega
          clear r1 r2 r3 hb1 hj2 u3
          go_wp2_with fail
          go_ret
          exact ⟨by rw [e.out]; rfl, hb'.out⟩
        by_cases r4 : r = 65533
        · have e := Lib.hid (hb1.out (fun o => by unfold okn at o; omega))
          have u6 : ((r : Int) == 65533) = true := by rw [r4]; rfl
          have u4 : decide ((127 : Int) ≤ (r : Int)) = true := by simp; omega
          have u5 : decide ((r : Int) ≤ 159) = false := by simp; omega
          clear r1 r2 r3 r4 hb1 hj2 u3
          go_wp2_with fail
          go_ret
          exact ⟨by rw [e.out]; rfl, hb'.out⟩
        have u6 : ((r : Int) == 65533) = false := by rw [beq_eq_false_iff_ne]; omega
        by_cases r5 : 1114112 ≤ r
        · have e := Lib.hid (hb1.out (fun o => by unfold okn at o; omega))
          have u7 : decide ((1114112 : Int) ≤ (r : Int)) = true := by simp; omega
          have u4 : decide ((127 : Int) ≤ (r : Int)) = true := by simp; omega
          have u5 : decide ((r : Int) ≤ 159) = false := by simp; omega
          clear r1 r2 r3 r4 r5 hb1 hj2 u3
          go_wp2_with fail
          go_ret
          exact ⟨by rw [e.out]; rfl, hb'.out⟩
        have u7 : decide ((1114112 : Int) ≤ (r : Int)) = false := by simp; omega
        have hj3 := Lib.hid (hj2.out (by unfold okn; omega))
        by_cases r6 : 127 ≤ r
        · have u4 : decide ((127 : Int) ≤ (r : Int)) = true := by simp; omega
          have u5 : decide ((r : Int) ≤ 159) = false := by simp; omega
          clear r1 r2 r3 r4 r5 r6 hb1 hj2 u3
          go_wp2_with fail
          go_round
          case rel => exact ⟨k + 1, by omega, by go_num, hj3.out⟩
          case measure => simp [intOf]; omega
        · have u4 : decide ((127 : Int) ≤ (r : Int)) = false := by simp; omega
          clear r1 r2 r3 r4 r5 r6 hb1 hj2 u3
          go_wp2_with fail
          go_round
          case rel => exact ⟨k + 1, by omega, by go_num, hj3.out⟩
          case measure => simp [intOf]; omega
      · obtain rfl : k = q.length := by omega
        have e := Lib.hid (hyes.out (fun j h => hj.out j h h))
        clear hj hyes hbad
        go_wp2_with fail
        go_ret
        exact ⟨by rw [e.out]; rfl, hb'.out⟩

end Go.Proofs.YtfilolmbppjbjaaGreat.nm
