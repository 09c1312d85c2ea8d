/-
  Which file may be: what Valid of the program returns, for every file.
-/
import Derived.Test.YtphbkbjgjicncaaSmall
namespace Go.Proofs.Ytphbkbjgjicncaa
open Go Go.RowKit

/-- May hold k of a row stand where it does? -/
def okAt (L : List ByteArray) (k : Nat) : Bool := vdB (L.getD k em) && (k == 0 || lsB (L.getD (k - 1) em) (L.getD k em))
def togB (L : List ByteArray) : Bool := decide (L.length ≤ 4) && (List.range L.length).all (okAt L)
theorem less_b (a b : ByteArray) (ha : a.size ≤ 1099511627776) (hb : b.size ≤ 1099511627776) (w : World) : Calls Try.prog 63 #[.string a, .string b] w fun e w' => e = .returned (.bool (lsB a b)) ∧ Below w.heap.size w w' := nm.less_any a b ha hb w
theorem at_getD (L : List ByteArray) (k : Nat) (h : k < L.length) : L[k] = L.getD k em := by rw [List.getD_eq_getElem?_getD, List.getElem?_eq_getElem h]; rfl

set_option maxHeartbeats 2000000 in
theorem together_any (a : Option Addr) (c : Nat) (L : List ByteArray) (w : World) (h : StrAt w.heap.size w a L) (hL : L.length ≤ maxLen) (hs : ∀ y ∈ L, y.size ≤ 1099511627776) :
    Calls Try.prog 43 #[.slice a L.length c] w fun e w' => e = .returned (.bool (togB L)) ∧ Below w.heap.size w w' := by
  have hF : Hid (togB L = (decide (L.length ≤ 4) && (List.range L.length).all (okAt L))) := Lib.hid rfl
  generalize togB L = R at hF ⊢
  by_cases h4 : 4 < L.length
  · have t1 : decide ((4 : Int) < (L.length : Int)) = true := by simp; omega
    have t2 : (4 : Int) < (L.length : Int) := by omega
    have hR : Hid (R = false) := Lib.hid (by rw [hF.out, decide_eq_false (by omega)]; rfl)
    clear h hs hF h4
    generalize L.length = n at *
    go_enter Try.func43, Try.ntmps43
    go_wp2_with fail
    go_ret
    exact ⟨by rw [hR.out]; rfl, Below.refl _ _⟩
  have t1 : decide ((4 : Int) < (L.length : Int)) = false := by simp; omega
  have t2 : ¬ (4 : Int) < (L.length : Int) := by omega
  have hR : Hid (R = (List.range L.length).all (okAt L)) := Lib.hid (by rw [hF.out, decide_eq_true (by omega)]; rfl)
  have hA := Lib.hid h
  have hs' := Lib.hid hs
  have hL4 : L.length ≤ 4 := by omega
  clear h hs hF h4 hL
  go_enter Try.func43, Try.ntmps43
  go_wp2_with fail
  go_loopw [10] (fun i wr => ∃ k : Nat, k ≤ L.length ∧ i = .int .i64 (k : Int) ∧ Hid (Below w.heap.size w wr) ∧ Hid (∀ j, j < k → okAt L j = true)) (fun i _ => L.length - (intOf i).toNat)
  case atStart => exact ⟨0, Nat.zero_le _, rfl, Lib.hid (Below.refl _ _), Lib.hid (fun j hj => absurd hj (Nat.not_lt_zero _))⟩
  case round =>
    obtain ⟨k, hk, rfl, hW, hT⟩ := hrel
    rename_i wr
    by_cases hlt : k < L.length
    · have hlt' : (k : Int) < (L.length : Int) := by omega
      have hlt2 : decide (k < L.length) = true := by simpa using hlt
      rcases hA.out with h0 | ⟨b1, o1, rfl, l1, hc1⟩
      · rw [h0] at hlt; simp at hlt
      have q1 : wr.cell? ⟨b1, o1 + k, none⟩ = some (.string (L.getD k em)) := by rw [← at_getD L k hlt]; exact (hW.out.cell (p := ⟨b1, o1 + k, none⟩) l1).trans (hc1 k hlt)
      have hno : Hid (okAt L k = false → R = false) := Lib.hid (fun e => by
        rw [hR.out]
        exact List.all_eq_false.2 ⟨k, List.mem_range.2 hlt, by rw [e]; decide⟩)
      have hyes : Hid (okAt L k = true → ∀ j, j < k + 1 → okAt L j = true) := Lib.hid (fun e j hj => by
        rcases Nat.lt_or_ge j k with q | q
        · exact hT.out j q
        · obtain rfl : j = k := by omega
          exact e)
      have hok : Hid (okAt L k = (vdB (L.getD k em) && (k == 0 || lsB (L.getD (k - 1) em) (L.getD k em)))) := Lib.hid rfl
      have sy := Lib.hid (hs'.out (L.getD k em) (by rw [← at_getD L k hlt]; exact List.getElem_mem hlt))
      have hC := Lib.hid hc1
      clear hc1
      generalize hok1 : okAt L k = ok at *
      clear hok1
      cases hv : vdB (L.getD k em) with
      | false =>
        rw [hv] at hok
        have hRf := Lib.hid (hno.out (by rw [hok.out]; rfl))
        have cv := Lib.hid (fun v => name_any (L.getD k em) sy.out v)
        rw [hv] at cv
        generalize L.getD k em = y at *
        clear hv hno hyes
        go_wp2_with fail
        refine (cv.out _).mono ?_
        rintro e v ⟨rfl, hb⟩
        have hB := Lib.hid (hW.out.trans (hb.mono hW.out.size))
        clear hb
        go_wp2_with fail
        go_ret
        exact ⟨by rw [hRf.out]; rfl, hB.out⟩
      | true =>
        rw [hv] at hok
        have cv := Lib.hid (fun v => name_any (L.getD k em) sy.out v)
        rw [hv] at cv
        clear hv
        by_cases hz : k = 0
        · subst hz
          have hT2 := Lib.hid (hyes.out (by rw [hok.out]; rfl))
          rw [Nat.add_zero] at q1
          generalize L.getD 0 em = y at *
          clear hno hyes
          go_wp2_with fail
          refine (cv.out _).mono ?_
          rintro e v ⟨rfl, hb⟩
          have hB := Lib.hid (hW.out.trans (hb.mono hW.out.size))
          clear hb
          go_wp2_with fail
          go_roundw
          case rel => exact ⟨1, by omega, by go_num, hB, hT2⟩
          case measure => simp [intOf] <;> omega
        · obtain ⟨j, rfl⟩ : ∃ j, k = j + 1 := ⟨k - 1, by omega⟩
          have hj0 : ((j : Int) + 1 == 0) = false := by simp; omega
          have hj1 : decide ((0 : Int) < (j : Int) + 1) = true := decide_eq_true (by omega)
          have hj2 : (0 : Int) < (j : Int) + 1 := by omega
          have hj3 : IntKind.i64.wrap ((j : Int) + 1 - 1) = (j : Int) := by rw [show (j : Int) + 1 - 1 = (j : Int) by omega]; exact IntWalk.i64_in _ (by omega)
          have hj4 : IntKind.i64.wrap (((j + 1 : Nat) : Int) - 1) = (j : Int) := by rw [show ((j + 1 : Nat) : Int) - 1 = (j : Int) by omega]; exact IntWalk.i64_in _ (by omega)
          have hlj : j < L.length := by omega
          have hlj' : (j : Int) < (L.length : Int) := by omega
          have q0 : wr.cell? ⟨b1, o1 + j, none⟩ = some (.string (L.getD j em)) := by rw [← at_getD L j hlj]; exact (hW.out.cell (p := ⟨b1, o1 + j, none⟩) l1).trans (hC.out j hlj)
          have sx := Lib.hid (hs'.out (L.getD j em) (by rw [← at_getD L j hlj]; exact List.getElem_mem hlj))
          have hok2 : Hid (ok = lsB (L.getD j em) (L.getD (j + 1) em)) := Lib.hid (by rw [hok.out]; simp)
          have cl := Lib.hid (fun v => less_b _ _ sx.out sy.out v)
          have hBq : Hid (∀ v, Below wr.heap.size wr v → v.cell? ⟨b1, o1 + j, none⟩ = some (.string (L.getD j em))) := Lib.hid (fun v hb => (hb.cell (p := ⟨b1, o1 + j, none⟩) (Nat.lt_of_lt_of_le l1 hW.out.size)).trans q0)
          generalize lsB (L.getD j em) (L.getD (j + 1) em) = lb at *
          obtain rfl := hok2.out
          generalize L.getD (j + 1) em = y at *
          generalize L.getD j em = x at *
          clear hok hok2
          cases ok with
          | true =>
            have hT2 := Lib.hid (hyes.out rfl)
            clear hno hyes
            go_wp2_with fail
            refine (cv.out _).mono ?_
            rintro e v ⟨rfl, hb⟩
            have hB := Lib.hid (hW.out.trans (hb.mono hW.out.size))
            have q3 := hBq.out v hb
            clear hb
            go_wp2_with fail
            refine (cl.out _).mono ?_
            rintro e v2 ⟨rfl, hb2⟩
            have hB2 := Lib.hid (hB.out.trans (hb2.mono hB.out.size))
            clear hb2
            go_wp2_with fail
            go_roundw
            case rel => exact ⟨j + 1 + 1, by omega, by go_num, hB2, hT2⟩
            case measure => simp [intOf]; omega
          | false =>
            have hRf := Lib.hid (hno.out rfl)
            clear hno hyes
            go_wp2_with fail
            refine (cv.out _).mono ?_
            rintro e v ⟨rfl, hb⟩
            have hB := Lib.hid (hW.out.trans (hb.mono hW.out.size))
            have q3 := hBq.out v hb
            clear hb
            go_wp2_with fail
            refine (cl.out _).mono ?_
            rintro e v2 ⟨rfl, hb2⟩
            have hB2 := Lib.hid (hB.out.trans (hb2.mono hB.out.size))
            clear hb2
            go_wp2_with fail
            go_ret
            exact ⟨by rw [hRf.out]; rfl, hB2.out⟩
    · obtain rfl : k = L.length := by omega
      have hlt' : ¬ (L.length : Int) < (L.length : Int) := by omega
      have hlt2 : decide (L.length < L.length) = false := by simp
      have hRt : Hid (R = true) := Lib.hid (by
        rw [hR.out]
        exact List.all_eq_true.2 fun j hj => hT.out j (List.mem_range.1 hj))
      go_wp2_with fail
      go_ret
      exact ⟨by rw [hRt.out]; rfl, hW.out⟩

/-- May a file be? -/
def vlB (f : Fl) (L : List ByteArray) : Bool := gvB f.id && (vdB f.nm && (decide (f.da.size ≤ 600) && (decide (0 ≤ f.un) && (decide (f.un ≤ 1099511627776) && ((f.se || (decide (f.un = 0) && decide (L.length = 0))) && togB L)))))

set_option maxHeartbeats 2000000 in
theorem valid_any (f : Fl) (L : List ByteArray) (w : World) (h : StrAt w.heap.size w f.ha L) (hn : f.hn = L.length) (hL : L.length ≤ maxLen) (hs : ∀ y ∈ L, y.size ≤ 1099511627776) (hnm : f.nm.size ≤ 1099511627776) :
    Calls Try.prog 23 #[.agg (flr f)] w fun e w' => e = .returned (.bool (vlB f L)) ∧ Below w.heap.size w w' := by
  obtain ⟨i, nm, da, se, un, ha, n, hc⟩ := f
  dsimp only at h hn hnm
  subst hn
  have cv := Lib.hid (fun v => name_any nm hnm v)
  have cg := Lib.hid (fun v => given_any i v)
  have ct := Lib.hid (fun v (hb : Below w.heap.size w v) => together_any ha hc L v (h.on hb) hL hs)
  have hF : Hid (vlB ⟨i, nm, da, se, un, ha, L.length, hc⟩ L = (gvB i && (vdB nm && (decide (da.size ≤ 600) && (decide (0 ≤ un) && (decide (un ≤ 1099511627776) && ((se || (decide (un = 0) && decide (L.length = 0))) && togB L))))))) := Lib.hid rfl
  generalize vlB ⟨i, nm, da, se, un, ha, L.length, hc⟩ L = R at hF ⊢
  generalize gvB i = gb at *
  generalize vdB nm = vb at *
  generalize togB L = tb at *
  have K0 := Lib.hid ((KW.start w).new (.cells (flr ⟨i, nm, da, se, un, ha, L.length, hc⟩) 24))
  have p0 := K0.out.cell 0 rfl 0 (y := .int .i64 i) rfl
  have p1 := K0.out.cell 0 rfl 1 (y := .string nm) rfl
  clear h hL hs hnm
  go_enter Try.func23, Try.ntmps23
  go_wp2_with fail
  refine (cg.out _).mono ?_
  rintro e w' ⟨rfl, rfl⟩
  cases gb with
  | false =>
    have hR : Hid (R = false) := Lib.hid (by rw [hF.out]; rfl)
    go_wp2_with fail
    go_ret
    exact ⟨by rw [hR.out]; rfl, K0.out.bel⟩
  | true =>
    go_wp2_with fail
    refine (cv.out _).mono ?_
    rintro e v ⟨rfl, hb⟩
    have K1 := Lib.hid (K0.out.past hb)
    have k2 := K1.out.cell 0 rfl 2 (y := .string da) rfl
    have k3 := K1.out.cell 0 rfl 3 (y := .bool se) rfl
    have k4 := K1.out.cell 0 rfl 4 (y := .int .i64 un) rfl
    have k5 := K1.out.cell 0 rfl 5 (y := .slice ha L.length hc) rfl
    clear hb
    cases vb with
    | false =>
      have hR : Hid (R = false) := Lib.hid (by rw [hF.out]; rfl)
      go_wp2_with fail
      go_ret
      exact ⟨by rw [hR.out]; rfl, K1.out.bel⟩
    | true =>
      by_cases h1 : 600 < da.size
      · have t1 : decide ((600 : Int) < (da.size : Int)) = true := decide_eq_true (by omega)
        have t2 : (600 : Int) < (da.size : Int) := by omega
        have hR : Hid (R = false) := Lib.hid (by rw [hF.out, decide_eq_false (show ¬ da.size ≤ 600 by omega)]; rfl)
        clear hF
        go_wp2_with fail
        go_ret
        exact ⟨by rw [hR.out]; rfl, K1.out.bel⟩
      have d1 : decide (da.size ≤ 600) = true := decide_eq_true (by omega)
      rw [d1] at hF
      have t1 : decide ((600 : Int) < (da.size : Int)) = false := decide_eq_false (by omega)
      have t2 : ¬ (600 : Int) < (da.size : Int) := by omega
      clear d1
      by_cases h2 : un < 0
      · have t3 : decide (un < 0) = true := decide_eq_true h2
        have hR : Hid (R = false) := Lib.hid (by rw [hF.out, decide_eq_false (show ¬ 0 ≤ un by omega)]; rfl)
        clear hF
        go_wp2_with fail
        go_ret
        exact ⟨by rw [hR.out]; rfl, K1.out.bel⟩
      have d1 : decide (0 ≤ un) = true := decide_eq_true (by omega)
      rw [d1] at hF
      have t3 : decide (un < 0) = false := decide_eq_false h2
      clear d1
      by_cases h3 : 1099511627776 < un
      · have t4 : decide (1099511627776 < un) = true := decide_eq_true h3
        have hR : Hid (R = false) := Lib.hid (by rw [hF.out, decide_eq_false (show ¬ un ≤ 1099511627776 by omega)]; rfl)
        clear hF
        go_wp2_with fail
        go_ret
        exact ⟨by rw [hR.out]; rfl, K1.out.bel⟩
      have d1 : decide (un ≤ 1099511627776) = true := decide_eq_true (by omega)
      rw [d1] at hF
      have t4 : decide (1099511627776 < un) = false := decide_eq_false h3
      clear d1
      cases se with
      | true =>
        have hR : Hid (R = tb) := Lib.hid (by rw [hF.out]; simp)
        clear hF
        go_wp2_with fail
        refine (ct.out _ K1.out.bel).mono ?_
        rintro e v2 ⟨rfl, hb⟩
        have K2 := Lib.hid (K1.out.past hb)
        clear hb
        go_wp2_with fail
        go_ret
        exact ⟨by rw [hR.out]; rfl, K2.out.bel⟩
      | false =>
        by_cases h5 : un = 0
        · subst h5
          have u1 : ((0 : Int) == 0) = true := rfl
          have u2 : ((0 : Int) != 0) = false := rfl
          by_cases h6 : L.length = 0
          · have hR : Hid (R = tb) := Lib.hid (by rw [hF.out, h6]; simp)
            obtain rfl : L = [] := List.length_eq_zero_iff.1 h6
            clear hF h6
            go_wp2_with fail
            refine (ct.out _ K1.out.bel).mono ?_
            rintro e v2 ⟨rfl, hb⟩
            have K2 := Lib.hid (K1.out.past hb)
            clear hb
            go_wp2_with fail
            go_ret
            exact ⟨by rw [hR.out]; rfl, K2.out.bel⟩
          · have hR : Hid (R = false) := Lib.hid (by rw [hF.out]; simp; intro q; exact absurd (by rw [q]; rfl) h6)
            have t5 : decide ((0 : Int) < (L.length : Int)) = true := decide_eq_true (by omega)
            have t6 : (0 : Int) < (L.length : Int) := by omega
            have t7 : decide (0 < L.length) = true := decide_eq_true (by omega)
            clear hF h6
            go_wp2_with fail
            go_ret
            exact ⟨by rw [hR.out]; rfl, K1.out.bel⟩
        · have u1 : (un == 0) = false := by simpa using h5
          have u2 : (un != 0) = true := by simpa using h5
          have hR : Hid (R = false) := Lib.hid (by rw [hF.out, decide_eq_false h5]; rfl)
          clear hF h5
          go_wp2_with fail
          go_ret
          exact ⟨by rw [hR.out]; rfl, K1.out.bel⟩
end Go.Proofs.Ytphbkbjgjicncaa
