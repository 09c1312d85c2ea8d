/-
  Rows of texts, and files, that are compared: what Equal, Same and Meta of the program, and Texts and Same of the document's, return.
-/
import Derived.Test.YtphbkbjgjicncaaDoes
import Derived.Test.YtphbkbjgjicncaaHoldFacts
namespace Go.Proofs.Ytphbkbjgjicncaa
open Go Go.RowKit

theorem below_drew (w : World) (n : Nat) : Below w.heap.size w (w.drewN n) := ⟨(Below.refl w.heap.size w).os, (Below.refl w.heap.size w).tape, (Below.refl w.heap.size w).output, (Below.refl w.heap.size w).size, (Below.refl w.heap.size w).block⟩
theorem take_both {L M : List ByteArray} {k : Nat} (h : L.take k = M.take k) (hl : k < L.length) (hm : k < M.length) (e : L[k] = M[k]) : L.take (k + 1) = M.take (k + 1) := by
  rw [List.take_succ_eq_append_getElem hl, List.take_succ_eq_append_getElem hm, h, e]

set_option maxHeartbeats 1000000 in
theorem texts_any (a b : Option Addr) (c d : Nat) (L M : List ByteArray) (w : World) (ha : StrAt w.heap.size w a L) (hb : StrAt w.heap.size w b M) (hL : L.length ≤ maxLen) :
    Calls Try.prog 38 #[.slice a L.length c, .slice b M.length d] w fun e w' => e = .returned (.bool (decide (L = M))) ∧ Below w.heap.size w w' := by
  by_cases hlen : L.length = M.length
  · have hA := Lib.hid ha
    have hB := Lib.hid hb
    have hm := Lib.hid hlen
    rw [← hlen]
    have hL' : L.length ≤ 9223372036854775807 := by unfold maxLen at hL; omega
    generalize hr : decide (L = M) = r
    have hr' := Lib.hid hr
    clear ha hb hlen hr hL
    go_enter Try.func38, Try.ntmps38
    go_wp2_with fail
    go_loopw [5] (fun i wr => ∃ k : Nat, k ≤ L.length ∧ i = .int .i64 (k : Int) ∧ Hid (Below w.heap.size w wr) ∧ Hid (L.take k = M.take k)) (fun i _ => L.length - (intOf i).toNat)
    case atStart => exact ⟨0, Nat.zero_le _, rfl, Lib.hid (Below.refl _ _), Lib.hid rfl⟩
    case round =>
      obtain ⟨k, hk, rfl, hW, hT⟩ := hrel
      rename_i wr
      by_cases hlt : k < L.length
      · have hlt' : (k : Int) < (L.length : Int) := by omega
        have hlt2 : decide (k < L.length) = true := by simpa using hlt
        have hltm := Lib.hid (hm.out ▸ hlt : k < M.length)
        rcases hA.out with h0 | ⟨b1, o1, rfl, l1, hc1⟩
        · rw [h0] at hlt; simp at hlt
        rcases hB.out with h0 | ⟨b2, o2, rfl, l2, hc2⟩
        · have := hltm.out; rw [h0] at this; simp at this
        have q1 : wr.cell? ⟨b1, o1 + k, none⟩ = some (.string L[k]) := (hW.out.cell (p := ⟨b1, o1 + k, none⟩) l1).trans (hc1 k hlt)
        have q2 : wr.cell? ⟨b2, o2 + k, none⟩ = some (.string (M[k]'hltm.out)) := (hW.out.cell (p := ⟨b2, o2 + k, none⟩) l2).trans (hc2 k hltm.out)
        clear hc1 hc2
        by_cases hy : L[k] = M[k]'hltm.out
        · have hT2 := Lib.hid (take_both hT.out hlt hltm.out hy)
          rw [← hy] at q2
          clear hy
          generalize L[k] = y at *
          go_wp2_with fail
          go_quiet ((fail))
          rename_i nq
          have hW2 := Lib.hid (hW.out.trans ((below_drew wr nq).mono hW.out.size))
          go_wp2_with fail
          go_roundw
          case rel => exact ⟨k + 1, by omega, by go_num, hW2, hT2⟩
          case measure => simp [intOf]; omega
        · have hF : Hid (r = false) := Lib.hid (by
            rw [← hr'.out]
            exact decide_eq_false fun e => hy (by subst e; rfl))
          have hb : (L[k].toList == (M[k]'hltm.out).toList) = false := by rw [ba_beq]; exact decide_eq_false hy
          clear hy hT
          generalize L[k] = y at *
          generalize M[k]'hltm.out = z at *
          go_wp2_with fail
          go_quiet ((fail))
          rename_i nq
          have hW2 := Lib.hid (hW.out.trans ((below_drew wr nq).mono hW.out.size))
          go_wp2_with fail
          go_ret
          exact ⟨by rw [hF.out]; rfl, hW2.out⟩
      · obtain rfl : k = L.length := by omega
        have hlt' : ¬ (L.length : Int) < (L.length : Int) := by omega
        have hlt2 : decide (L.length < L.length) = false := by simp
        have hF : Hid (r = true) := Lib.hid (by
          rw [← hr'.out]
          have := hT.out
          rw [List.take_length, hm.out, List.take_length] at this
          exact decide_eq_true this)
        go_wp2_with fail
        go_ret
        exact ⟨by rw [hF.out]; rfl, hW.out⟩
  · have hF : decide (L = M) = false := decide_eq_false fun e => hlen (by rw [e])
    rw [hF]
    have t1 : ((L.length : Int) == (M.length : Int)) = false := by simp; omega
    have t2 : ((L.length : Int) != (M.length : Int)) = true := by simp; omega
    have t3 : (L.length == M.length) = false := by simp; omega
    clear ha hb hF
    generalize L.length = n at *
    generalize M.length = m at *
    go_enter Try.func38, Try.ntmps38
    go_wp2_with fail
    go_ret
    exact ⟨rfl, Below.refl _ _⟩

set_option maxHeartbeats 1000000 in
theorem equal_any (a b : Option Addr) (c d : Nat) (L M : List ByteArray) (w : World) (ha : StrAt w.heap.size w a L) (hb : StrAt w.heap.size w b M) (hL : L.length ≤ maxLen) :
    Calls Try.prog 44 #[.slice a L.length c, .slice b M.length d] w fun e w' => e = .returned (.bool (decide (L = M))) ∧ Below w.heap.size w w' := by
  by_cases hlen : L.length = M.length
  · have hA := Lib.hid ha
    have hB := Lib.hid hb
    have hm := Lib.hid hlen
    rw [← hlen]
    have hL' : L.length ≤ 9223372036854775807 := by unfold maxLen at hL; omega
    generalize hr : decide (L = M) = r
    have hr' := Lib.hid hr
    clear ha hb hlen hr hL
    go_enter Try.func44, Try.ntmps44
    go_wp2_with fail
    go_loopw [13] (fun i wr => ∃ k : Nat, k ≤ L.length ∧ i = .int .i64 (k : Int) ∧ Hid (Below w.heap.size w wr) ∧ Hid (L.take k = M.take k)) (fun i _ => L.length - (intOf i).toNat)
    case atStart => exact ⟨0, Nat.zero_le _, rfl, Lib.hid (Below.refl _ _), Lib.hid rfl⟩
    case round =>
      obtain ⟨k, hk, rfl, hW, hT⟩ := hrel
      rename_i wr
      by_cases hlt : k < L.length
      · have hlt' : (k : Int) < (L.length : Int) := by omega
        have hlt2 : decide (k < L.length) = true := by simpa using hlt
        have hltm := Lib.hid (hm.out ▸ hlt : k < M.length)
        rcases hA.out with h0 | ⟨b1, o1, rfl, l1, hc1⟩
        · rw [h0] at hlt; simp at hlt
        rcases hB.out with h0 | ⟨b2, o2, rfl, l2, hc2⟩
        · have := hltm.out; rw [h0] at this; simp at this
        have q1 : wr.cell? ⟨b1, o1 + k, none⟩ = some (.string L[k]) := (hW.out.cell (p := ⟨b1, o1 + k, none⟩) l1).trans (hc1 k hlt)
        have q2 : wr.cell? ⟨b2, o2 + k, none⟩ = some (.string (M[k]'hltm.out)) := (hW.out.cell (p := ⟨b2, o2 + k, none⟩) l2).trans (hc2 k hltm.out)
        clear hc1 hc2
        by_cases hy : L[k] = M[k]'hltm.out
        · have hT2 := Lib.hid (take_both hT.out hlt hltm.out hy)
          rw [← hy] at q2
          clear hy
          generalize L[k] = y at *
          go_wp2_with fail
          go_quiet ((fail))
          rename_i nq
          have hW2 := Lib.hid (hW.out.trans ((below_drew wr nq).mono hW.out.size))
          go_wp2_with fail
          go_roundw
          case rel => exact ⟨k + 1, by omega, by go_num, hW2, hT2⟩
          case measure => simp [intOf]; omega
        · have hF : Hid (r = false) := Lib.hid (by
            rw [← hr'.out]
            exact decide_eq_false fun e => hy (by subst e; rfl))
          have hb : (L[k].toList == (M[k]'hltm.out).toList) = false := by rw [ba_beq]; exact decide_eq_false hy
          clear hy hT
          generalize L[k] = y at *
          generalize M[k]'hltm.out = z at *
          go_wp2_with fail
          go_quiet ((fail))
          rename_i nq
          have hW2 := Lib.hid (hW.out.trans ((below_drew wr nq).mono hW.out.size))
          go_wp2_with fail
          go_ret
          exact ⟨by rw [hF.out]; rfl, hW2.out⟩
      · obtain rfl : k = L.length := by omega
        have hlt' : ¬ (L.length : Int) < (L.length : Int) := by omega
        have hlt2 : decide (L.length < L.length) = false := by simp
        have hF : Hid (r = true) := Lib.hid (by
          rw [← hr'.out]
          have := hT.out
          rw [List.take_length, hm.out, List.take_length] at this
          exact decide_eq_true this)
        go_wp2_with fail
        go_ret
        exact ⟨by rw [hF.out]; rfl, hW.out⟩
  · have hF : decide (L = M) = false := decide_eq_false fun e => hlen (by rw [e])
    rw [hF]
    have t1 : ((L.length : Int) == (M.length : Int)) = false := by simp; omega
    have t2 : ((L.length : Int) != (M.length : Int)) = true := by simp; omega
    have t3 : (L.length == M.length) = false := by simp; omega
    clear ha hb hF
    generalize L.length = n at *
    generalize M.length = m at *
    go_enter Try.func44, Try.ntmps44
    go_wp2_with fail
    go_ret
    exact ⟨rfl, Below.refl _ _⟩

/-- Are two files the same? -/
def sameB (f g : Fl) (L M : List ByteArray) : Bool := decide (f.id = g.id ∧ f.nm = g.nm ∧ f.da = g.da ∧ f.se = g.se ∧ f.un = g.un ∧ L = M)
theorem sameB_refl (f g : Fl) (L : List ByteArray) (h0 : f.id = g.id) (h1 : f.nm = g.nm) (h2 : f.da = g.da) (h3 : f.se = g.se) (h4 : f.un = g.un) : sameB f g L L = true := decide_eq_true ⟨h0, h1, h2, h3, h4, rfl⟩

set_option maxHeartbeats 2000000 in
theorem rsame_any (f g : Fl) (L M : List ByteArray) (w : World) (ha : StrAt w.heap.size w f.ha L) (hb : StrAt w.heap.size w g.ha M) (hL : L.length ≤ maxLen) (h5 : f.hn = L.length) (h6 : g.hn = M.length) :
    Calls Try.prog 16 #[.agg (flr f), .agg (flr g)] w fun e w' => e = .returned (.bool (sameB f g L M)) ∧ Below w.heap.size w w' := by
  obtain ⟨i, nm, da, se, un, a, n, c⟩ := f
  obtain ⟨i', nm', da', se', un', a', n', c'⟩ := g
  dsimp only at h5 h6 ha hb
  subst h5 h6
  have K := Lib.hid (KW.two w (.cells (flr ⟨i, nm, da, se, un, a, L.length, c⟩) 24) (.cells (flr ⟨i', nm', da', se', un', a', M.length, c'⟩) 24))
  have ct := Lib.hid (fun v (hv : Below w.heap.size w v) => texts_any a a' c c' L M v (ha.on hv) (hb.on hv) hL)
  have hS : Hid (sameB ⟨i, nm, da, se, un, a, L.length, c⟩ ⟨i', nm', da', se', un', a', M.length, c'⟩ L M = decide (i = i' ∧ nm = nm' ∧ da = da' ∧ se = se' ∧ un = un' ∧ L = M)) := Lib.hid rfl
  generalize sameB ⟨i, nm, da, se, un, a, L.length, c⟩ ⟨i', nm', da', se', un', a', M.length, c'⟩ L M = R at hS ⊢
  have q0 := K.out.cell 1 rfl 0 (y := .int .i64 i) rfl
  have q1 := K.out.cell 1 rfl 1 (y := .string nm) rfl
  have q2 := K.out.cell 1 rfl 2 (y := .string da) rfl
  have q3 := K.out.cell 1 rfl 3 (y := .bool se) rfl
  have q4 := K.out.cell 1 rfl 4 (y := .int .i64 un) rfl
  have q5 := K.out.cell 1 rfl 5 (y := .slice a L.length c) rfl
  have r0 := K.out.cell 0 rfl 0 (y := .int .i64 i') rfl
  have r1 := K.out.cell 0 rfl 1 (y := .string nm') rfl
  have r2 := K.out.cell 0 rfl 2 (y := .string da') rfl
  have r3 := K.out.cell 0 rfl 3 (y := .bool se') rfl
  have r4 := K.out.cell 0 rfl 4 (y := .int .i64 un') rfl
  have r5 := K.out.cell 0 rfl 5 (y := .slice a' M.length c') rfl
  clear ha hb
  go_enter Try.func16, Try.ntmps16
  rcases (Classical.em (i = i')).symm with e | e
  · have t0 : (i == i') = false := by simpa using e
    have hF : Hid (R = false) := Lib.hid (by rw [hS.out]; exact decide_eq_false fun h => e h.1)
    clear e
    go_wp2_with fail
    go_ret
    exact ⟨by rw [hF.out]; rfl, K.out.bel⟩
  subst e
  rcases (Classical.em (nm = nm')).symm with e | e
  · have t1 : (nm.toList == nm'.toList) = false := by rw [ba_beq]; exact decide_eq_false e
    have hF : Hid (R = false) := Lib.hid (by rw [hS.out]; exact decide_eq_false fun h => e h.2.1)
    clear e
    go_wp2_with fail
    go_ret
    exact ⟨by rw [hF.out]; rfl, K.out.bel⟩
  subst e
  rcases (Classical.em (da = da')).symm with e | e
  · have t2 : (da.toList == da'.toList) = false := by rw [ba_beq]; exact decide_eq_false e
    have hF : Hid (R = false) := Lib.hid (by rw [hS.out]; exact decide_eq_false fun h => e h.2.2.1)
    clear e
    go_wp2_with fail
    go_ret
    exact ⟨by rw [hF.out]; rfl, K.out.bel⟩
  subst e
  rcases (Classical.em (se = se')).symm with e | e
  · have t3 : (se == se') = false := by simpa using e
    have hF : Hid (R = false) := Lib.hid (by rw [hS.out]; exact decide_eq_false fun h => e h.2.2.2.1)
    clear e
    go_wp2_with fail
    go_ret
    exact ⟨by rw [hF.out]; rfl, K.out.bel⟩
  subst e
  rcases (Classical.em (un = un')).symm with e | e
  · have t4 : (un == un') = false := by simpa using e
    have hF : Hid (R = false) := Lib.hid (by rw [hS.out]; exact decide_eq_false fun h => e h.2.2.2.2.1)
    clear e
    go_wp2_with fail
    go_ret
    exact ⟨by rw [hF.out]; rfl, K.out.bel⟩
  subst e
  have hF : Hid (R = decide (L = M)) := Lib.hid (by rw [hS.out]; simp)
  generalize decide (L = M) = lm at hF ct
  go_wp2_with fail
  refine (ct.out _ K.out.bel).mono ?_
  rintro e v ⟨rfl, hbv⟩
  have K2 := Lib.hid (K.out.past hbv)
  clear hbv
  go_wp2_with fail
  go_ret
  exact ⟨by rw [hF.out]; simp, K2.out.bel⟩

set_option maxHeartbeats 2000000 in
theorem same_any (f g : Fl) (L M : List ByteArray) (w : World) (ha : StrAt w.heap.size w f.ha L) (hb : StrAt w.heap.size w g.ha M) (hL : L.length ≤ maxLen) (h5 : f.hn = L.length) (h6 : g.hn = M.length) :
    Calls Try.prog 24 #[.agg (flr f), .agg (flr g)] w fun e w' => e = .returned (.bool (sameB f g L M)) ∧ Below w.heap.size w w' := by
  obtain ⟨i, nm, da, se, un, a, n, c⟩ := f
  obtain ⟨i', nm', da', se', un', a', n', c'⟩ := g
  dsimp only at h5 h6 ha hb
  subst h5 h6
  have K := Lib.hid (KW.two w (.cells (flr ⟨i, nm, da, se, un, a, L.length, c⟩) 24) (.cells (flr ⟨i', nm', da', se', un', a', M.length, c'⟩) 24))
  have ct := Lib.hid (fun v (hv : Below w.heap.size w v) => equal_any a a' c c' L M v (ha.on hv) (hb.on hv) hL)
  have hS : Hid (sameB ⟨i, nm, da, se, un, a, L.length, c⟩ ⟨i', nm', da', se', un', a', M.length, c'⟩ L M = decide (i = i' ∧ nm = nm' ∧ da = da' ∧ se = se' ∧ un = un' ∧ L = M)) := Lib.hid rfl
  generalize sameB ⟨i, nm, da, se, un, a, L.length, c⟩ ⟨i', nm', da', se', un', a', M.length, c'⟩ L M = R at hS ⊢
  have q0 := K.out.cell 1 rfl 0 (y := .int .i64 i) rfl
  have q1 := K.out.cell 1 rfl 1 (y := .string nm) rfl
  have q2 := K.out.cell 1 rfl 2 (y := .string da) rfl
  have q3 := K.out.cell 1 rfl 3 (y := .bool se) rfl
  have q4 := K.out.cell 1 rfl 4 (y := .int .i64 un) rfl
  have q5 := K.out.cell 1 rfl 5 (y := .slice a L.length c) rfl
  have r0 := K.out.cell 0 rfl 0 (y := .int .i64 i') rfl
  have r1 := K.out.cell 0 rfl 1 (y := .string nm') rfl
  have r2 := K.out.cell 0 rfl 2 (y := .string da') rfl
  have r3 := K.out.cell 0 rfl 3 (y := .bool se') rfl
  have r4 := K.out.cell 0 rfl 4 (y := .int .i64 un') rfl
  have r5 := K.out.cell 0 rfl 5 (y := .slice a' M.length c') rfl
  clear ha hb
  go_enter Try.func24, Try.ntmps24
  rcases (Classical.em (i = i')).symm with e | e
  · have t0 : (i == i') = false := by simpa using e
    have hF : Hid (R = false) := Lib.hid (by rw [hS.out]; exact decide_eq_false fun h => e h.1)
    clear e
    go_wp2_with fail
    go_ret
    exact ⟨by rw [hF.out]; rfl, K.out.bel⟩
  subst e
  rcases (Classical.em (nm = nm')).symm with e | e
  · have t1 : (nm.toList == nm'.toList) = false := by rw [ba_beq]; exact decide_eq_false e
    have hF : Hid (R = false) := Lib.hid (by rw [hS.out]; exact decide_eq_false fun h => e h.2.1)
    clear e
    go_wp2_with fail
    go_ret
    exact ⟨by rw [hF.out]; rfl, K.out.bel⟩
  subst e
  rcases (Classical.em (da = da')).symm with e | e
  · have t2 : (da.toList == da'.toList) = false := by rw [ba_beq]; exact decide_eq_false e
    have hF : Hid (R = false) := Lib.hid (by rw [hS.out]; exact decide_eq_false fun h => e h.2.2.1)
    clear e
    go_wp2_with fail
    go_ret
    exact ⟨by rw [hF.out]; rfl, K.out.bel⟩
  subst e
  rcases (Classical.em (se = se')).symm with e | e
  · have t3 : (se == se') = false := by simpa using e
    have hF : Hid (R = false) := Lib.hid (by rw [hS.out]; exact decide_eq_false fun h => e h.2.2.2.1)
    clear e
    go_wp2_with fail
    go_ret
    exact ⟨by rw [hF.out]; rfl, K.out.bel⟩
  subst e
  rcases (Classical.em (un = un')).symm with e | e
  · have t4 : (un == un') = false := by simpa using e
    have hF : Hid (R = false) := Lib.hid (by rw [hS.out]; exact decide_eq_false fun h => e h.2.2.2.2.1)
    clear e
    go_wp2_with fail
    go_ret
    exact ⟨by rw [hF.out]; rfl, K.out.bel⟩
  subst e
  have hF : Hid (R = decide (L = M)) := Lib.hid (by rw [hS.out]; simp)
  generalize decide (L = M) = lm at hF ct
  go_wp2_with fail
  refine (ct.out _ K.out.bel).mono ?_
  rintro e v ⟨rfl, hbv⟩
  have K2 := Lib.hid (K.out.past hbv)
  clear hbv
  go_wp2_with fail
  go_ret
  exact ⟨by rw [hF.out]; simp, K2.out.bel⟩
end Go.Proofs.Ytphbkbjgjicncaa
