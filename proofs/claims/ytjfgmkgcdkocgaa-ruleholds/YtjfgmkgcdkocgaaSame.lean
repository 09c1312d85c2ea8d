/-
  Two files that are the same: what Same and Texts of the reference return of them.
-/
import Derived.Test.YtjfgmkgcdkocgaaQuiet
namespace Go.Proofs.Ytjfgmkgcdkocgaa
open Go Go.RowKit

theorem below_drew (w : World) (n : Nat) : Below w.heap.size w (w.drewN n) := ⟨(Below.refl w.heap.size w).os, (Below.refl w.heap.size w).tape, (Below.refl w.heap.size w).output, (Below.refl w.heap.size w).size, (Below.refl w.heap.size w).block⟩

set_option maxHeartbeats 1000000 in
theorem texts_true (a b : Option Addr) (c d : Nat) (L : List ByteArray) (w : World) (ha : StrAt w.heap.size w a L) (hb : StrAt w.heap.size w b L) (hL : L.length ≤ 1000) :
    Calls Try.prog 34 #[.slice a L.length c, .slice b L.length d] w fun e w' => e = .returned (.bool true) ∧ Below w.heap.size w w' := by
  have hA := Lib.hid ha
  have hB := Lib.hid hb
  clear ha hb
  go_enter Try.func34, Try.ntmps34
  go_wp2_with fail
  go_loopw [5] (fun i wr => ∃ k : Nat, k ≤ L.length ∧ i = .int .i64 (k : Int) ∧ Hid (Below w.heap.size w wr)) (fun i _ => L.length - (intOf i).toNat)
  case atStart => exact ⟨0, Nat.zero_le _, rfl, Lib.hid (Below.refl _ _)⟩
  case round =>
    obtain ⟨k, hk, rfl, hW⟩ := hrel
    rename_i wr
    by_cases hlt : k < L.length
    · have hlt' : (k : Int) < (L.length : Int) := by omega
      have hlt2 : decide (k < L.length) = true := by simpa using hlt
      rcases hA.out with h0 | ⟨b1, o1, rfl, l1, hc1⟩
      · rw [h0] at hlt; simp at hlt
      rcases hB.out with h0 | ⟨b2, o2, rfl, l2, hc2⟩
      · rw [h0] at hlt; simp at hlt
      have q1 : wr.cell? ⟨b1, o1 + k, none⟩ = some (.string L[k]) := (hW.out.cell (p := ⟨b1, o1 + k, none⟩) l1).trans (hc1 k hlt)
      have q2 : wr.cell? ⟨b2, o2 + k, none⟩ = some (.string L[k]) := (hW.out.cell (p := ⟨b2, o2 + k, none⟩) l2).trans (hc2 k hlt)
      clear hc1 hc2
      generalize L[k] = y at *
      go_wp2_with fail
      go_quiet ((fail))
      rename_i nq
      have hW2 := Lib.hid (hW.out.trans ((below_drew wr nq).mono hW.out.size))
      go_wp2_with fail
      go_roundw
      case rel => exact ⟨k + 1, by omega, by go_num, hW2⟩
      case measure => simp [intOf]; omega
    · obtain rfl : k = L.length := by omega
      have hlt' : ¬ (L.length : Int) < (L.length : Int) := by omega
      have hlt2 : decide (L.length < L.length) = false := by simp
      go_wp2_with fail
      go_ret
      exact ⟨rfl, hW.out⟩

set_option maxHeartbeats 1000000 in
theorem same_true (f g : Fl) (L : List ByteArray) (w : World) (ha : StrAt w.heap.size w f.ha L) (hb : StrAt w.heap.size w g.ha L) (hL : L.length ≤ 1000) (h0 : f.id = g.id) (h1 : f.nm = g.nm) (h2 : f.da = g.da) (h3 : f.se = g.se) (h4 : f.un = g.un) (h5 : f.hn = L.length) (h6 : g.hn = L.length) :
    Calls Try.prog 23 #[.agg (flr f), .agg (flr g)] w fun e w' => e = .returned (.bool true) ∧ Below w.heap.size w w' := by
  obtain ⟨i, nm, da, se, un, a, n, c⟩ := f
  obtain ⟨i', nm', da', se', un', a', n', c'⟩ := g
  dsimp only at h0 h1 h2 h3 h4 h5 h6 ha hb
  subst h0 h1 h2 h3 h4 h5 h6
  have K := Lib.hid (KW.two w (.cells (flr ⟨i, nm, da, se, un, a, L.length, c⟩) 27) (.cells (flr ⟨i, nm, da, se, un, a', L.length, c'⟩) 27))
  have ct := Lib.hid (fun v (hv : Below w.heap.size w v) => texts_true a a' c c' L v (ha.on hv) (hb.on hv) hL)
  have q0 := K.out.cell 1 rfl 0 (y := .int .i64 i) rfl
  have q1 := K.out.cell 1 rfl 1 (y := .string nm) rfl
  have q2 := K.out.cell 1 rfl 2 (y := .string da) rfl
  have q3 := K.out.cell 1 rfl 3 (y := .bool se) rfl
  have q4 := K.out.cell 1 rfl 4 (y := .int .i64 un) rfl
  have q5 := K.out.cell 1 rfl 5 (y := .slice a L.length c) rfl
  have r0 := K.out.cell 0 rfl 0 (y := .int .i64 i) rfl
  have r1 := K.out.cell 0 rfl 1 (y := .string nm) rfl
  have r2 := K.out.cell 0 rfl 2 (y := .string da) rfl
  have r3 := K.out.cell 0 rfl 3 (y := .bool se) rfl
  have r4 := K.out.cell 0 rfl 4 (y := .int .i64 un) rfl
  have r5 := K.out.cell 0 rfl 5 (y := .slice a' L.length c') rfl
  clear ha hb
  go_enter Try.func23, Try.ntmps23
  go_wp2_with fail
  refine (ct.out _ K.out.bel).mono ?_
  rintro e v ⟨rfl, hbv⟩
  have K2 := Lib.hid (K.out.past hbv)
  clear hbv
  go_wp2_with fail
  go_ret
  exact ⟨by simp, K2.out.bel⟩
end Go.Proofs.Ytjfgmkgcdkocgaa
