/-
  The walks of ChainFirsts where nothing is asked: a row of many, an index out of the row, a row that is not valid.
-/
import Derived.Test.YtfilolmbppjbjaaFWalks
namespace Go.Proofs.Ytfilolmbppjbjaa
open Go Go.RowKit
set_option linter.unusedVariables false

set_option maxRecDepth 100000 in
set_option maxHeartbeats 2000000 in
theorem firsts_many (l : List Ev) (n : Int) (hl : Hid ((l.length : Int) ≤ 9223372036854775807 ∧ (∀ e ∈ l, e.name.length ≤ 9223372036854775807) ∧ ∀ e ∈ l, e.wf)) (p : Option Addr) (cap : Nat) (w : World) (hE : Hid (EvsAt w.heap.size w p l)) (hq : Hid (fewB l = false)) :
    Calls Try.prog 6 #[.slice p l.length cap, .int .i64 n] w fun e w' => e = .returned (.bool true) ∧ Below w.heap.size w w' := by
  go_enter Try.func6, Try.ntmps6
  go_wp2_with fail
  refine (works_any _).mono ?_
  rintro e v0 ⟨rfl, b0⟩
  have K0 := Lib.hid ((KW.start w).past b0)
  have fa := Lib.hid (few_any l hl.out.1 hl.out.2.1 p cap v0 ((hE.out.past b0).mono b0.size))
  rw [hq.out] at fa
  clear b0
  go_wp2_with fail
  refine fa.out.mono ?_
  rintro e u ⟨rfl, rfl⟩
  go_wp2_with fail
  go_ret
  exact ⟨rfl, K0.out.bel⟩

set_option maxRecDepth 100000 in
set_option maxHeartbeats 2000000 in
theorem firsts_under (l : List Ev) (n : Int) (hn : n < 0) (hl : Hid ((l.length : Int) ≤ 9223372036854775807 ∧ (∀ e ∈ l, e.name.length ≤ 9223372036854775807) ∧ ∀ e ∈ l, e.wf)) (p : Option Addr) (cap : Nat) (w : World) (hE : Hid (EvsAt w.heap.size w p l)) (hq : Hid (fewB l = true)) :
    Calls Try.prog 6 #[.slice p l.length cap, .int .i64 n] w fun e w' => e = .returned (.bool true) ∧ Below w.heap.size w w' := by
  go_enter Try.func6, Try.ntmps6
  go_wp2_with fail
  refine (works_any _).mono ?_
  rintro e v0 ⟨rfl, b0⟩
  have K0 := Lib.hid ((KW.start w).past b0)
  have fa := Lib.hid (few_any l hl.out.1 hl.out.2.1 p cap v0 ((hE.out.past b0).mono b0.size))
  rw [hq.out] at fa
  clear b0
  go_wp2_with fail
  refine fa.out.mono ?_
  rintro e u ⟨rfl, rfl⟩
  have t1 : decide (n < 0) = true := by simpa using hn
  go_wp2_with fail
  go_ret
  exact ⟨rfl, K0.out.bel⟩

set_option maxRecDepth 100000 in
set_option maxHeartbeats 2000000 in
theorem firsts_over (l : List Ev) (n : Int) (h0 : ¬ n < 0) (hn : (l.length : Int) < n) (hl : Hid ((l.length : Int) ≤ 9223372036854775807 ∧ (∀ e ∈ l, e.name.length ≤ 9223372036854775807) ∧ ∀ e ∈ l, e.wf)) (p : Option Addr) (cap : Nat) (w : World) (hE : Hid (EvsAt w.heap.size w p l)) (hq : Hid (fewB l = true)) :
    Calls Try.prog 6 #[.slice p l.length cap, .int .i64 n] w fun e w' => e = .returned (.bool true) ∧ Below w.heap.size w w' := by
  go_enter Try.func6, Try.ntmps6
  go_wp2_with fail
  refine (works_any _).mono ?_
  rintro e v0 ⟨rfl, b0⟩
  have K0 := Lib.hid ((KW.start w).past b0)
  have fa := Lib.hid (few_any l hl.out.1 hl.out.2.1 p cap v0 ((hE.out.past b0).mono b0.size))
  rw [hq.out] at fa
  clear b0
  go_wp2_with fail
  refine fa.out.mono ?_
  rintro e u ⟨rfl, rfl⟩
  have t0 : decide (n < 0) = false := by simpa using h0
  have t1 : decide ((l.length : Int) < n) = true := by simpa using hn
  go_wp2_with fail
  go_ret
  exact ⟨rfl, K0.out.bel⟩

set_option maxRecDepth 100000 in
set_option maxHeartbeats 2000000 in
theorem firsts_bad (l : List Ev) (n : Int) (h0 : ¬ n < 0) (hn : ¬ (l.length : Int) < n) (hl : Hid ((l.length : Int) ≤ 9223372036854775807 ∧ (∀ e ∈ l, e.name.length ≤ 9223372036854775807) ∧ ∀ e ∈ l, e.wf)) (p : Option Addr) (cap : Nat) (w : World) (hE : Hid (EvsAt w.heap.size w p l)) (hq : Hid (fewB l = true)) (fl : Hid (Fit l ∧ l.length ≤ 20)) (ol : Hid (l.all okP = false)) :
    Calls Try.prog 6 #[.slice p l.length cap, .int .i64 n] w fun e w' => e = .returned (.bool true) ∧ Below w.heap.size w w' := by
  have hT : Hid (told l = []) := Lib.hid (by unfold told; rw [ol.out]; simp)
  go_enter Try.func6, Try.ntmps6
  go_wp2_with fail
  refine (works_any _).mono ?_
  rintro e v0 ⟨rfl, b0⟩
  have K0 := Lib.hid ((KW.start w).past b0)
  have fa := Lib.hid (few_any l hl.out.1 hl.out.2.1 p cap v0 ((hE.out.past b0).mono b0.size))
  rw [hq.out] at fa
  clear b0
  go_wp2_with fail
  refine fa.out.mono ?_
  rintro e u ⟨rfl, rfl⟩
  have t0 : decide (n < 0) = false := by simpa using h0
  have t1 : decide ((l.length : Int) < n) = false := by simpa using hn
  clear fa
  have ch1 := Lib.hid (heads_any l fl.out.1 (by have := fl.out.2; omega) p cap v0 ((hE.out.past K0.out.bel).mono K0.out.size))
  go_wp2_with fail
  refine ch1.out.mono ?_
  rintro r v1 ⟨x, rfl, ho, b1⟩
  have K1 := Lib.hid (K0.out.past b1)
  have hx : ∃ q c, x = .slice q 0 c := by
    rcases own_digs (fun y hy => (told_fine l fl.out.1 y hy).2) ho with ⟨h, _⟩ | ⟨gh, ch, curh, hxe, _⟩
    · exact ⟨none, 0, h⟩
    · exact ⟨_, _, by rw [hxe, hT.out]; rfl⟩
  obtain ⟨q, c, rfl⟩ := hx
  clear ho b1 ch1
  go_wp2_with fail
  go_ret
  exact ⟨rfl, K1.out.bel⟩
end Go.Proofs.Ytfilolmbppjbjaa
