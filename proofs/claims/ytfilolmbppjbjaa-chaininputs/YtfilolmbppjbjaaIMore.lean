/-
  The walks of ChainInputs where nothing is asked: a row of many, an index out of the heads.
-/
import Derived.Test.YtfilolmbppjbjaaGworks
namespace Go.Proofs.Ytfilolmbppjbjaa
open Go Go.RowKit
set_option linter.unusedVariables false

set_option maxRecDepth 100000 in
set_option maxHeartbeats 2000000 in
theorem inputs_many (l : List Ev) (n : Int) (hl : Hid ((l.length : Int) ≤ 9223372036854775807 ∧ (∀ e ∈ l, e.name.length ≤ 9223372036854775807) ∧ ∀ e ∈ l, e.wf)) (p : Option Addr) (cap : Nat) (w : World) (hE : Hid (EvsAt w.heap.size w p l)) (hq : Hid (fewB l = false)) :
    Calls Try.prog 5 #[.slice p l.length cap, .int .i64 n] w fun e w' => e = .returned (.bool true) ∧ Below w.heap.size w w' := by
  go_enter Try.func5, Try.ntmps5
  go_wp2_with fail
  refine (works_any _).mono ?_
  rintro e v0 ⟨rfl, b0⟩
  have K0 := Lib.hid ((KW.start w).past b0)
  have fa := Lib.hid (few_any l hl.out.1 hl.out.2.1 p cap v0 ((hE.out.past b0).mono b0.size))
  rw [hq.out] at fa
  clear b0
  go_wp2_with fail
  refine fa.out.mono ?_
  rintro e u ⟨rfl, rfl⟩
  clear fa
  go_wp2_with fail
  go_ret
  exact ⟨rfl, K0.out.bel⟩

set_option maxRecDepth 100000 in
set_option maxHeartbeats 2000000 in
theorem inputs_under (l : List Ev) (n : Int) (hn : n < 0) (hl : Hid ((l.length : Int) ≤ 9223372036854775807 ∧ (∀ e ∈ l, e.name.length ≤ 9223372036854775807) ∧ ∀ e ∈ l, e.wf)) (p : Option Addr) (cap : Nat) (w : World) (hE : Hid (EvsAt w.heap.size w p l)) (hq : Hid (fewB l = true)) (fl : Hid (Fit l ∧ l.length ≤ 20)) :
    Calls Try.prog 5 #[.slice p l.length cap, .int .i64 n] w fun e w' => e = .returned (.bool true) ∧ Below w.heap.size w w' := by
  go_enter Try.func5, Try.ntmps5
  go_wp2_with fail
  refine (works_any _).mono ?_
  rintro e v0 ⟨rfl, b0⟩
  have K0 := Lib.hid ((KW.start w).past b0)
  have fa := Lib.hid (few_any l hl.out.1 hl.out.2.1 p cap v0 ((hE.out.past b0).mono b0.size))
  rw [hq.out] at fa
  clear b0
  go_wp2_with fail
  refine fa.out.mono ?_
  rintro e u ⟨rfl, rfl⟩
  clear fa
  have ch1 := Lib.hid (heads_any l fl.out.1 (by have := fl.out.2; omega) p cap v0 ((hE.out.past K0.out.bel).mono K0.out.size))
  go_wp2_with fail
  refine ch1.out.mono ?_
  rintro r v1 ⟨x, rfl, ho, b1⟩
  have K1 := Lib.hid (K0.out.past b1)
  have hx : ∃ q c, x = .slice q (told l).length c := by
    rcases own_digs (fun y hy => (told_fine l fl.out.1 y hy).2) ho with ⟨h, ht⟩ | ⟨gh, ch, curh, hxe, _⟩
    · exact ⟨none, 0, by rw [h, ht]; rfl⟩
    · exact ⟨_, _, hxe⟩
  obtain ⟨q, c, rfl⟩ := hx
  clear ho b1 ch1
  have ci := Lib.hid (input_any l fl.out.1 (by have := fl.out.2; omega) n p cap v1 ((hE.out.past K1.out.bel).mono K1.out.size))
  go_wp2_with fail
  refine ci.out.mono ?_
  rintro r v2 ⟨rfl, b2⟩
  have K2 := Lib.hid (K1.out.past b2)
  have t0 : decide (n < 0) = true := by simpa using hn
  have hi : inpD l n = [] := by unfold inpD; rw [if_neg (by omega)]
  rw [hi]
  go_wp2_with fail
  go_ret
  exact ⟨rfl, K2.out.bel⟩

set_option maxRecDepth 100000 in
set_option maxHeartbeats 2000000 in
theorem inputs_over (l : List Ev) (n : Int) (h0 : ¬ n < 0) (hn : ((told l).length : Int) ≤ n) (hl : Hid ((l.length : Int) ≤ 9223372036854775807 ∧ (∀ e ∈ l, e.name.length ≤ 9223372036854775807) ∧ ∀ e ∈ l, e.wf)) (p : Option Addr) (cap : Nat) (w : World) (hE : Hid (EvsAt w.heap.size w p l)) (hq : Hid (fewB l = true)) (fl : Hid (Fit l ∧ l.length ≤ 20)) :
    Calls Try.prog 5 #[.slice p l.length cap, .int .i64 n] w fun e w' => e = .returned (.bool true) ∧ Below w.heap.size w w' := by
  go_enter Try.func5, Try.ntmps5
  go_wp2_with fail
  refine (works_any _).mono ?_
  rintro e v0 ⟨rfl, b0⟩
  have K0 := Lib.hid ((KW.start w).past b0)
  have fa := Lib.hid (few_any l hl.out.1 hl.out.2.1 p cap v0 ((hE.out.past b0).mono b0.size))
  rw [hq.out] at fa
  clear b0
  go_wp2_with fail
  refine fa.out.mono ?_
  rintro e u ⟨rfl, rfl⟩
  clear fa
  have ch1 := Lib.hid (heads_any l fl.out.1 (by have := fl.out.2; omega) p cap v0 ((hE.out.past K0.out.bel).mono K0.out.size))
  go_wp2_with fail
  refine ch1.out.mono ?_
  rintro r v1 ⟨x, rfl, ho, b1⟩
  have K1 := Lib.hid (K0.out.past b1)
  have hx : ∃ q c, x = .slice q (told l).length c := by
    rcases own_digs (fun y hy => (told_fine l fl.out.1 y hy).2) ho with ⟨h, ht⟩ | ⟨gh, ch, curh, hxe, _⟩
    · exact ⟨none, 0, by rw [h, ht]; rfl⟩
    · exact ⟨_, _, hxe⟩
  obtain ⟨q, c, rfl⟩ := hx
  clear ho b1 ch1
  have ci := Lib.hid (input_any l fl.out.1 (by have := fl.out.2; omega) n p cap v1 ((hE.out.past K1.out.bel).mono K1.out.size))
  go_wp2_with fail
  refine ci.out.mono ?_
  rintro r v2 ⟨rfl, b2⟩
  have K2 := Lib.hid (K1.out.past b2)
  have t0 : decide (n < 0) = false := by simpa using h0
  have t1 : decide (((told l).length : Int) ≤ n) = true := by simpa using hn
  have hi : inpD l n = [] := inp_none (fun j hj => by omega)
  rw [hi]
  go_wp2_with fail
  go_ret
  exact ⟨rfl, K2.out.bel⟩

end Go.Proofs.Ytfilolmbppjbjaa
