/-
  The walk of ChainInputs at the first head.
-/
import Derived.Test.YtfilolmbppjbjaaIFacts
namespace Go.Proofs.Ytfilolmbppjbjaa
open Go Go.RowKit
set_option linter.unusedVariables false

set_option maxRecDepth 100000 in
set_option maxHeartbeats 2000000 in
theorem inputs_zero (l : List Ev) (hl : Hid ((l.length : Int) ≤ 9223372036854775807 ∧ (∀ e ∈ l, e.name.length ≤ 9223372036854775807) ∧ ∀ e ∈ l, e.wf)) (p : Option Addr) (cap : Nat) (w : World) (hE : Hid (EvsAt w.heap.size w p l)) (hq : Hid (fewB l = true)) (fl : Hid (Fit l ∧ l.length ≤ 20)) (ol : Hid (l.all okP = true)) :
    Calls Try.prog 5 #[.slice p l.length cap, .int .i64 0] w fun e w' => e = .returned (.bool true) ∧ Below w.heap.size w w' := by
  have h20 : l.length ≤ 20 := fl.out.2
  have hTl : Hid ((told l).length = l.length + 1) := Lib.hid (told_ok_len ol.out)
  obtain ⟨D, hDe⟩ : ∃ D, Hid (headD startD (l.take 0) = D) := ⟨_, Lib.hid rfl⟩
  have hD : Hid (D.length = 32) := Lib.hid (by rw [← hDe.out]; exact headD_len _ _ startD_len)
  have hs := Lib.hid (inp_sha ol.out fl.out.1 0 (by omega))
  have hz := Lib.hid (inp_zero ol.out)
  obtain ⟨S, hS⟩ : ∃ S, Hid (inpD l ((0 : Nat) : Int) = S) := ⟨_, Lib.hid rfl⟩
  have cO : Hid (∀ v, Calls Try.prog 13 #[.string ⟨S.toArray⟩] v fun e v' => e = .returned (.agg (row D)) ∧ Below v.heap.size v v') := Lib.hid (fun v => by
    have e1 := hs.out.1
    rw [hS.out, hDe.out] at e1
    rw [← e1]
    exact sh.of_any ⟨S.toArray⟩ (by have := hs.out.2; rw [hS.out] at this; show S.toArray.size ≤ 4000; simp; omega) v)
  go_enter Try.func5, Try.ntmps5
  go_wp2_with fail
  refine (works_any _).mono ?_
  rintro e v0 ⟨rfl, b0⟩
  have K0 := Lib.hid ((KW.start w).past b0)
  have fa := Lib.hid (few_any l hl.out.1 hl.out.2.1 p cap v0 ((hE.out.past b0).mono b0.size))
  rw [hq.out] at fa
  clear b0
  go_wp2_with fail
  refine fa.out.mono ?_
  rintro e u ⟨rfl, rfl⟩
  clear fa
  have ch1 := Lib.hid (heads_any l fl.out.1 (by omega) p cap v0 ((hE.out.past K0.out.bel).mono K0.out.size))
  go_wp2_with fail
  refine ch1.out.mono ?_
  rintro r v1 ⟨x, rfl, ho, b1⟩
  rcases own_digs (fun y hy => (told_fine l fl.out.1 y hy).2) ho with ⟨_, h0⟩ | ⟨gh, ch, curh, hxe, hg1, hgh, hld⟩
  · exfalso; have := hTl.out; rw [h0] at this; simp at this
  rw [hTl.out] at hxe
  subst hxe
  have K1 : Hid (KW w.heap.size w [(gh, .cells curh 26)] v1) := Lib.hid ((K0.out.past b1).know gh _ hgh (by simp))
  have ldh : Hid (∀ u : World, u.heap[gh]? = some (.cells curh 26) → (Instr.loadAt 26 (.pointer (some ⟨gh, 0 * 32, none⟩))).run Try.prog u = .ok (.agg (row D)) u) := Lib.hid (fun u hu => by
    have h := hld 0 (by rw [hTl.out]; omega) u hu
    rw [told_at ol.out 0, hDe.out] at h
    exact h)
  clear ho b1 hg1 hgh hld ch1
  have ci := Lib.hid (input_any l fl.out.1 (by omega) ((0 : Nat) : Int) p cap v1 ((hE.out.past K1.out.bel).mono K1.out.size))
  rw [hS.out] at ci
  go_wp2_with fail
  refine ci.out.mono ?_
  rintro r v2 ⟨rfl, b2⟩
  have K2 := Lib.hid ((K1.out.past b2).drew)
  clear b2 ci
  have t0 : decide ((0 : Int) < 0) = false := by simp
  have t1 : decide (((l.length : Int) + 1) ≤ 0) = false := decide_eq_false (by omega)
  have t2 : decide (((l.length + 1 : Nat) : Int) ≤ 0) = false := decide_eq_false (by omega)
  have ixh : Hid (∀ v, (Instr.indexAt 35 (.slice (some ⟨gh, 0, none⟩) (l.length + 1) ch) (.int .i64 0)).run Try.prog v = .ok (.pointer (some ⟨gh, 0 * 32, none⟩)) v) := Lib.hid (fun v => index35 gh (l.length + 1) ch 0 (by omega) v)
  have eqD : Hid (∀ v, (Op.equalIn 10000 26 (.agg (row D)) (.agg (row D))).run Try.prog v = .ok true v) := Lib.hid (fun v => (eql_dig D D hD.out hD.out v).trans (by simp))
  go_wp2_with (refine park_region (fun Pk hX => ?_))
  refine hX.out ?_
  clear hX
  refine wp_region_class (KW w.heap.size w [(gh, .cells curh 26)]) (by kernel_rfl) (by kernel_rfl) K2.out ?_
  refine wpQuiet_move (by rfl) _ (.inl rfl) (.string ⟨S.toArray⟩) rfl ?_
  refine wpQuiet_call1 (by rfl) 13 (.tmp 38) _ rfl ent13 (.string ⟨S.toArray⟩) rfl (.agg (row D)) (fun v h => (cO.out v).mono fun e v' ⟨he, hb⟩ => ⟨he, h.past hb⟩) ?_
  refine wpQuiet_move (by rfl) _ (.inl rfl) (.slice (some ⟨gh, 0, none⟩) (l.length + 1) ch) rfl ?_
  refine wpQuiet_move (by rfl) _ (.inl rfl) (.int .i64 0) rfl ?_
  refine wpQuiet_index (by rfl) 35 _ _ rfl _ _ rfl rfl _ ixh.out ?_
  refine wpQuiet_mid (by rfl) 26 _ rfl gh (0 * 32) rfl (.agg (row D)) (fun v h => ldh.out v (h.at 0 rfl)) ?_
  simp only [Act.put, List.setIfInBounds_toArray, List.set_cons_zero, List.set_cons_succ]
  refine wpQuiet_dne (by rfl) _ _ _ _ rfl (row D) (row D) rfl rfl (by kernel_rfl) true eqD.out ?_
  simp only [Act.put, List.setIfInBounds_toArray, List.set_cons_zero, List.set_cons_succ]
  refine wpQuiet_nil ?_
  intro x hx
  have hx' := Lib.hid hx
  clear hx
  have hSC : S = [99, 101, 110, 111, 116, 97, 112, 104] := by rw [← hS.out, hz.out]; rfl
  rw [hSC]
  go_wp2_with fail
  go_ret
  exact ⟨rfl, hx'.out.bel⟩
end Go.Proofs.Ytfilolmbppjbjaa
