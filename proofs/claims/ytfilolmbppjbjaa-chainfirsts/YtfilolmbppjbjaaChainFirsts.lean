/-
  ChainFirsts returns true for every input: the heads of the first n events are the first of all heads, and Head tells the last of them.
  Conditions: none beyond the given statement's own.
-/
import Derived.Test.YtfilolmbppjbjaaRows
import Derived.Test.YtfilolmbppjbjaaFMore
import Derived.WalkKit
import Derived.ProofKit
import Derived.OpenShut
import Derived.ShutString
import Derived.ChangeOld
import Derived.Below
namespace Go.Proofs.Ytfilolmbppjbjaa.chainFirsts
open Go.ChangeShapes Go.WideShapes Go.ChangeAt Go.RowKit
set_option linter.unusedVariables false

theorem own : ownKnob Try.prog.godebug = none := by kernel_rfl
theorem laidOut : laidOutB Try.prog = true := by kernel_rfl

theorem small {l : List Ev} (hw : ∀ e ∈ l, e.wf ∧ e.name.length ≤ maxLen) (hm : l.length ≤ maxLen) : Hid ((l.length : Int) ≤ 9223372036854775807 ∧ (∀ e ∈ l, e.name.length ≤ 9223372036854775807) ∧ ∀ e ∈ l, e.wf) :=
  Lib.hid ⟨by unfold maxLen at hm; omega, fun e he => by have := (hw e he).2; unfold maxLen at this; omega, fun e he => (hw e he).1⟩
theorem open_cap {H : Type} {enc : TypeId × Value → H} {w : World} {sp : Nat → Bool} {held : Bool} {fuel : Nat} {a : Option Addr} {len cap : Nat} {x : DataW H × List MemPlace}
    (h : DataW.trod enc Try.prog w 0 sp held fuel 22 [.slice a len cap] = some x) : len ≤ cap := by
  rcases DataW.trod_slice Try.underlying22 h with ⟨h0, _⟩ | ⟨ad, len', cap', elems, rest, n, _, hcs, _, hb, hl, _⟩
  · simp at h0
    obtain ⟨rfl, rfl, rfl⟩ := h0
    exact Nat.le_refl _
  · simp at hcs
    obtain ⟨rfl, rfl, rfl⟩ := hcs
    exact hl

theorem walk (l : List Ev) (p : Option Addr) (cap : Nat) (n : Int) (w : World) (hE : EvsAt w.heap.size w p l) (hw : ∀ e ∈ l, e.wf ∧ e.name.length ≤ maxLen) (hm : l.length ≤ maxLen) (hc : l.length ≤ cap) (hn : (Lit.int .i64 n).wf = true) :
    Calls Try.prog 6 #[.slice p l.length cap, .int .i64 n] w fun e w' => e = .returned (.bool true) ∧ Below w.heap.size w w' := by
  have sa := small hw hm
  cases q : fewB l with
  | false => exact firsts_many l n sa p cap w (Lib.hid hE) (Lib.hid q)
  | true =>
    by_cases h0 : n < 0
    · exact firsts_under l n h0 sa p cap w (Lib.hid hE) (Lib.hid q)
    · by_cases h1 : (l.length : Int) < n
      · exact firsts_over l n h0 h1 sa p cap w (Lib.hid hE) (Lib.hid q)
      · have f := fewB_fit q sa.out.2.2
        cases o : l.all okP with
        | false => exact firsts_bad l n h0 h1 sa p cap w (Lib.hid hE) (Lib.hid q) (Lib.hid f) (Lib.hid o)
        | true =>
          obtain ⟨m, rfl⟩ : ∃ m : Nat, n = (m : Int) := ⟨n.toNat, by omega⟩
          exact firsts_ok l m (by omega) sa p cap w (Lib.hid hE) (Lib.hid hc) (Lib.hid q) (Lib.hid f) (Lib.hid o)


set_option maxRecDepth 100000 in
theorem lifted (os : Os) (started : os.Started) (H : Type) (enc : TypeId × Value → H) :
    ReturnsInHanded {} Try.checked os 6 .any (Rows.chainFirstsSpec.pre6 enc Try.prog Try.f6 Rows.chainFirstsRow.domain false) (Rows.chainFirstsSpec.post enc Try.prog Try.f6 false true false false) := by
  refine returnsInHanded_of_change (C := Try.checked) own started (by kernel_rfl) Try.func6
    (ChangeSpec.witness6 (enc := enc) (C := Try.checked) false ⟨#[], #[.slice none 0 0, .int .i64 0], []⟩ 8 (by kernel_rfl) (by kernel_rfl) (by kernel_rfl) (by kernel_rfl)) ?_
  intro W base args ds gs before hval0 hW hcnd _
  have hval : ∀ (j : Nat) t v, Try.f6.params[j]? = some t → args[j]? = some v → Value.okWide Try.prog W .any base t v := hval0
  have hW' := hW
  obtain ⟨p, q, hA0, hV, rfl, hfz, hnd⟩ := hW
  have hA : DataW.TrodAll enc Try.prog W 0 (fun _ => true) true Try.f6.params.toList args.toList ds p := hA0
  rw [Try.params6] at hA hval
  obtain ⟨v0, vs0, d0, ds0, p0, q0, hargs, rfl, rfl, h0, r0⟩ := trodAll_cons hA
  obtain ⟨v1, vs1, d1, ds1, p1, q1, rfl, rfl, rfl, h1, r1⟩ := trodAll_cons r0
  obtain ⟨rfl, rfl, rfl⟩ := trodAll_nil r1
  obtain rfl : args = #[v0, v1] := by cases args; simp_all
  obtain ⟨rfl, rfl⟩ := trodVars_none hV
  obtain ⟨a0, len0, cap0, rfl⟩ := okWide_slice Try.underlying22 (hval 0 22 v0 rfl rfl)
  have k0 := h0
  have lt0 : ∀ x ∈ p0, x.block < W.heap.size := by obtain ⟨m, hm⟩ := k0; exact DataW.trod_lt m _ _ _ hm
  obtain ⟨L0, ln0, E0, wf0, mx0⟩ : ∃ l : List Ev, l.length = len0 ∧ EvsAt W.heap.size W a0 l ∧ (∀ e ∈ l, e.wf ∧ e.name.length ≤ maxLen) ∧ len0 ≤ maxLen := by
    obtain ⟨fuel, hf⟩ := h0
    exact open_evs hf
  have cp0 : len0 ≤ cap0 := by
    obtain ⟨fuel, hf⟩ := h0
    exact open_cap hf
  subst ln0
  obtain ⟨a1, rfl, rfl, rfl, w1⟩ := open_int Try.underlying3 (hval 1 3 v1 rfl rfl) h1
  clear hA0 hval0
  refine (walk L0 a0 cap0 a1 W E0 wf0 mx0 cp0 w1).mono fun e W' ⟨he, bel⟩ => ?_
  subst he
  exact ⟨_, rfl, _, _, _, [], _, [], hW', trodAll_mk1 (shut_bool Try.underlying4 _), (trodAll_cons_mk (Below.trod laidOut (by kernel_rfl) (of_decide_eq_true (by kernel_rfl)) k0 bel lt0) (trodAll_cons_mk (shut_int Try.underlying3 w1) trodAll_mk0)), rfl, bel.frame _, fun h => by cases h⟩

theorem over : Rows.chainFirstsRow.holds Try.pinned (OpenSpec.ofChange Rows.chainFirstsSpec) :=
  OpenClaim.holds_of_wide 6 Try.f6 rfl rfl rfl rfl rfl rfl rfl ⟨rfl, rfl, rfl, rfl, rfl⟩ rfl rfl rfl rfl rfl (by kernel_rfl) Try.func6 (by kernel_rfl)
    (of_decide_eq_true (by kernel_rfl)) (by unfold Func.isWrapper; first | (rw [if_pos (by decide +kernel)]; kernel_rfl) | (rw [if_neg (by decide +kernel)]; exact ⟨rfl, rfl⟩))
    (fun os started H enc _ => lifted os started H enc)

/-- The given statement. -/
theorem chainFirsts_proved : Rows.ChainFirstsSaid :=
  over
#print axioms chainFirsts_proved
end Go.Proofs.Ytfilolmbppjbjaa.chainFirsts
