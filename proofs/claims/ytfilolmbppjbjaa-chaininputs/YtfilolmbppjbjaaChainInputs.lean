/-
  ChainInputs returns true for every input: each head is the digest of its input, the first one's is of no event, each other one's begins with the head ahead and ends with its event.
  Conditions: none beyond the given statement's own.
-/
import Derived.Test.YtfilolmbppjbjaaRows
import Derived.Test.YtfilolmbppjbjaaIZero
import Derived.Test.YtfilolmbppjbjaaINext
import Derived.WalkKit
import Derived.ProofKit
import Derived.OpenShut
import Derived.ShutString
import Derived.ChangeOld
import Derived.Below
namespace Go.Proofs.Ytfilolmbppjbjaa.chainInputs
open Go.ChangeShapes Go.WideShapes Go.ChangeAt Go.RowKit
set_option linter.unusedVariables false

theorem own : ownKnob Try.prog.godebug = none := by kernel_rfl
theorem laidOut : laidOutB Try.prog = true := by kernel_rfl

theorem small {l : List Ev} (hw : ∀ e ∈ l, e.wf ∧ e.name.length ≤ maxLen) (hm : l.length ≤ maxLen) : Hid ((l.length : Int) ≤ 9223372036854775807 ∧ (∀ e ∈ l, e.name.length ≤ 9223372036854775807) ∧ ∀ e ∈ l, e.wf) :=
  Lib.hid ⟨by unfold maxLen at hm; omega, fun e he => by have := (hw e he).2; unfold maxLen at this; omega, fun e he => (hw e he).1⟩

theorem walk (l : List Ev) (p : Option Addr) (cap : Nat) (n : Int) (w : World) (hE : EvsAt w.heap.size w p l) (hw : ∀ e ∈ l, e.wf ∧ e.name.length ≤ maxLen) (hm : l.length ≤ maxLen) (hn : (Lit.int .i64 n).wf = true) :
    Calls Try.prog 5 #[.slice p l.length cap, .int .i64 n] w fun e w' => e = .returned (.bool true) ∧ Below w.heap.size w w' := by
  have sa := small hw hm
  cases q : fewB l with
  | false => exact inputs_many l n sa p cap w (Lib.hid hE) (Lib.hid q)
  | true =>
    have f := fewB_fit q sa.out.2.2
    by_cases h0 : n < 0
    · exact inputs_under l n h0 sa p cap w (Lib.hid hE) (Lib.hid q) (Lib.hid f)
    · by_cases h1 : ((told l).length : Int) ≤ n
      · exact inputs_over l n h0 h1 sa p cap w (Lib.hid hE) (Lib.hid q) (Lib.hid f)
      · cases o : l.all okP with
        | false =>
          have : told l = [] := by unfold told; rw [o]; simp
          rw [this] at h1
          simp at h1
          omega
        | true =>
          have ht := told_ok_len o
          obtain ⟨m, rfl⟩ : ∃ m : Nat, n = (m : Int) := ⟨n.toNat, by omega⟩
          cases m with
          | zero => exact inputs_zero l sa p cap w (Lib.hid hE) (Lib.hid q) (Lib.hid f) (Lib.hid o)
          | succ k => exact inputs_next l k _ (by omega) (Lib.hid rfl) sa p cap w (Lib.hid hE) (Lib.hid q) (Lib.hid f) (Lib.hid o)


set_option maxRecDepth 100000 in
theorem lifted (os : Os) (started : os.Started) (H : Type) (enc : TypeId × Value → H) :
    ReturnsInHanded {} Try.checked os 5 .any (Rows.chainInputsSpec.pre6 enc Try.prog Try.f5 Rows.chainInputsRow.domain false) (Rows.chainInputsSpec.post enc Try.prog Try.f5 false true false false) := by
  refine returnsInHanded_of_change (C := Try.checked) own started (by kernel_rfl) Try.func5
    (ChangeSpec.witness6 (enc := enc) (C := Try.checked) false ⟨#[], #[.slice none 0 0, .int .i64 0], []⟩ 8 (by kernel_rfl) (by kernel_rfl) (by kernel_rfl) (by kernel_rfl)) ?_
  intro W base args ds gs before hval0 hW hcnd _
  have hval : ∀ (j : Nat) t v, Try.f5.params[j]? = some t → args[j]? = some v → Value.okWide Try.prog W .any base t v := hval0
  have hW' := hW
  obtain ⟨p, q, hA0, hV, rfl, hfz, hnd⟩ := hW
  have hA : DataW.TrodAll enc Try.prog W 0 (fun _ => true) true Try.f5.params.toList args.toList ds p := hA0
  rw [Try.params5] at hA hval
  obtain ⟨v0, vs0, d0, ds0, p0, q0, hargs, rfl, rfl, h0, r0⟩ := trodAll_cons hA
  obtain ⟨v1, vs1, d1, ds1, p1, q1, rfl, rfl, rfl, h1, r1⟩ := trodAll_cons r0
  obtain ⟨rfl, rfl, rfl⟩ := trodAll_nil r1
  obtain rfl : args = #[v0, v1] := by cases args; simp_all
  obtain ⟨rfl, rfl⟩ := trodVars_none hV
  obtain ⟨a0, len0, cap0, rfl⟩ := okWide_slice Try.underlying22 (hval 0 22 v0 rfl rfl)
  have k0 := h0
  have lt0 : ∀ x ∈ p0, x.block < W.heap.size := by obtain ⟨m, hm⟩ := k0; exact DataW.trod_lt m _ _ _ hm
  obtain ⟨L0, ln0, E0, wf0, mx0⟩ : ∃ l : List Ev, l.length = len0 ∧ EvsAt W.heap.size W a0 l ∧ (∀ e ∈ l, e.wf ∧ e.name.length ≤ maxLen) ∧ len0 ≤ maxLen := by
    obtain ⟨fuel, hf⟩ := h0
    exact open_evs hf
  subst ln0
  obtain ⟨a1, rfl, rfl, rfl, w1⟩ := open_int Try.underlying3 (hval 1 3 v1 rfl rfl) h1
  clear hA0 hval0
  refine (walk L0 a0 cap0 a1 W E0 wf0 mx0 w1).mono fun e W' ⟨he, bel⟩ => ?_
  subst he
  exact ⟨_, rfl, _, _, _, [], _, [], hW', trodAll_mk1 (shut_bool Try.underlying4 _), (trodAll_cons_mk (Below.trod laidOut (by kernel_rfl) (of_decide_eq_true (by kernel_rfl)) k0 bel lt0) (trodAll_cons_mk (shut_int Try.underlying3 w1) trodAll_mk0)), rfl, bel.frame _, fun h => by cases h⟩

theorem over : Rows.chainInputsRow.holds Try.pinned (OpenSpec.ofChange Rows.chainInputsSpec) :=
  OpenClaim.holds_of_wide 5 Try.f5 rfl rfl rfl rfl rfl rfl rfl ⟨rfl, rfl, rfl, rfl, rfl⟩ rfl rfl rfl rfl rfl (by kernel_rfl) Try.func5 (by kernel_rfl)
    (of_decide_eq_true (by kernel_rfl)) (by unfold Func.isWrapper; first | (rw [if_pos (by decide +kernel)]; kernel_rfl) | (rw [if_neg (by decide +kernel)]; exact ⟨rfl, rfl⟩))
    (fun os started H enc _ => lifted os started H enc)

/-- The given statement. -/
theorem chainInputs_proved : Rows.ChainInputsSaid :=
  over
#print axioms chainInputs_proved
end Go.Proofs.Ytfilolmbppjbjaa.chainInputs
