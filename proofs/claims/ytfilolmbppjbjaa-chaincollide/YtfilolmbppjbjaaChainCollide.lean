/-
  ChainCollide returns true for every input: two rows of events of one head are the same, or Collide tells two texts of one digest.
  Conditions: none beyond the given statement's own.
-/
import Derived.Test.YtfilolmbppjbjaaRows
import Derived.Test.YtfilolmbppjbjaaCWalks
import Derived.WalkKit
import Derived.ProofKit
import Derived.OpenShut
import Derived.ShutString
import Derived.ChangeOld
import Derived.Below
namespace Go.Proofs.Ytfilolmbppjbjaa.chainCollide
open Go.ChangeShapes Go.WideShapes Go.ChangeAt Go.RowKit
set_option linter.unusedVariables false

theorem own : ownKnob Try.prog.godebug = none := by kernel_rfl
theorem laidOut : laidOutB Try.prog = true := by kernel_rfl

theorem small {l : List Ev} (hw : ∀ e ∈ l, e.wf ∧ e.name.length ≤ maxLen) (hm : l.length ≤ maxLen) : Hid ((l.length : Int) ≤ 9223372036854775807 ∧ (∀ e ∈ l, e.name.length ≤ 9223372036854775807) ∧ ∀ e ∈ l, e.wf) :=
  Lib.hid ⟨by unfold maxLen at hm; omega, fun e he => by have := (hw e he).2; unfold maxLen at this; omega, fun e he => (hw e he).1⟩
theorem hdR_len (l : List Ev) : (hdR startD l).length = 32 := by
  unfold hdR
  split
  · exact headD_len _ _ startD_len
  · rfl
theorem hdR_ok {l : List Ev} (h : l.all okP = true) : hdR startD l = headD startD l := by unfold hdR; rw [h]; rfl

theorem walk (la : List Ev) (pa : Option Addr) (ca : Nat) (lb : List Ev) (pb : Option Addr) (cb : Nat) (w : World) (hEa : EvsAt w.heap.size w pa la) (hwa : ∀ e ∈ la, e.wf ∧ e.name.length ≤ maxLen) (hma : la.length ≤ maxLen) (hEb : EvsAt w.heap.size w pb lb) (hwb : ∀ e ∈ lb, e.wf ∧ e.name.length ≤ maxLen) (hmb : lb.length ≤ maxLen) :
    Calls Try.prog 3 #[.slice pa la.length ca, .slice pb lb.length cb] w fun e w' => e = .returned (.bool true) ∧ Below w.heap.size w w' := by
  have sa := small hwa hma
  have sb := small hwb hmb
  cases qa : fewB la with
  | false => exact walk_many la lb sa sb pa pb ca cb w (Lib.hid hEa) (Lib.hid hEb) (.inl qa)
  | true =>
    cases qb : fewB lb with
    | false => exact walk_many la lb sa sb pa pb ca cb w (Lib.hid hEa) (Lib.hid hEb) (.inr qb)
    | true =>
      have fa := fewB_fit qa sa.out.2.2
      have fb := fewB_fit qb sb.out.2.2
      cases oa : la.all okP with
      | false => exact walk_a la lb sa sb pa pb ca cb w (Lib.hid hEa) (Lib.hid hEb) (Lib.hid qa) (Lib.hid qb) (Lib.hid fa) (Lib.hid fb) _ _ (Lib.hid (hdR_len la)) (Lib.hid (hdR_len lb)) (Lib.hid oa) _ (Lib.hid rfl) (Lib.hid rfl) (Lib.hid rfl) (Lib.hid (colR_none (.inl oa)))
      | true =>
        cases ob : lb.all okP with
        | false => exact walk_b la lb sa sb pa pb ca cb w (Lib.hid hEa) (Lib.hid hEb) (Lib.hid qa) (Lib.hid qb) (Lib.hid fa) (Lib.hid fb) _ _ (Lib.hid (hdR_len la)) (Lib.hid (hdR_len lb)) (Lib.hid oa) (Lib.hid ob) (Lib.hid rfl) (Lib.hid rfl) (Lib.hid (colR_none (.inr (.inl ob))))
        | true =>
          by_cases hh : headD startD la = headD startD lb
          · have hxy : hdR startD la = hdR startD lb := by rw [hdR_ok oa, hdR_ok ob, hh]
            by_cases he : la = lb
            · exact walk_d la lb sa sb pa pb ca cb w (Lib.hid hEa) (Lib.hid hEb) (Lib.hid qa) (Lib.hid qb) (Lib.hid fa) (Lib.hid fb) _ _ (Lib.hid (hdR_len la)) (Lib.hid (hdR_len lb)) (Lib.hid oa) (Lib.hid ob) (Lib.hid rfl) (Lib.hid rfl) (Lib.hid hxy) (Lib.hid ((sameL_iff la lb).2 he)) (Lib.hid (colR_none (.inr (.inr (.inr he)))))
            · obtain ⟨s, t, h1, h2⟩ := colR_clash fa.1 fb.1 oa ob hh he
              exact walk_e la lb sa sb pa pb ca cb w (Lib.hid hEa) (Lib.hid hEb) (Lib.hid qa) (Lib.hid qb) (Lib.hid fa) (Lib.hid fb) _ _ (Lib.hid (hdR_len la)) (Lib.hid (hdR_len lb)) (Lib.hid oa) (Lib.hid ob) (Lib.hid rfl) (Lib.hid rfl) (Lib.hid hxy) (Lib.hid (same_false he)) s t (Lib.hid h2) (Lib.hid h1)
          · exact walk_c la lb sa sb pa pb ca cb w (Lib.hid hEa) (Lib.hid hEb) (Lib.hid qa) (Lib.hid qb) (Lib.hid fa) (Lib.hid fb) _ _ (Lib.hid (hdR_len la)) (Lib.hid (hdR_len lb)) (Lib.hid oa) (Lib.hid ob) (Lib.hid rfl) (Lib.hid rfl) (Lib.hid (by rw [hdR_ok oa, hdR_ok ob]; exact hh)) (Lib.hid (colR_none (.inr (.inr (.inl hh)))))

set_option maxRecDepth 100000 in
theorem lifted (os : Os) (started : os.Started) (H : Type) (enc : TypeId × Value → H) :
    ReturnsInHanded {} Try.checked os 3 .any (Rows.chainCollideSpec.pre6 enc Try.prog Try.f3 Rows.chainCollideRow.domain false) (Rows.chainCollideSpec.post enc Try.prog Try.f3 false true false false) := by
  refine returnsInHanded_of_change (C := Try.checked) own started (by kernel_rfl) Try.func3
    (ChangeSpec.witness6 (enc := enc) (C := Try.checked) false ⟨#[], #[.slice none 0 0, .slice none 0 0], []⟩ 8 (by kernel_rfl) (by kernel_rfl) (by kernel_rfl) (by kernel_rfl)) ?_
  intro W base args ds gs before hval0 hW hcnd _
  have hval : ∀ (j : Nat) t v, Try.f3.params[j]? = some t → args[j]? = some v → Value.okWide Try.prog W .any base t v := hval0
  have hW' := hW
  obtain ⟨p, q, hA0, hV, rfl, hfz, hnd⟩ := hW
  have hA : DataW.TrodAll enc Try.prog W 0 (fun _ => true) true Try.f3.params.toList args.toList ds p := hA0
  rw [Try.params3] at hA hval
  obtain ⟨v0, vs0, d0, ds0, p0, q0, hargs, rfl, rfl, h0, r0⟩ := trodAll_cons hA
  obtain ⟨v1, vs1, d1, ds1, p1, q1, rfl, rfl, rfl, h1, r1⟩ := trodAll_cons r0
  obtain ⟨rfl, rfl, rfl⟩ := trodAll_nil r1
  obtain rfl : args = #[v0, v1] := by cases args; simp_all
  obtain ⟨rfl, rfl⟩ := trodVars_none hV
  obtain ⟨a0, len0, cap0, rfl⟩ := okWide_slice Try.underlying22 (hval 0 22 v0 rfl rfl)
  have k0 := h0
  have lt0 : ∀ x ∈ p0, x.block < W.heap.size := by obtain ⟨m, hm⟩ := k0; exact DataW.trod_lt m _ _ _ hm
  obtain ⟨L0, ln0, E0, wf0, mx0⟩ : ∃ l : List Ev, l.length = len0 ∧ EvsAt W.heap.size W a0 l ∧ (∀ e ∈ l, e.wf ∧ e.name.length ≤ maxLen) ∧ len0 ≤ maxLen := by
    obtain ⟨fuel, hf⟩ := h0
    exact open_evs hf
  subst ln0
  obtain ⟨a1, len1, cap1, rfl⟩ := okWide_slice Try.underlying22 (hval 1 22 v1 rfl rfl)
  have k1 := h1
  have lt1 : ∀ x ∈ p1, x.block < W.heap.size := by obtain ⟨m, hm⟩ := k1; exact DataW.trod_lt m _ _ _ hm
  obtain ⟨L1, ln1, E1, wf1, mx1⟩ : ∃ l : List Ev, l.length = len1 ∧ EvsAt W.heap.size W a1 l ∧ (∀ e ∈ l, e.wf ∧ e.name.length ≤ maxLen) ∧ len1 ≤ maxLen := by
    obtain ⟨fuel, hf⟩ := h1
    exact open_evs hf
  subst ln1
  clear hA0 hval0
  refine (walk L0 a0 cap0 L1 a1 cap1 W E0 wf0 mx0 E1 wf1 mx1).mono fun e W' ⟨he, bel⟩ => ?_
  subst he
  exact ⟨_, rfl, _, _, _, [], _, [], hW', trodAll_mk1 (shut_bool Try.underlying4 _), (trodAll_cons_mk (Below.trod laidOut (by kernel_rfl) (of_decide_eq_true (by kernel_rfl)) k0 bel lt0) (trodAll_cons_mk (Below.trod laidOut (by kernel_rfl) (of_decide_eq_true (by kernel_rfl)) k1 bel lt1) trodAll_mk0)), rfl, bel.frame _, fun h => by cases h⟩

theorem over : Rows.chainCollideRow.holds Try.pinned (OpenSpec.ofChange Rows.chainCollideSpec) :=
  OpenClaim.holds_of_wide 3 Try.f3 rfl rfl rfl rfl rfl rfl rfl ⟨rfl, rfl, rfl, rfl, rfl⟩ rfl rfl rfl rfl rfl (by kernel_rfl) Try.func3 (by kernel_rfl)
    (of_decide_eq_true (by kernel_rfl)) (by unfold Func.isWrapper; first | (rw [if_pos (by decide +kernel)]; kernel_rfl) | (rw [if_neg (by decide +kernel)]; exact ⟨rfl, rfl⟩))
    (fun os started H enc _ => lifted os started H enc)

/-- The given statement. -/
theorem chainCollide_proved : Rows.ChainCollideSaid :=
  over
#print axioms chainCollide_proved
end Go.Proofs.Ytfilolmbppjbjaa.chainCollide
