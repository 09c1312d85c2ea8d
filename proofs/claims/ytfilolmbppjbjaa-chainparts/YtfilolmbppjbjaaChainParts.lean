/-
  ChainParts returns true for every input: the head of two rows, one behind the other, is the second's from the first's, and the heads of the first are the first of all.
  Conditions: none beyond the given statement's own.
-/
import Derived.Test.YtfilolmbppjbjaaRows
import Derived.Test.YtfilolmbppjbjaaPWalks
import Derived.WalkKit
import Derived.ProofKit
import Derived.OpenShut
import Derived.ShutString
import Derived.ChangeOld
import Derived.Below
namespace Go.Proofs.Ytfilolmbppjbjaa.chainParts
open Go.ChangeShapes Go.WideShapes Go.ChangeAt Go.RowKit
set_option linter.unusedVariables false

theorem own : ownKnob Try.prog.godebug = none := by kernel_rfl
theorem laidOut : laidOutB Try.prog = true := by kernel_rfl

theorem small {l : List Ev} (hw : ∀ e ∈ l, e.wf ∧ e.name.length ≤ maxLen) (hm : l.length ≤ maxLen) : Hid ((l.length : Int) ≤ 9223372036854775807 ∧ (∀ e ∈ l, e.name.length ≤ 9223372036854775807) ∧ ∀ e ∈ l, e.wf) :=
  Lib.hid ⟨by unfold maxLen at hm; omega, fun e he => by have := (hw e he).2; unfold maxLen at this; omega, fun e he => (hw e he).1⟩
theorem open_nil {H : Type} {enc : TypeId × Value → H} {w : World} {sp : Nat → Bool} {held : Bool} {fuel : Nat} {a : Option Addr} {len cap : Nat} {x : DataW H × List MemPlace}
    (h : DataW.trod enc Try.prog w 0 sp held fuel 22 [.slice a len cap] = some x) : a = none → len = 0 ∧ cap = 0 := by
  rcases DataW.trod_slice Try.underlying22 h with ⟨h0, _⟩ | ⟨ad, len', cap', elems, rest, n, _, hcs, _⟩
  · simp at h0
    obtain ⟨rfl, rfl, rfl⟩ := h0
    exact fun _ => ⟨rfl, rfl⟩
  · simp at hcs
    obtain ⟨rfl, rfl, rfl⟩ := hcs
    intro e
    cases e
theorem hdR_len (d : List UInt8) (hd : d.length = 32) (l : List Ev) : (hdR d l).length = 32 := by
  unfold hdR
  split
  · exact headD_len _ _ hd
  · rfl
theorem hdR_ok {d : List UInt8} {l : List Ev} (h : l.all okP = true) : hdR d l = headD d l := by unfold hdR; rw [h]; rfl
theorem hdR_bad {d : List UInt8} {l : List Ev} (h : l.all okP = false) : hdR d l = zs := by unfold hdR; rw [h]; rfl

theorem walk (d : List UInt8) (la : List Ev) (pa : Option Addr) (ca : Nat) (lb : List Ev) (pb : Option Addr) (cb : Nat) (w : World) (hd : d.length = 32) (hEa : EvsAt w.heap.size w pa la) (hwa : ∀ e ∈ la, e.wf ∧ e.name.length ≤ maxLen) (hma : la.length ≤ maxLen) (hna : pa = none → la.length = 0 ∧ ca = 0) (hEb : EvsAt w.heap.size w pb lb) (hwb : ∀ e ∈ lb, e.wf ∧ e.name.length ≤ maxLen) (hmb : lb.length ≤ maxLen) (hnb : pb = none → lb.length = 0 ∧ cb = 0) :
    Calls Try.prog 4 #[.agg (row d), .slice pa la.length ca, .slice pb lb.length cb] w fun e w' => e = .returned (.bool true) ∧ Below w.heap.size w w' := by
  have sa := small hwa hma
  have sb := small hwb hmb
  have na : Hid (pa = none → la = [] ∧ ca = 0) := Lib.hid (fun h => ⟨List.eq_nil_of_length_eq_zero (hna h).1, (hna h).2⟩)
  have nb : Hid (pb = none → lb = [] ∧ cb = 0) := Lib.hid (fun h => ⟨List.eq_nil_of_length_eq_zero (hnb h).1, (hnb h).2⟩)
  cases qa : fewB la with
  | false => exact parts_many_a d (Lib.hid hd) la lb sa sb pa pb ca cb w (Lib.hid hEa) (Lib.hid hEb) (Lib.hid qa)
  | true =>
    cases qb : fewB lb with
    | false => exact parts_many_b d (Lib.hid hd) la lb sa sb pa pb ca cb w (Lib.hid hEa) (Lib.hid hEb) (Lib.hid qa) (Lib.hid qb)
    | true =>
      have fa := fewB_fit qa sa.out.2.2
      have fb := fewB_fit qb sb.out.2.2
      have l1 := hdR_len d hd la
      have l2 := hdR_len (hdR d la) l1 lb
      have l3 := hdR_len d hd (la ++ lb)
      cases oa : la.all okP with
      | false =>
        have oc : (la ++ lb).all okP = false := by rw [List.all_append, oa]; rfl
        cases ob : lb.all okP with
        | false => exact parts_bad_c d (Lib.hid hd) la lb sa sb pa pb ca cb w (Lib.hid hEa) (Lib.hid hEb) na nb (Lib.hid qa) (Lib.hid qb) (Lib.hid fa) (Lib.hid fb) (Lib.hid oa) (Lib.hid ob) (Lib.hid oc) _ _ _ (Lib.hid l1) (Lib.hid l2) (Lib.hid l3) (Lib.hid rfl) (Lib.hid rfl) (Lib.hid rfl) (Lib.hid (hdR_bad oc))
        | true => exact parts_bad_a d (Lib.hid hd) la lb sa sb pa pb ca cb w (Lib.hid hEa) (Lib.hid hEb) na nb (Lib.hid qa) (Lib.hid qb) (Lib.hid fa) (Lib.hid fb) (Lib.hid oa) (Lib.hid ob) (Lib.hid oc) _ _ _ (Lib.hid l1) (Lib.hid l2) (Lib.hid l3) (Lib.hid rfl) (Lib.hid rfl) (Lib.hid rfl) (Lib.hid (hdR_bad oc))
      | true =>
        cases ob : lb.all okP with
        | false =>
          have oc : (la ++ lb).all okP = false := by rw [List.all_append, oa, ob]; rfl
          exact parts_bad_b d (Lib.hid hd) la lb sa sb pa pb ca cb w (Lib.hid hEa) (Lib.hid hEb) na nb (Lib.hid qa) (Lib.hid qb) (Lib.hid fa) (Lib.hid fb) (Lib.hid oa) (Lib.hid ob) (Lib.hid oc) _ _ _ (Lib.hid l1) (Lib.hid l2) (Lib.hid l3) (Lib.hid rfl) (Lib.hid rfl) (Lib.hid rfl) (Lib.hid (hdR_bad oc))
        | true =>
          have oc : (la ++ lb).all okP = true := by rw [List.all_append, oa, ob]; rfl
          exact parts_ok d (Lib.hid hd) la lb sa sb pa pb ca cb w (Lib.hid hEa) (Lib.hid hEb) na nb (Lib.hid qa) (Lib.hid qb) (Lib.hid fa) (Lib.hid fb) (Lib.hid oa) (Lib.hid ob) (Lib.hid oc) _ _ _ (Lib.hid l1) (Lib.hid l2) (Lib.hid l3) (Lib.hid rfl) (Lib.hid rfl) (Lib.hid rfl) (Lib.hid (by rw [hdR_ok oc, hdR_ok oa, hdR_ok ob]; unfold headD; rw [List.foldl_append]))


set_option maxRecDepth 100000 in
theorem lifted (os : Os) (started : os.Started) (H : Type) (enc : TypeId × Value → H) :
    ReturnsInHanded {} Try.checked os 4 .any (Rows.chainPartsSpec.pre6 enc Try.prog Try.f4 Rows.chainPartsRow.domain false) (Rows.chainPartsSpec.post enc Try.prog Try.f4 false true false false) := by
  refine returnsInHanded_of_change (C := Try.checked) own started (by kernel_rfl) Try.func4
    (ChangeSpec.witness6 (enc := enc) (C := Try.checked) false ⟨#[], #[.agg #[.int .u8 0, .int .u8 0, .int .u8 0, .int .u8 0, .int .u8 0, .int .u8 0, .int .u8 0, .int .u8 0, .int .u8 0, .int .u8 0, .int .u8 0, .int .u8 0, .int .u8 0, .int .u8 0, .int .u8 0, .int .u8 0, .int .u8 0, .int .u8 0, .int .u8 0, .int .u8 0, .int .u8 0, .int .u8 0, .int .u8 0, .int .u8 0, .int .u8 0, .int .u8 0, .int .u8 0, .int .u8 0, .int .u8 0, .int .u8 0, .int .u8 0, .int .u8 0], .slice none 0 0, .slice none 0 0], []⟩ 8 (by kernel_rfl) (by kernel_rfl) (by kernel_rfl) (by kernel_rfl)) ?_
  intro W base args ds gs before hval0 hW hcnd _
  have hval : ∀ (j : Nat) t v, Try.f4.params[j]? = some t → args[j]? = some v → Value.okWide Try.prog W .any base t v := hval0
  have hW' := hW
  obtain ⟨p, q, hA0, hV, rfl, hfz, hnd⟩ := hW
  have hA : DataW.TrodAll enc Try.prog W 0 (fun _ => true) true Try.f4.params.toList args.toList ds p := hA0
  rw [Try.params4] at hA hval
  obtain ⟨v0, vs0, d0, ds0, p0, q0, hargs, rfl, rfl, h0, r0⟩ := trodAll_cons hA
  obtain ⟨v1, vs1, d1, ds1, p1, q1, rfl, rfl, rfl, h1, r1⟩ := trodAll_cons r0
  obtain ⟨v2, vs2, d2, ds2, p2, q2, rfl, rfl, rfl, h2, r2⟩ := trodAll_cons r1
  obtain ⟨rfl, rfl, rfl⟩ := trodAll_nil r2
  obtain rfl : args = #[v0, v1, v2] := by cases args; simp_all
  obtain ⟨rfl, rfl⟩ := trodVars_none hV
  obtain ⟨a0, rfl, rfl, rfl, w0⟩ := open_dig (hval 0 26 v0 rfl rfl) h0
  obtain ⟨a1, len1, cap1, rfl⟩ := okWide_slice Try.underlying22 (hval 1 22 v1 rfl rfl)
  have k1 := h1
  have lt1 : ∀ x ∈ p1, x.block < W.heap.size := by obtain ⟨m, hm⟩ := k1; exact DataW.trod_lt m _ _ _ hm
  obtain ⟨L1, ln1, E1, wf1, mx1⟩ : ∃ l : List Ev, l.length = len1 ∧ EvsAt W.heap.size W a1 l ∧ (∀ e ∈ l, e.wf ∧ e.name.length ≤ maxLen) ∧ len1 ≤ maxLen := by
    obtain ⟨fuel, hf⟩ := h1
    exact open_evs hf
  have nl1 : a1 = none → len1 = 0 ∧ cap1 = 0 := by
    obtain ⟨fuel, hf⟩ := h1
    exact open_nil hf
  subst ln1
  obtain ⟨a2, len2, cap2, rfl⟩ := okWide_slice Try.underlying22 (hval 2 22 v2 rfl rfl)
  have k2 := h2
  have lt2 : ∀ x ∈ p2, x.block < W.heap.size := by obtain ⟨m, hm⟩ := k2; exact DataW.trod_lt m _ _ _ hm
  obtain ⟨L2, ln2, E2, wf2, mx2⟩ : ∃ l : List Ev, l.length = len2 ∧ EvsAt W.heap.size W a2 l ∧ (∀ e ∈ l, e.wf ∧ e.name.length ≤ maxLen) ∧ len2 ≤ maxLen := by
    obtain ⟨fuel, hf⟩ := h2
    exact open_evs hf
  have nl2 : a2 = none → len2 = 0 ∧ cap2 = 0 := by
    obtain ⟨fuel, hf⟩ := h2
    exact open_nil hf
  subst ln2
  clear hA0 hval0
  refine (walk a0 L1 a1 cap1 L2 a2 cap2 W w0 E1 wf1 mx1 nl1 E2 wf2 mx2 nl2).mono fun e W' ⟨he, bel⟩ => ?_
  subst he
  exact ⟨_, rfl, _, _, _, [], _, [], hW', trodAll_mk1 (shut_bool Try.underlying4 _), (trodAll_cons_mk (shut_dig w0) (trodAll_cons_mk (Below.trod laidOut (by kernel_rfl) (of_decide_eq_true (by kernel_rfl)) k1 bel lt1) (trodAll_cons_mk (Below.trod laidOut (by kernel_rfl) (of_decide_eq_true (by kernel_rfl)) k2 bel lt2) trodAll_mk0))), rfl, bel.frame _, fun h => by cases h⟩

theorem over : Rows.chainPartsRow.holds Try.pinned (OpenSpec.ofChange Rows.chainPartsSpec) :=
  OpenClaim.holds_of_wide 4 Try.f4 rfl rfl rfl rfl rfl rfl rfl ⟨rfl, rfl, rfl, rfl, rfl⟩ rfl rfl rfl rfl rfl (by kernel_rfl) Try.func4 (by kernel_rfl)
    (of_decide_eq_true (by kernel_rfl)) (by unfold Func.isWrapper; first | (rw [if_pos (by decide +kernel)]; kernel_rfl) | (rw [if_neg (by decide +kernel)]; exact ⟨rfl, rfl⟩))
    (fun os started H enc _ => lifted os started H enc)

/-- The given statement. -/
theorem chainParts_proved : Rows.ChainPartsSaid :=
  over
#print axioms chainParts_proved
end Go.Proofs.Ytfilolmbppjbjaa.chainParts
