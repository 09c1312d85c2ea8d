/-
  For every two texts NameQuotes returns true: what is quoted is unquoted again, what is shown has no rune below 32 and no broken byte, and two texts are shown alike only if they are one.
  Conditions: none beyond the given statement's own.
-/
import Derived.Test.YtjpdbdeecglabaaRows
import Derived.Test.YtjpdbdeecglabaaWorks
import Derived.Test.YtjpdbdeecglabaaRvalid
import Derived.WalkKit
import Derived.ProofKit
import Derived.OpenShut
import Derived.ShutString
import Derived.ChangeOld
import Derived.Below
namespace Go.Proofs.Ytjpdbdeecglabaa.nameQuotes
open Go.ChangeShapes Go.WideShapes Go.ChangeAt Go.RowKit
open Go.ChangeMaps (open_string shut_string)
set_option linter.unusedVariables false

theorem own : ownKnob Try.prog.godebug = none := by kernel_rfl

theorem pp_len (p : Nat) (h : okp p) : ((pp p).flatMap enc).length ≤ 4 := by
  unfold pp
  split
  · rename_i k
    simp [List.flatMap_cons, enc_low 92 (by omega), enc_low p (by omega)]
  split
  · simp [List.flatMap_cons, enc_low 92 (by omega), enc_low 110 (by omega)]
  split
  · rename_i k
    have hl := low_lt p h k
    have r1 := dg_rng (low p / 16) (by omega)
    have r2 := dg_rng (low p % 16) (by omega)
    simp [List.flatMap_cons, enc_low 92 (by omega), enc_low 120 (by omega), enc_low (dg (low p / 16)) (by omega), enc_low (dg (low p % 16)) (by omega)]
  · have := enc_length p
    simp [List.flatMap_cons]
    omega
theorem pps_len (ps : List Nat) (h : ∀ p ∈ ps, okp p) : ((ps.flatMap pp).flatMap enc).length ≤ 4 * ps.length := by
  induction ps with
  | nil => simp
  | cons p ps ih =>
    have h1 := pp_len p (h p List.mem_cons_self)
    have h2 := ih (fun q hq => h q (List.mem_cons_of_mem _ hq))
    rw [List.flatMap_cons, List.flatMap_append, List.length_append, List.length_cons]
    omega
theorem quote_most (l : List UInt8) : (quote l).length ≤ 2 + 4 * l.length := by
  have h1 := pps_len (pl l) (pl_okp l)
  have h2 := pl_le l
  rw [quote_eq, List.length_cons, List.length_append]
  unfold body
  simp only [List.length_cons, List.length_nil]
  omega

set_option maxHeartbeats 1000000 in
set_option maxRecDepth 100000 in
theorem walk (a0 a1 : ByteArray) (w0 : a0.size ≤ maxLen) (w1 : a1.size ≤ maxLen) (w : World) :
    Calls Try.prog 4 #[.string a0, .string a1] w fun e w' => e = .returned (.bool true) ∧ Below w.heap.size w w' := by
  by_cases k0 : 200 < a0.size
  · have t0 : decide ((200 : Int) < (a0.size : Int)) = true := by simp; omega
    clear w0 w1 k0
    go_enter Try.func4, Try.ntmps4
    go_wp2_with fail
    refine (works_any _).mono ?_
    rintro e v1 ⟨rfl, h1⟩
    go_wp2_with fail
    go_ret
    exact ⟨rfl, h1⟩
  have t0 : decide ((200 : Int) < (a0.size : Int)) = false := by simp; omega
  by_cases k1 : 200 < a1.size
  · have t1 : decide ((200 : Int) < (a1.size : Int)) = true := by simp; omega
    clear w0 w1 k0 k1
    go_enter Try.func4, Try.ntmps4
    go_wp2_with fail
    refine (works_any _).mono ?_
    rintro e v1 ⟨rfl, h1⟩
    go_wp2_with fail
    go_ret
    exact ⟨rfl, h1⟩
  have t1 : decide ((200 : Int) < (a1.size : Int)) = false := by simp; omega
  have c1 := Lib.hid (fun v => quote_any a0 (by omega) v)
  have c4 := Lib.hid (fun v => quote_any a1 (by omega) v)
  obtain ⟨q, hq⟩ : ∃ q : ByteArray, q = ⟨(quote (li a0)).toArray⟩ := ⟨_, rfl⟩
  obtain ⟨p, hp⟩ : ∃ p : ByteArray, p = ⟨(quote (li a1)).toArray⟩ := ⟨_, rfl⟩
  have hql : li q = quote (li a0) := by rw [hq, li_mk]
  have hpl : li p = quote (li a1) := by rw [hp, li_mk]
  rw [← hq] at c1
  rw [← hp] at c4
  have hqs : q.size ≤ 802 := by
    have := quote_most (li a0)
    rw [li_len] at this
    rw [← li_len, hql]; omega
  have c2 := Lib.hid (fun v => unquote_any q (by omega) v)
  rw [hql, unq_quote, mk_li] at c2
  have c3 := Lib.hid (fun v => runes_any q (by omega) v)
  rw [hql, pl_quote] at c3
  have hok := Lib.hid (shown_ok (li a0))
  have hsl : (shown (li a0)).length ≤ 802 := by
    have := pl_le q.data.toList
    rw [show pl q.data.toList = shown (li a0) by rw [show q.data.toList = quote (li a0) from hql, pl_quote]] at this
    have h2 : q.data.toList.length = q.size := li_len q
    omega
  have heq : (q.toList == p.toList) = (a0.toList == a1.toList) := by
    rw [Bool.eq_iff_iff, beq_iff_eq, beq_iff_eq, toList_data, toList_data, toList_data, toList_data]
    constructor
    · intro h
      exact quote_inj _ _ (by rw [← hql, ← hpl]; exact h)
    · intro h
      show li q = li p
      rw [hql, hpl, show li a0 = li a1 from h]
  have heq' := Lib.hid heq
  clear hq hp hql hpl heq
  revert c3 hok hsl
  generalize shown (li a0) = L
  intro c3 hok hsl
  clear w0 w1 k0 k1 hqs
  go_enter Try.func4, Try.ntmps4
  go_wp2_with fail
  refine (works_any _).mono ?_
  rintro e v1 ⟨rfl, h1⟩
  have B1 := Lib.hid h1
  clear h1
  go_wp2_with fail
  refine (c1.out _).mono ?_
  rintro e v2 ⟨rfl, h2⟩
  have B2 := Lib.hid (B1.out.trans (h2.mono B1.out.size))
  clear h2 B1
  go_wp2_with fail
  refine (c2.out _).mono ?_
  rintro e v3 ⟨rfl, h3⟩
  have B3 := Lib.hid (B2.out.trans (h3.mono B2.out.size))
  clear h3 B2
  go_wp2_with fail
  refine (c3.out _).mono ?_
  rintro e v4 ⟨v, rfl, o4, h4⟩
  have B4 := Lib.hid (B3.out.trans (h4.mono B3.out.size))
  obtain ⟨A, n, rfl, P⟩ := pls_gen o4
  have P' := Lib.hid P
  clear h4 B3 o4 P c1 c2 c3
  go_wp2_with fail
  go_loop [10] (fun i => ∃ k : Nat, k ≤ L.length ∧ i = .int .i64 (k : Int)) (fun i => L.length - (intOf i).toNat)
  case atStart => exact ⟨0, by omega, rfl⟩
  case round =>
    obtain ⟨k, hk, rfl⟩ := hrel
    by_cases hlt : k < L.length
    · obtain ⟨g, rfl, pp⟩ := P'.out (fun e => by rw [e] at hlt; simp at hlt)
      have x := pp.at_ k hlt
      have hr := hok.out L[k] (List.getElem_mem hlt)
      have hlt' : (k : Int) < (L.length : Int) := by omega
      clear pp
      revert x hr
      generalize L[k] = r
      intro x hr
      have u1 : decide ((r : Int) < 32) = false := by simp; omega
      have u2 : decide ((1114112 : Int) ≤ (r : Int)) = false := by have := hr.1.1; simp; omega
      clear hr
      go_wp2_with fail
      go_round
      case rel => exact ⟨k + 1, by omega, by go_num⟩
      case measure => simp [intOf]; omega
    · have hlt2 : ¬ (k : Int) < (L.length : Int) := by omega
      have r1 : (a0.toList == a0.toList) = true := by simp
      obtain ⟨R, hR⟩ : ∃ R, (a0.toList == a1.toList) = R := ⟨_, rfl⟩
      have hR2 : (q.toList == p.toList) = R := by rw [heq'.out]; exact hR
      clear hok P'
      go_wp2_with fail
      refine (c4.out _).mono ?_
      rintro e v5 ⟨rfl, h5⟩
      have B5 := Lib.hid (B4.out.trans (h5.mono B4.out.size))
      clear h5
      go_wp2_with fail
      go_ret
      exact ⟨by cases R <;> rfl, B5.out⟩

set_option maxRecDepth 100000 in
theorem lifted (os : Os) (started : os.Started) (H : Type) (enc : TypeId × Value → H) :
    ReturnsInHanded {} Try.checked os 4 .any (Rows.nameQuotesSpec.pre6 enc Try.prog Try.f4 Rows.nameQuotesRow.domain false) (Rows.nameQuotesSpec.post enc Try.prog Try.f4 false true false false) := by
  refine returnsInHanded_of_change (C := Try.checked) own started (by kernel_rfl) Try.func4
    (ChangeSpec.witness6 (enc := enc) (C := Try.checked) false ⟨#[], #[.string ByteArray.empty, .string ByteArray.empty], []⟩ 8 (by kernel_rfl) (by kernel_rfl) (by kernel_rfl) (by kernel_rfl)) ?_
  intro W base args ds gs before hval0 hW hcnd _
  have hval : ∀ (j : Nat) t v, Try.f4.params[j]? = some t → args[j]? = some v → Value.okWide Try.prog W .any base t v := hval0
  have hW' := hW
  obtain ⟨p, q, hA0, hV, rfl, hfz, hnd⟩ := hW
  have hA : DataW.TrodAll enc Try.prog W 0 (fun _ => true) true Try.f4.params.toList args.toList ds p := hA0
  rw [Try.params4] at hA hval
  obtain ⟨v0, vs0, d0, ds0, p0, q0, hargs, rfl, rfl, h0, r0⟩ := trodAll_cons hA
  obtain ⟨v1, vs1, d1, ds1, p1, q1, rfl, rfl, rfl, h1, r1⟩ := trodAll_cons r0
  obtain ⟨rfl, rfl, rfl⟩ := trodAll_nil r1
  obtain rfl : args = #[v0, v1] := by cases args; simp_all
  obtain ⟨rfl, rfl⟩ := trodVars_none hV
  obtain ⟨a0, rfl, rfl, rfl, w0⟩ := open_string Try.underlying9 (hval 0 9 v0 rfl rfl) h0
  obtain ⟨a1, rfl, rfl, rfl, w1⟩ := open_string Try.underlying9 (hval 1 9 v1 rfl rfl) h1
  clear hA0 hval0
  simp only [List.append_nil] at hW'
  refine (walk a0 a1 w0 w1 W).mono fun e W' ⟨he, bel⟩ => ?_
  subst he
  exact ⟨_, rfl, _, _, _, [], [], [], hW', (trodAll_cons_mk (shut_bool Try.underlying4 _) trodAll_mk0), (trodAll_cons_mk (shut_string Try.underlying9 w0) (trodAll_cons_mk (shut_string Try.underlying9 w1) trodAll_mk0)), rfl, bel.frame _, fun h => by cases h⟩

theorem over : Rows.nameQuotesRow.holds Try.pinned (OpenSpec.ofChange Rows.nameQuotesSpec) :=
  OpenClaim.holds_of_wide 4 Try.f4 rfl rfl rfl rfl rfl rfl rfl ⟨rfl, rfl, rfl, rfl, rfl⟩ rfl rfl rfl rfl rfl (by kernel_rfl) Try.func4 (by kernel_rfl)
    (of_decide_eq_true (by kernel_rfl)) (by unfold Func.isWrapper; first | (rw [if_pos (by decide +kernel)]; kernel_rfl) | (rw [if_neg (by decide +kernel)]; exact ⟨rfl, rfl⟩))
    (fun os started H enc _ => lifted os started H enc)

/-- The given statement. -/
theorem nameQuotes_proved : Rows.NameQuotesSaid :=
  over
#print axioms nameQuotes_proved
end Go.Proofs.Ytjpdbdeecglabaa.nameQuotes
