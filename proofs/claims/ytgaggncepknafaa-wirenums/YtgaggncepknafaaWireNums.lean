/-
  For every number and text WireNums returns true: the bytes of any number, and the number that any bytes begin with, are what the document says.
  Conditions: none beyond the given statement's own.
-/
import Derived.Test.YtgaggncepknafaaRows
import Derived.Test.YtgaggncepknafaaWorks
import Derived.Test.YtgaggncepknafaaFacts
import Derived.Test.YtgaggncepknafaaRgetn
import Derived.WalkKit
import Derived.ProofKit
import Derived.OpenShut
import Derived.ShutString
import Derived.ChangeOld
import Derived.Below
namespace Go.Proofs.Ytgaggncepknafaa.wireNums
open Go.ChangeShapes Go.WideShapes Go.ChangeAt Go.RowKit
open Go.ChangeMaps (open_string shut_string)
set_option linter.unusedVariables false

theorem own : ownKnob Try.prog.godebug = none := by kernel_rfl

theorem ent14 : ∀ args w, (callFunc 14 args).run Try.prog w = .ok (.enter 14 args) w := enters_of Try.func14 (by kernel_rfl) rfl
/-- What is known of the frame at the last statement. -/
def fl (a0 m : Int) (r1 : ByteArray) (p : Bool) : List (Nat × Value) :=
  [(0, .int .i64 a0), (5, .bool true), (6, .int .i64 m), (7, .string r1), (8, .bool p), (9, .int .i64 m), (10, .string r1), (11, .bool p)]
theorem nums (l : List UInt8) : ∃ m r p, nR l = .tuple #[.int .i64 m, .string r, .bool p] := by
  cases h : gn l with
  | none => exact ⟨_, _, _, nR_none h⟩
  | some q => exact ⟨_, _, _, nR_some (n := q.1) (r := q.2) h⟩
set_option maxHeartbeats 1000000 in
set_option maxRecDepth 100000 in
theorem walk (a0 : Int) (a1 : ByteArray) (w0 : (Lit.int .i64 a0).wf = true) (w1 : a1.size ≤ maxLen) (w : World) :
    Calls Try.prog 3 #[.int .i64 a0, .string a1] w fun e w' => e = .returned (.bool true) ∧ Below w.heap.size w w' := by
  by_cases k0 : 300 < a1.size
  · have t0 : decide ((300 : Int) < (a1.size : Int)) = true := by simp; omega
    clear w0 w1 k0
    go_enter Try.func3, Try.ntmps3
    go_wp2_with fail
    refine (works_any _).mono ?_
    rintro e v1 ⟨rfl, h1⟩
    go_wp2_with fail
    go_ret
    exact ⟨rfl, h1⟩
  · have t0 : decide ((300 : Int) < (a1.size : Int)) = false := by simp; omega
    have hb := bounds_i64 w0
    obtain ⟨m, r1, p, e1⟩ := nums (li a1)
    have c1 := Lib.hid (fun v => getNum_any a1 (by omega) v)
    have c2 := Lib.hid (fun v => rgetNum_any a1 (by omega) v)
    rw [e1] at c1 c2
    have c3 : Hid (∀ v, Calls Try.prog 14 #[.int .i64 a0] v fun e v' => e = .returned (.string (mk (num (clI a0)))) ∧ Below v.heap.size v v') := fun v => num_any a0 hb.1 hb.2 v
    have c4 := Lib.hid (fun v => rnum_any a0 v)
    revert c3 c4
    generalize mk (num (clI a0)) = N1
    intro c3 c4
    clear w0 w1 k0 e1 hb
    go_enter Try.func3, Try.ntmps3
    go_wp2_with fail
    refine (works_any _).mono ?_
    rintro e v1 ⟨rfl, h1⟩
    have B1 := Lib.hid h1
    clear h1
    go_wp2_with fail
    refine (c1.out _).mono ?_
    rintro e v2 ⟨rfl, h2⟩
    have B2 := Lib.hid (below_on B1.out h2)
    clear h2 B1
    go_wp2_with fail
    refine (c2.out _).mono ?_
    rintro e v3 ⟨rfl, h3⟩
    have B3 := Lib.hid (below_on B2.out h3)
    clear h3 B2
    simp only []
    repeat ((fail_if_success (with_reducible refine wp_region_list ?_)); (first | go_values | go_skip | go_guarded | go_step | go_upon))
    refine wp_region_still (fun v => Below v3.heap.size v3 v) (Below.refl _ _) ?_
    try simp only [List.append_eq, List.cons_append, List.nil_append]
    refine (?_ : WQ _ _ _ _ 54 _ (fl a0 m r1 p)) _ (Fr.of rfl rfl ⟨rfl, rfl, rfl, rfl, rfl, rfl, rfl, rfl, trivial⟩)
    refine wq_move (.free rfl) 31 rfl (by decide) _ (.inl rfl) (.bool true) rfl ?_
    refine wq_move (.free rfl) 32 rfl (by decide) _ (.inl rfl) (.bool true) rfl ?_
    refine wq_move (.on 1 32 true rfl rfl rfl) 33 rfl (by decide) _ (.inl rfl) (.int .i64 a0) rfl ?_
    refine wq_call (.on 1 32 true rfl rfl rfl) 34 rfl (by decide) 14 _ _ rfl ent14 [.int .i64 a0] rfl (.string N1) (below_call c3.out) ?_
    refine wq_move (.on 1 32 true rfl rfl rfl) 35 rfl (by decide) _ (.inl rfl) (.int .i64 a0) rfl ?_
    refine wq_call (.on 1 32 true rfl rfl rfl) 36 rfl (by decide) 15 _ _ rfl ent15 [.int .i64 a0] rfl (.string N1) (below_call c4.out) ?_
    refine wq_seq (.on 1 32 true rfl rfl rfl) 37 rfl (by decide) _ _ _ _ rfl (N1) (N1) rfl rfl true (by simp) ?_
    refine wq_pick (.free rfl) 38 rfl (by decide) _ _ _ rfl true rfl (.bool true) rfl ?_
    refine wq_move (.free rfl) 39 rfl (by decide) _ (.inl rfl) (.bool true) rfl ?_
    refine wq_move (.on 8 39 true rfl rfl rfl) 40 rfl (by decide) _ (.inl rfl) (.int .i64 m) rfl ?_
    refine wq_move (.on 8 39 true rfl rfl rfl) 41 rfl (by decide) _ (.inl rfl) (.int .i64 m) rfl ?_
    refine wq_icmp (.on 8 39 true rfl rfl rfl) 42 rfl (by decide) .eql _ _ _ _ rfl .i64 (m) (m) rfl rfl true (by simp) ?_
    refine wq_pick (.free rfl) 43 rfl (by decide) _ _ _ rfl true rfl (.bool true) rfl ?_
    refine wq_move (.free rfl) 44 rfl (by decide) _ (.inl rfl) (.bool true) rfl ?_
    refine wq_move (.on 13 44 true rfl rfl rfl) 45 rfl (by decide) _ (.inl rfl) (.string r1) rfl ?_
    refine wq_move (.on 13 44 true rfl rfl rfl) 46 rfl (by decide) _ (.inl rfl) (.string r1) rfl ?_
    refine wq_seq (.on 13 44 true rfl rfl rfl) 47 rfl (by decide) _ _ _ _ rfl (r1) (r1) rfl rfl true (by simp) ?_
    refine wq_pick (.free rfl) 48 rfl (by decide) _ _ _ rfl true rfl (.bool true) rfl ?_
    refine wq_move (.free rfl) 49 rfl (by decide) _ (.inl rfl) (.bool true) rfl ?_
    refine wq_move (.on 18 49 true rfl rfl rfl) 50 rfl (by decide) _ (.inl rfl) (.bool p) rfl ?_
    refine wq_move (.on 18 49 true rfl rfl rfl) 51 rfl (by decide) _ (.inl rfl) (.bool p) rfl ?_
    refine wq_beq (.on 18 49 true rfl rfl rfl) 52 rfl (by decide) _ _ _ _ rfl (p) (p) rfl rfl Try.underlying4 true (by simp) ?_
    refine wq_pick (.free rfl) 53 rfl (by decide) _ _ _ rfl true rfl (.bool true) rfl ?_
    refine wq_move (.free rfl) 4 rfl (by decide) _ (.inr rfl) (.bool true) rfl ?_
    refine wq_nil (fun a ha => ?_)
    intro v4 h4
    have hr : a.tmps.getD 4 undef = .bool true := ha.has 4 _ rfl
    have hdf := ha.none
    clear ha
    go_wp2_with fail
    refine bodyPost_tmp 4 _ rfl hr hdf ?_
    exact ⟨rfl, below_on B3.out h4⟩

set_option maxRecDepth 100000 in
theorem lifted (os : Os) (started : os.Started) (H : Type) (enc : TypeId × Value → H) :
    ReturnsInHanded {} Try.checked os 3 .any (Rows.wireNumsSpec.pre6 enc Try.prog Try.f3 Rows.wireNumsRow.domain false) (Rows.wireNumsSpec.post enc Try.prog Try.f3 false true false false) := by
  refine returnsInHanded_of_change (C := Try.checked) own started (by kernel_rfl) Try.func3
    (ChangeSpec.witness6 (enc := enc) (C := Try.checked) false ⟨#[], #[.int .i64 0, .string ByteArray.empty], []⟩ 8 (by kernel_rfl) (by kernel_rfl) (by kernel_rfl) (by kernel_rfl)) ?_
  intro W base args ds gs before hval0 hW hcnd _
  have hval : ∀ (j : Nat) t v, Try.f3.params[j]? = some t → args[j]? = some v → Value.okWide Try.prog W .any base t v := hval0
  have hW' := hW
  obtain ⟨p, q, hA0, hV, rfl, hfz, hnd⟩ := hW
  have hA : DataW.TrodAll enc Try.prog W 0 (fun _ => true) true Try.f3.params.toList args.toList ds p := hA0
  rw [Try.params3] at hA hval
  obtain ⟨v0, vs0, d0, ds0, p0, q0, hargs, rfl, rfl, h0, r0⟩ := trodAll_cons hA
  obtain ⟨v1, vs1, d1, ds1, p1, q1, rfl, rfl, rfl, h1, r1⟩ := trodAll_cons r0
  obtain ⟨rfl, rfl, rfl⟩ := trodAll_nil r1
  obtain rfl : args = #[v0, v1] := by cases args; simp_all
  obtain ⟨rfl, rfl⟩ := trodVars_none hV
  obtain ⟨a0, rfl, rfl, rfl, w0⟩ := open_int Try.underlying3 (hval 0 3 v0 rfl rfl) h0
  obtain ⟨a1, rfl, rfl, rfl, w1⟩ := open_string Try.underlying9 (hval 1 9 v1 rfl rfl) h1
  clear hA0 hval0
  simp only [List.append_nil] at hW'
  refine (walk a0 a1 w0 w1 W).mono fun e W' ⟨he, bel⟩ => ?_
  subst he
  exact ⟨_, rfl, _, _, _, [], [], [], hW', (trodAll_cons_mk (shut_bool Try.underlying4 _) trodAll_mk0), (trodAll_cons_mk (shut_int Try.underlying3 w0) (trodAll_cons_mk (shut_string Try.underlying9 w1) trodAll_mk0)), rfl, bel.frame _, fun h => by cases h⟩

theorem over : Rows.wireNumsRow.holds Try.pinned (OpenSpec.ofChange Rows.wireNumsSpec) :=
  OpenClaim.holds_of_wide 3 Try.f3 rfl rfl rfl rfl rfl rfl rfl ⟨rfl, rfl, rfl, rfl, rfl⟩ rfl rfl rfl rfl rfl (by kernel_rfl) Try.func3 (by kernel_rfl)
    (of_decide_eq_true (by kernel_rfl)) (by unfold Func.isWrapper; first | (rw [if_pos (by decide +kernel)]; kernel_rfl) | (rw [if_neg (by decide +kernel)]; exact ⟨rfl, rfl⟩))
    (fun os started H enc _ => lifted os started H enc)

/-- The given statement. -/
theorem wireNums_proved : Rows.WireNumsSaid :=
  over
#print axioms wireNums_proved
end Go.Proofs.Ytgaggncepknafaa.wireNums
