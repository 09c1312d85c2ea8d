/-
  For every two texts NameJoins returns true: of two names, one behind the other, what is shown is what is shown of both, joined.
  Conditions: none beyond the given statement's own.
-/
import Derived.Test.YtjpdbdeecglabaaRows
import Derived.Test.YtjpdbdeecglabaaWorks
import Derived.WalkKit
import Derived.ProofKit
import Derived.OpenShut
import Derived.ShutString
import Derived.ChangeOld
import Derived.Below
namespace Go.Proofs.Ytjpdbdeecglabaa.nameJoins
open Go.ChangeShapes Go.WideShapes Go.ChangeAt Go.RowKit
open Go.ChangeMaps (open_string shut_string)
set_option linter.unusedVariables false

theorem own : ownKnob Try.prog.godebug = none := by kernel_rfl

theorem pp_len (p : Nat) (h : okp p) : ((pp p).flatMap enc).length ≤ 4 := by
  unfold pp
  split
  · rename_i k
    simp [List.flatMap_cons, enc_low 92 (by omega), enc_low p (by omega)]
  split
  · simp [List.flatMap_cons, enc_low 92 (by omega), enc_low 110 (by omega)]
  split
  · rename_i k
    have hl := low_lt p h k
    have r1 := dg_rng (low p / 16) (by omega)
    have r2 := dg_rng (low p % 16) (by omega)
    simp [List.flatMap_cons, enc_low 92 (by omega), enc_low 120 (by omega), enc_low (dg (low p / 16)) (by omega), enc_low (dg (low p % 16)) (by omega)]
  · have := enc_length p
    simp [List.flatMap_cons]
    omega
theorem pps_len (ps : List Nat) (h : ∀ p ∈ ps, okp p) : ((ps.flatMap pp).flatMap enc).length ≤ 4 * ps.length := by
  induction ps with
  | nil => simp
  | cons p ps ih =>
    have h1 := pp_len p (h p List.mem_cons_self)
    have h2 := ih (fun q hq => h q (List.mem_cons_of_mem _ hq))
    rw [List.flatMap_cons, List.flatMap_append, List.length_append, List.length_cons]
    omega
theorem quote_most (l : List UInt8) : (quote l).length ≤ 2 + 4 * l.length := by
  have h1 := pps_len (pl l) (pl_okp l)
  have h2 := pl_le l
  rw [quote_eq, List.length_cons, List.length_append]
  unfold body
  simp only [List.length_cons, List.length_nil]
  omega

theorem body_app (a b : List UInt8) (h : whole a) : body (a ++ b) = body a ++ body b := by
  unfold body
  rw [pl_app a b h, List.flatMap_append, List.flatMap_append]
theorem join_eq (a b : ByteArray) (h : vld (li a) = true) (x y q : ByteArray) (hx : li x = quote (li a)) (hy : li y = quote (li b)) (hq : li q = quote (li (a ++ b))) :
    q = x.extract 0 (x.size - 1) ++ y.extract 1 y.size := by
  refine li_inj ?_
  rw [hq, li_app, li_app, li_extract, li_cut _ _ _ (by omega), List.drop_zero, Nat.sub_zero, ← li_len x, hx, hy, quote_eq, quote_eq, quote_eq, body_app _ _ (vld_whole h)]
  rw [show (34 :: (body (li b) ++ [34])).drop 1 = body (li b) ++ [34] from rfl]
  rw [show (34 :: (body (li a) ++ [34])).length - 1 = (34 :: body (li a)).length by simp]
  rw [show 34 :: (body (li a) ++ [34]) = (34 :: body (li a)) ++ [34] from rfl, List.take_append_of_le_length (Nat.le_refl _), List.take_length]
  simp

theorem wpQuiet_to {P : Program} {ops : Array Oper} {C : World → Prop} {Q : Act → Prop} {a : Act} {o : Oper} {rest : List Oper} (hw : Region.wanted o (yielded ops a.tmps) = true) (t : TypeId) (x y : Operand) (ho : o.op = .slice t x none (some y) none) (s : ByteArray) (n : Nat) (hx : a.eval x = .string s) (hy : a.eval y = .int .i64 (n : Int)) (hn : n ≤ s.size) (ht : P.underlying t = some .string)
    (h : wpQuiet P ops C Q rest (a.put o.dst (.string (s.extract 0 n)))) : wpQuiet P ops C Q (o :: rest) a :=
  wpQuiet_val hw _ (fun w _ => by
    have h1 : 0 ≤ (n : Int) ∧ (n : Int) ≤ (s.size : Int) := ⟨by omega, by omega⟩
    unfold execOp
    simp only [ho, Option.map_some, Option.map_none, hx, hy]
    rw [Sem.run_bind, run_sliceAt_string _ _ _ _ _ _ ht, run_slice_string_to_if w t s .i64 (n : Int) ht, if_pos h1]
    simp) h

theorem ent17 : ∀ args w, (callFunc 17 args).run Try.prog w = .ok (.enter 17 args) w := enters_of Try.func17 (by kernel_rfl) rfl

set_option maxHeartbeats 1000000 in
set_option maxRecDepth 100000 in
theorem walk (a0 a1 : ByteArray) (w0 : a0.size ≤ maxLen) (w1 : a1.size ≤ maxLen) (w : World) :
    Calls Try.prog 7 #[.string a0, .string a1] w fun e w' => e = .returned (.bool true) ∧ Below w.heap.size w w' := by
  by_cases k0 : 200 < a0.size
  · have t0 : decide ((200 : Int) < (a0.size : Int)) = true := by simp; omega
    clear w0 w1 k0
    go_enter Try.func7, Try.ntmps7
    go_wp2_with fail
    refine (works_any _).mono ?_
    rintro e v1 ⟨rfl, h1⟩
    go_wp2_with fail
    go_ret
    exact ⟨rfl, h1⟩
  have t0 : decide ((200 : Int) < (a0.size : Int)) = false := by simp; omega
  by_cases k1 : 200 < a1.size
  · have t1 : decide ((200 : Int) < (a1.size : Int)) = true := by simp; omega
    clear w0 w1 k0 k1
    go_enter Try.func7, Try.ntmps7
    go_wp2_with fail
    refine (works_any _).mono ?_
    rintro e v1 ⟨rfl, h1⟩
    go_wp2_with fail
    go_ret
    exact ⟨rfl, h1⟩
  have t1 : decide ((200 : Int) < (a1.size : Int)) = false := by simp; omega
  have d1 := Lib.hid (fun v => valid_any a0 (by omega) v)
  have d2 := Lib.hid (fun v => valid_any a1 (by omega) v)
  cases hv0 : vld (li a0)
  · rw [hv0] at d1
    clear w0 w1 k0 k1 hv0
    go_enter Try.func7, Try.ntmps7
    go_wp2_with fail
    refine (works_any _).mono ?_
    rintro e v1 ⟨rfl, h1⟩
    have B1 := Lib.hid h1
    clear h1
    go_wp2_with fail
    refine (d1.out _).mono ?_
    rintro e v2 ⟨rfl, h2⟩
    have B2 := Lib.hid (B1.out.trans (h2.mono B1.out.size))
    clear h2 B1
    go_wp2_with fail
    go_ret
    exact ⟨rfl, B2.out⟩
  rw [hv0] at d1
  cases hv1 : vld (li a1)
  · rw [hv1] at d2
    clear w0 w1 k0 k1 hv0 hv1
    go_enter Try.func7, Try.ntmps7
    go_wp2_with fail
    refine (works_any _).mono ?_
    rintro e v1 ⟨rfl, h1⟩
    have B1 := Lib.hid h1
    clear h1
    go_wp2_with fail
    refine (d1.out _).mono ?_
    rintro e v2 ⟨rfl, h2⟩
    have B2 := Lib.hid (B1.out.trans (h2.mono B1.out.size))
    clear h2 B1
    go_wp2_with fail
    refine (d2.out _).mono ?_
    rintro e v3 ⟨rfl, h3⟩
    have B3 := Lib.hid (B2.out.trans (h3.mono B2.out.size))
    clear h3 B2
    go_wp2_with fail
    go_ret
    exact ⟨rfl, B3.out⟩
  rw [hv1] at d2
  have c1 := Lib.hid (fun v => quote_any a0 (by omega) v)
  have c2 := Lib.hid (fun v => quote_any a1 (by omega) v)
  have c3 := Lib.hid (fun v => quote_any (a0 ++ a1) (by rw [← li_len, li_app, List.length_append, li_len, li_len]; omega) v)
  obtain ⟨x, hx⟩ : ∃ x : ByteArray, x = ⟨(quote (li a0)).toArray⟩ := ⟨_, rfl⟩
  obtain ⟨y, hy⟩ : ∃ y : ByteArray, y = ⟨(quote (li a1)).toArray⟩ := ⟨_, rfl⟩
  obtain ⟨q, hq⟩ : ∃ q : ByteArray, q = ⟨(quote (li (a0 ++ a1))).toArray⟩ := ⟨_, rfl⟩
  have hxl : li x = quote (li a0) := by rw [hx, li_mk]
  have hyl : li y = quote (li a1) := by rw [hy, li_mk]
  have hql : li q = quote (li (a0 ++ a1)) := by rw [hq, li_mk]
  rw [← hx] at c1
  rw [← hy] at c2
  rw [← hq] at c3
  have hj := Lib.hid (join_eq a0 a1 hv0 x y q hxl hyl hql)
  have hx2 : 1 < x.size := by rw [← li_len, hxl]; exact quote_len _
  have hy2 : 1 < y.size := by rw [← li_len, hyl]; exact quote_len _
  have hxs : x.size ≤ 802 := by
    have := quote_most (li a0)
    rw [li_len] at this
    rw [← li_len, hxl]; omega
  have hys : y.size ≤ 802 := by
    have := quote_most (li a1)
    rw [li_len] at this
    rw [← li_len, hyl]; omega
  have hs0 : a0.size ≤ 200 := by omega
  have hs1 : a1.size ≤ 200 := by omega
  clear hx hy hq hxl hyl hql w0 w1 k0 k1 hv0 hv1
  go_enter Try.func7, Try.ntmps7
  go_wp2_with fail
  refine (works_any _).mono ?_
  rintro e v1 ⟨rfl, h1⟩
  have B1 := Lib.hid h1
  clear h1
  go_wp2_with fail
  refine (d1.out _).mono ?_
  rintro e v2 ⟨rfl, h2⟩
  have B2 := Lib.hid (B1.out.trans (h2.mono B1.out.size))
  clear h2 B1
  go_wp2_with fail
  refine (d2.out _).mono ?_
  rintro e v3 ⟨rfl, h3⟩
  have B3 := Lib.hid (B2.out.trans (h3.mono B2.out.size))
  clear h3 B2
  go_wp2_with fail
  refine (c1.out _).mono ?_
  rintro e v4 ⟨rfl, h4⟩
  have B4 := Lib.hid (B3.out.trans (h4.mono B3.out.size))
  clear h4 B3
  go_wp2_with fail
  refine (c2.out _).mono ?_
  rintro e v5 ⟨rfl, h5⟩
  have B5 := Lib.hid (B4.out.trans (h5.mono B4.out.size))
  clear h5 B4 d1 d2 c1 c2
  go_wp2_with fail
  have hx3 : (1 : Int) < (x.size : Int) := by omega
  have hy3 : (1 : Int) < (y.size : Int) := by omega
  have hwr : IntKind.i64.wrap ((x.size : Int) - 1) = ((x.size - 1 : Nat) : Int) := by rw [IntKind.wrap_i64]; omega
  refine wp_region_class (fun v => Below w.heap.size w v) (by kernel_rfl) (by kernel_rfl) B5.out.drew ?_
  refine wpQuiet_move (by rfl) _ (.inl rfl) (.bool true) rfl ?_
  refine wpQuiet_move (by rfl) _ (.inl rfl) (.bool true) rfl ?_
  simp only [Act.put, List.setIfInBounds_toArray, List.set_cons_zero, List.set_cons_succ]
  refine wpQuiet_move (by rfl) _ (.inl rfl) (.string x) rfl ?_
  refine wpQuiet_len (by rfl) _ _ rfl x rfl Try.underlying9 ?_
  refine wpQuiet_val (by rfl) (.bool true) (fun u _ => by unfold execOp; simp [eqGuard, binOp, Op.intCmp, go_sem, Act.eval, Act.put, hx3]) ?_
  simp only [Act.put, List.setIfInBounds_toArray, List.set_cons_zero, List.set_cons_succ]
  refine wpQuiet_pick (by rfl) _ _ _ rfl true rfl (.bool true) rfl ?_
  refine wpQuiet_move (by rfl) _ (.inl rfl) (.bool true) rfl ?_
  simp only [Act.put, List.setIfInBounds_toArray, List.set_cons_zero, List.set_cons_succ]
  refine wpQuiet_move (by rfl) _ (.inl rfl) (.string y) rfl ?_
  refine wpQuiet_len (by rfl) _ _ rfl y rfl Try.underlying9 ?_
  refine wpQuiet_val (by rfl) (.bool true) (fun u _ => by unfold execOp; simp [eqGuard, binOp, Op.intCmp, go_sem, Act.eval, Act.put, hy3]) ?_
  simp only [Act.put, List.setIfInBounds_toArray, List.set_cons_zero, List.set_cons_succ]
  refine wpQuiet_pick (by rfl) _ _ _ rfl true rfl (.bool true) rfl ?_
  refine wpQuiet_move (by rfl) _ (.inl rfl) (.bool true) rfl ?_
  simp only [Act.put, List.setIfInBounds_toArray, List.set_cons_zero, List.set_cons_succ]
  refine wpQuiet_move (by rfl) _ (.inl rfl) (.string a0) rfl ?_
  refine wpQuiet_move (by rfl) _ (.inl rfl) (.string a1) rfl ?_
  refine wpQuiet_val (by rfl) (.string (a0 ++ a1)) (fun u _ => by unfold execOp; simp [eqGuard, binOp, go_sem, Act.eval, Act.put]; omega) ?_
  simp only [Act.put, List.setIfInBounds_toArray, List.set_cons_zero, List.set_cons_succ]
  refine wpQuiet_call1 (by rfl) 17 (.tmp 48) _ rfl ent17 (.string (a0 ++ a1)) rfl (.string q) (fun v hv => (c3.out v).mono fun e v' ⟨he, hb⟩ => ⟨he, hv.trans (hb.mono hv.size)⟩) ?_
  simp only [Act.put, List.setIfInBounds_toArray, List.set_cons_zero, List.set_cons_succ]
  refine wpQuiet_move (by rfl) _ (.inl rfl) (.string x) rfl ?_
  refine wpQuiet_move (by rfl) _ (.inl rfl) (.string x) rfl ?_
  refine wpQuiet_len (by rfl) _ _ rfl x rfl Try.underlying9 ?_
  simp only [Act.put, List.setIfInBounds_toArray, List.set_cons_zero, List.set_cons_succ]
  refine wpQuiet_val (by rfl) (.int .i64 ((x.size - 1 : Nat) : Int)) (fun u _ => by unfold execOp; simp [eqGuard, binOp, Op.intArith, go_sem, Act.eval, hwr]) ?_
  simp only [Act.put, List.setIfInBounds_toArray, List.set_cons_zero, List.set_cons_succ]
  refine wpQuiet_to (by rfl) 9 (.tmp 50) (.tmp 53) rfl x (x.size - 1) rfl rfl (by omega) Try.underlying9 ?_
  refine wpQuiet_move (by rfl) _ (.inl rfl) (.string y) rfl ?_
  simp only [Act.put, List.setIfInBounds_toArray, List.set_cons_zero, List.set_cons_succ]
  refine wpQuiet_from (by rfl) 9 (.tmp 55) (.const (.int .i64 1)) rfl y 1 rfl rfl (by omega) Try.underlying9 ?_
  simp only [Act.put, List.setIfInBounds_toArray, List.set_cons_zero, List.set_cons_succ]
  obtain ⟨X, hX⟩ : ∃ X, x.extract 0 (x.size - 1) = X := ⟨_, rfl⟩
  obtain ⟨Y, hY⟩ : ∃ Y, y.extract 1 y.size = Y := ⟨_, rfl⟩
  have hXs : X.size ≤ 802 := by rw [← hX, ← li_len, li_cut _ _ _ (by omega), List.length_take]; omega
  have hYs : Y.size ≤ 802 := by rw [← hY, ← li_len, li_extract, List.length_drop, li_len]; omega
  have hj' : q = X ++ Y := by rw [← hX, ← hY]; exact hj.out
  rw [hX, hY]
  refine wpQuiet_val (by rfl) (.string (X ++ Y)) (fun u _ => by unfold execOp; simp [eqGuard, binOp, go_sem, Act.eval]; omega) ?_
  simp only [Act.put, List.setIfInBounds_toArray, List.set_cons_zero, List.set_cons_succ]
  refine wpQuiet_seq (by rfl) _ _ _ _ rfl q (X ++ Y) rfl rfl true (by rw [hj']; simp) ?_
  simp only [Act.put, List.setIfInBounds_toArray, List.set_cons_zero, List.set_cons_succ]
  refine wpQuiet_pick (by rfl) _ _ _ rfl true rfl (.bool true) rfl ?_
  refine wpQuiet_move (by rfl) _ (.inr rfl) (.bool true) rfl ?_
  simp only [Act.put, List.setIfInBounds_toArray, List.set_cons_zero, List.set_cons_succ]
  refine wpQuiet_nil ?_
  intro u hu
  go_wp2_with fail
  go_ret
  exact ⟨rfl, hu⟩

set_option maxRecDepth 100000 in
theorem lifted (os : Os) (started : os.Started) (H : Type) (enc : TypeId × Value → H) :
    ReturnsInHanded {} Try.checked os 7 .any (Rows.nameJoinsSpec.pre6 enc Try.prog Try.f7 Rows.nameJoinsRow.domain false) (Rows.nameJoinsSpec.post enc Try.prog Try.f7 false true false false) := by
  refine returnsInHanded_of_change (C := Try.checked) own started (by kernel_rfl) Try.func7
    (ChangeSpec.witness6 (enc := enc) (C := Try.checked) false ⟨#[], #[.string ByteArray.empty, .string ByteArray.empty], []⟩ 8 (by kernel_rfl) (by kernel_rfl) (by kernel_rfl) (by kernel_rfl)) ?_
  intro W base args ds gs before hval0 hW hcnd _
  have hval : ∀ (j : Nat) t v, Try.f7.params[j]? = some t → args[j]? = some v → Value.okWide Try.prog W .any base t v := hval0
  have hW' := hW
  obtain ⟨p, q, hA0, hV, rfl, hfz, hnd⟩ := hW
  have hA : DataW.TrodAll enc Try.prog W 0 (fun _ => true) true Try.f7.params.toList args.toList ds p := hA0
  rw [Try.params7] at hA hval
  obtain ⟨v0, vs0, d0, ds0, p0, q0, hargs, rfl, rfl, h0, r0⟩ := trodAll_cons hA
  obtain ⟨v1, vs1, d1, ds1, p1, q1, rfl, rfl, rfl, h1, r1⟩ := trodAll_cons r0
  obtain ⟨rfl, rfl, rfl⟩ := trodAll_nil r1
  obtain rfl : args = #[v0, v1] := by cases args; simp_all
  obtain ⟨rfl, rfl⟩ := trodVars_none hV
  obtain ⟨a0, rfl, rfl, rfl, w0⟩ := open_string Try.underlying9 (hval 0 9 v0 rfl rfl) h0
  obtain ⟨a1, rfl, rfl, rfl, w1⟩ := open_string Try.underlying9 (hval 1 9 v1 rfl rfl) h1
  clear hA0 hval0
  simp only [List.append_nil] at hW'
  refine (walk a0 a1 w0 w1 W).mono fun e W' ⟨he, bel⟩ => ?_
  subst he
  exact ⟨_, rfl, _, _, _, [], [], [], hW', (trodAll_cons_mk (shut_bool Try.underlying4 _) trodAll_mk0), (trodAll_cons_mk (shut_string Try.underlying9 w0) (trodAll_cons_mk (shut_string Try.underlying9 w1) trodAll_mk0)), rfl, bel.frame _, fun h => by cases h⟩

theorem over : Rows.nameJoinsRow.holds Try.pinned (OpenSpec.ofChange Rows.nameJoinsSpec) :=
  OpenClaim.holds_of_wide 7 Try.f7 rfl rfl rfl rfl rfl rfl rfl ⟨rfl, rfl, rfl, rfl, rfl⟩ rfl rfl rfl rfl rfl (by kernel_rfl) Try.func7 (by kernel_rfl)
    (of_decide_eq_true (by kernel_rfl)) (by unfold Func.isWrapper; first | (rw [if_pos (by decide +kernel)]; kernel_rfl) | (rw [if_neg (by decide +kernel)]; exact ⟨rfl, rfl⟩))
    (fun os started H enc _ => lifted os started H enc)

/-- The given statement. -/
theorem nameJoins_proved : Rows.NameJoinsSaid :=
  over
#print axioms nameJoins_proved
end Go.Proofs.Ytjpdbdeecglabaa.nameJoins
