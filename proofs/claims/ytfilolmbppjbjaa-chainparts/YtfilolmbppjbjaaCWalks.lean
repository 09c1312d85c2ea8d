/-
  The walks of ChainCollide, case by case.
-/
import Derived.Test.YtfilolmbppjbjaaGworks
namespace Go.Proofs.Ytfilolmbppjbjaa
open Go Go.RowKit
set_option linter.unusedVariables false

section
variable {P : Program} {ops : Array Oper} {rest : List Oper} {op : Oper} {a : Act} {w : World} {Q : Exit → Act → World → Prop}
theorem wpList_exec_g (hw : Region.wanted op (yielded ops a.tmps) = true) (v : Value) (hv : (execOp a.eval op).run P w = .ok (.value v) w) (h : wpList P ops Q rest (a.put op.dst v) w) : wpList P ops Q (op :: rest) a w := by
  unfold wpList
  rw [if_pos hw]
  unfold Oper.wp
  rw [hv]
  exact .inl h
theorem wpList_load_row_g (hw : Region.wanted op (yielded ops a.tmps) = true) (ty : TypeId) (x : Operand) (ho : op.op = .load ty x) (b : Nat) (hx : a.eval x = .pointer (some ⟨b, 0, none⟩)) (t : TypeId) (c : Array Value) (d : TypeDesc) (hg : w.heap[b]? = some (.cells c t))
    (hu : P.underlying ty = some d) (hd : (match d with | .struct _ | .array _ _ => true | _ => false) = true) (hi : (P.info? ty).map (·.size) = some c.size) (h : wpList P ops Q rest (a.put op.dst (.agg c)) w) : wpList P ops Q (op :: rest) a w :=
  wpList_exec_g hw _ (by
    unfold execOp
    simp only [ho, hx, Instr.loadAt, Instr.sureAddr, Sem.run_bind, Sem.run_pure, Result.andThen_ok, run_loadVar_row w b t ty c (0, 0) d hg hu hd hi]) h
theorem wpList_dne_g (hw : Region.wanted op (yielded ops a.tmps) = true) (t t' : TypeId) (x y : Operand) (ho : op.op = .binOp .neq t x y t') (c d : Array Value) (hx : a.eval x = .agg c) (hy : a.eval y = .agg d) (hp : P.eqGuardType P.depth t = false) (r : Bool) (hr : ∀ v, (Op.equalIn 10000 t (.agg c) (.agg d)).run P v = .ok r v)
    (h : wpList P ops Q rest (a.put op.dst (.bool (!r))) w) : wpList P ops Q (op :: rest) a w :=
  wpList_exec_g hw _ (by unfold execOp; simp only [ho, hx, hy]; simp [eqGuard, hp, run_neq_struct, hr, go_sem]) h
theorem wpList_deq_g (hw : Region.wanted op (yielded ops a.tmps) = true) (t t' : TypeId) (x y : Operand) (ho : op.op = .binOp .eql t x y t') (c d : Array Value) (hx : a.eval x = .agg c) (hy : a.eval y = .agg d) (hp : P.eqGuardType P.depth t = false) (r : Bool) (hr : ∀ v, (Op.equalIn 10000 t (.agg c) (.agg d)).run P v = .ok r v)
    (h : wpList P ops Q rest (a.put op.dst (.bool r)) w) : wpList P ops Q (op :: rest) a w :=
  wpList_exec_g hw _ (by unfold execOp; simp only [ho, hx, hy]; simp [eqGuard, hp, run_eql_struct, hr, go_sem]) h
theorem wpList_sne_g (hw : Region.wanted op (yielded ops a.tmps) = true) (t t' : TypeId) (x y : Operand) (ho : op.op = .binOp .neq t x y t') (s1 s2 : ByteArray) (hx : a.eval x = .string s1) (hy : a.eval y = .string s2) (r : Bool) (hr : (s1.toList == s2.toList) = r)
    (h : wpList P ops Q rest (a.put op.dst (.bool (!r))) w) : wpList P ops Q (op :: rest) a w :=
  wpList_exec_g hw _ (by unfold execOp; simp only [ho, hx, hy, binOp_string_neq]; rw [hr]; simp [eqGuard, go_sem]) h
end
theorem out_few {w v0 : World} (h : KW w.heap.size w [] v0) : Below w.heap.size w v0 := h.bel

set_option maxRecDepth 100000 in
set_option maxHeartbeats 1000000 in
theorem walk_many (la lb : List Ev) (hla : Hid ((la.length : Int) ≤ 9223372036854775807 ∧ (∀ e ∈ la, e.name.length ≤ 9223372036854775807) ∧ ∀ e ∈ la, e.wf)) (hlb : Hid ((lb.length : Int) ≤ 9223372036854775807 ∧ (∀ e ∈ lb, e.name.length ≤ 9223372036854775807) ∧ ∀ e ∈ lb, e.wf)) (pa pb : Option Addr) (ca cb : Nat) (w : World) (hEa : Hid (EvsAt w.heap.size w pa la)) (hEb : Hid (EvsAt w.heap.size w pb lb))
    (hf : fewB la = false ∨ fewB lb = false) :
    Calls Try.prog 3 #[.slice pa la.length ca, .slice pb lb.length cb] w fun e w' => e = .returned (.bool true) ∧ Below w.heap.size w w' := by
  cases qa : fewB la with
  | false =>
    go_enter Try.func3, Try.ntmps3
    go_wp2_with fail
    refine (works_any _).mono ?_
    rintro e v0 ⟨rfl, b0⟩
    have K0 := Lib.hid ((KW.start w).past b0)
    have fa := Lib.hid (few_any la hla.out.1 hla.out.2.1 pa ca v0 ((hEa.out.past b0).mono b0.size))
    rw [qa] at fa
    clear b0 qa hf
    go_wp2_with fail
    refine fa.out.mono ?_
    rintro e u ⟨rfl, rfl⟩
    go_wp2_with fail
    go_ret
    exact ⟨rfl, K0.out.bel⟩
  | true =>
    have qb : fewB lb = false := by
      rcases hf with h | h
      · rw [qa] at h; cases h
      · exact h
    go_enter Try.func3, Try.ntmps3
    go_wp2_with fail
    refine (works_any _).mono ?_
    rintro e v0 ⟨rfl, b0⟩
    have K0 := Lib.hid ((KW.start w).past b0)
    have fa := Lib.hid (few_any la hla.out.1 hla.out.2.1 pa ca v0 ((hEa.out.past b0).mono b0.size))
    have fb := Lib.hid (few_any lb hlb.out.1 hlb.out.2.1 pb cb v0 ((hEb.out.past b0).mono b0.size))
    rw [qa] at fa
    rw [qb] at fb
    clear b0 qa qb hf
    go_wp2_with fail
    refine fa.out.mono ?_
    rintro e u ⟨rfl, rfl⟩
    go_wp2_with fail
    refine fb.out.mono ?_
    rintro e u ⟨rfl, rfl⟩
    go_wp2_with fail
    go_ret
    exact ⟨rfl, K0.out.bel⟩
set_option maxRecDepth 100000 in
set_option maxHeartbeats 2000000 in
theorem walk_a (la lb : List Ev) (hla : Hid ((la.length : Int) ≤ 9223372036854775807 ∧ (∀ e ∈ la, e.name.length ≤ 9223372036854775807) ∧ ∀ e ∈ la, e.wf)) (hlb : Hid ((lb.length : Int) ≤ 9223372036854775807 ∧ (∀ e ∈ lb, e.name.length ≤ 9223372036854775807) ∧ ∀ e ∈ lb, e.wf)) (pa pb : Option Addr) (ca cb : Nat) (w : World) (hEa : Hid (EvsAt w.heap.size w pa la)) (hEb : Hid (EvsAt w.heap.size w pb lb))
    (qa : Hid (fewB la = true)) (qb : Hid (fewB lb = true)) (fla : Hid (Fit la ∧ la.length ≤ 20)) (flb : Hid (Fit lb ∧ lb.length ≤ 20)) (X Y : List UInt8) (hX : Hid (X.length = 32)) (hY : Hid (Y.length = 32))
    (oa : Hid (la.all okP = false)) (B : Bool) (ob : Hid (lb.all okP = B)) (da : Hid (hdR startD la = X)) (db : Hid (hdR startD lb = Y)) (col : Hid (colR la lb = .tuple #[.string ⟨#[]⟩, .string ⟨#[]⟩, .bool false])) :
    Calls Try.prog 3 #[.slice pa la.length ca, .slice pb lb.length cb] w fun e w' => e = .returned (.bool true) ∧ Below w.heap.size w w' := by
  go_enter Try.func3, Try.ntmps3
  go_wp2_with fail
  refine (works_any _).mono ?_
  rintro e v0 ⟨rfl, b0⟩
  have K0 := Lib.hid ((KW.start w).past b0)
  have fa := Lib.hid (few_any la hla.out.1 hla.out.2.1 pa ca v0 ((hEa.out.past b0).mono b0.size))
  have fb := Lib.hid (few_any lb hlb.out.1 hlb.out.2.1 pb cb v0 ((hEb.out.past b0).mono b0.size))
  rw [qa.out] at fa
  rw [qb.out] at fb
  clear b0
  go_wp2_with fail
  refine fa.out.mono ?_
  rintro e u ⟨rfl, rfl⟩
  go_wp2_with fail
  refine fb.out.mono ?_
  rintro e u ⟨rfl, rfl⟩
  clear fa fb
  go_wp2_with fail
  refine (start_any _).mono ?_
  rintro e v1 ⟨rfl, b1⟩
  have K1 := Lib.hid (K0.out.past b1)
  clear b1
  have hd1 := Lib.hid (head_any startD startD_len la fla.out.1 (by have := fla.out.2; omega) pa ca v1 ((hEa.out.past K1.out.bel).mono K1.out.size))
  rw [oa.out, da.out] at hd1
  go_wp2_with fail
  refine hd1.out.mono ?_
  rintro e v2 ⟨rfl, b2⟩
  have K2 := Lib.hid ((K1.out.past b2).new (.cells (row zs) 26))
  have K3 := Lib.hid (K2.out.row 0 rfl (K1.out.past b2).size (row X))
  clear b2 hd1
  go_wp2_with (with_reducible refine wpList_store_row rfl 26 (.tmp 7) (.tmp 30) rfl _ (row X) rfl rfl 26 _ (K2.out.at 0 rfl) (row26 X hX.out) (row_eq _ _ zs_len hX.out) (row_one X) ?_)
  refine (start_any _).mono ?_
  rintro e v3 ⟨rfl, b3⟩
  have K4 := Lib.hid (K3.out.past b3)
  clear b3
  have hd2 := Lib.hid (head_any startD startD_len lb flb.out.1 (by have := flb.out.2; omega) pb cb v3 ((hEb.out.past K4.out.bel).mono K4.out.size))
  rw [ob.out, db.out] at hd2
  go_wp2_with fail
  refine hd2.out.mono ?_
  rintro e v4 ⟨rfl, b4⟩
  have K5 := Lib.hid ((K4.out.past b4).new (.cells (row zs) 26))
  have K6 := Lib.hid (K5.out.row 0 rfl (K4.out.past b4).size (row Y))
  clear b4 hd2
  have cl := Lib.hid (collide_any la lb fla.out.1 flb.out.1 (by have := fla.out.2; omega) (by have := flb.out.2; omega) pa pb ca cb _ ((hEa.out.past K6.out.bel).mono K6.out.size) ((hEb.out.past K6.out.bel).mono K6.out.size))
  rw [col.out] at cl
  go_wp2_with (with_reducible refine wpList_store_row rfl 26 (.tmp 9) (.tmp 36) rfl _ (row Y) rfl rfl 26 _ (K5.out.at 0 rfl) (row26 Y hY.out) (row_eq _ _ zs_len hY.out) (row_one Y) ?_)
  refine cl.out.mono ?_
  rintro e v5 ⟨rfl, b5⟩
  have K7 := Lib.hid (K6.out.past b5)
  clear b5 cl
  go_wp2_with fail
  go_ret
  exact ⟨rfl, K7.out.bel⟩
set_option maxRecDepth 100000 in
set_option maxHeartbeats 2000000 in
theorem walk_b (la lb : List Ev) (hla : Hid ((la.length : Int) ≤ 9223372036854775807 ∧ (∀ e ∈ la, e.name.length ≤ 9223372036854775807) ∧ ∀ e ∈ la, e.wf)) (hlb : Hid ((lb.length : Int) ≤ 9223372036854775807 ∧ (∀ e ∈ lb, e.name.length ≤ 9223372036854775807) ∧ ∀ e ∈ lb, e.wf)) (pa pb : Option Addr) (ca cb : Nat) (w : World) (hEa : Hid (EvsAt w.heap.size w pa la)) (hEb : Hid (EvsAt w.heap.size w pb lb))
    (qa : Hid (fewB la = true)) (qb : Hid (fewB lb = true)) (fla : Hid (Fit la ∧ la.length ≤ 20)) (flb : Hid (Fit lb ∧ lb.length ≤ 20)) (X Y : List UInt8) (hX : Hid (X.length = 32)) (hY : Hid (Y.length = 32))
    (oa : Hid (la.all okP = true)) (ob : Hid (lb.all okP = false)) (da : Hid (hdR startD la = X)) (db : Hid (hdR startD lb = Y)) (col : Hid (colR la lb = .tuple #[.string ⟨#[]⟩, .string ⟨#[]⟩, .bool false])) :
    Calls Try.prog 3 #[.slice pa la.length ca, .slice pb lb.length cb] w fun e w' => e = .returned (.bool true) ∧ Below w.heap.size w w' := by
  go_enter Try.func3, Try.ntmps3
  go_wp2_with fail
  refine (works_any _).mono ?_
  rintro e v0 ⟨rfl, b0⟩
  have K0 := Lib.hid ((KW.start w).past b0)
  have fa := Lib.hid (few_any la hla.out.1 hla.out.2.1 pa ca v0 ((hEa.out.past b0).mono b0.size))
  have fb := Lib.hid (few_any lb hlb.out.1 hlb.out.2.1 pb cb v0 ((hEb.out.past b0).mono b0.size))
  rw [qa.out] at fa
  rw [qb.out] at fb
  clear b0
  go_wp2_with fail
  refine fa.out.mono ?_
  rintro e u ⟨rfl, rfl⟩
  go_wp2_with fail
  refine fb.out.mono ?_
  rintro e u ⟨rfl, rfl⟩
  clear fa fb
  go_wp2_with fail
  refine (start_any _).mono ?_
  rintro e v1 ⟨rfl, b1⟩
  have K1 := Lib.hid (K0.out.past b1)
  clear b1
  have hd1 := Lib.hid (head_any startD startD_len la fla.out.1 (by have := fla.out.2; omega) pa ca v1 ((hEa.out.past K1.out.bel).mono K1.out.size))
  rw [oa.out, da.out] at hd1
  go_wp2_with fail
  refine hd1.out.mono ?_
  rintro e v2 ⟨rfl, b2⟩
  have K2 := Lib.hid ((K1.out.past b2).new (.cells (row zs) 26))
  have K3 := Lib.hid (K2.out.row 0 rfl (K1.out.past b2).size (row X))
  clear b2 hd1
  go_wp2_with (with_reducible refine wpList_store_row rfl 26 (.tmp 7) (.tmp 30) rfl _ (row X) rfl rfl 26 _ (K2.out.at 0 rfl) (row26 X hX.out) (row_eq _ _ zs_len hX.out) (row_one X) ?_)
  refine (start_any _).mono ?_
  rintro e v3 ⟨rfl, b3⟩
  have K4 := Lib.hid (K3.out.past b3)
  clear b3
  have hd2 := Lib.hid (head_any startD startD_len lb flb.out.1 (by have := flb.out.2; omega) pb cb v3 ((hEb.out.past K4.out.bel).mono K4.out.size))
  rw [ob.out, db.out] at hd2
  go_wp2_with fail
  refine hd2.out.mono ?_
  rintro e v4 ⟨rfl, b4⟩
  have K5 := Lib.hid ((K4.out.past b4).new (.cells (row zs) 26))
  have K6 := Lib.hid (K5.out.row 0 rfl (K4.out.past b4).size (row Y))
  clear b4 hd2
  have cl := Lib.hid (collide_any la lb fla.out.1 flb.out.1 (by have := fla.out.2; omega) (by have := flb.out.2; omega) pa pb ca cb _ ((hEa.out.past K6.out.bel).mono K6.out.size) ((hEb.out.past K6.out.bel).mono K6.out.size))
  rw [col.out] at cl
  go_wp2_with (with_reducible refine wpList_store_row rfl 26 (.tmp 9) (.tmp 36) rfl _ (row Y) rfl rfl 26 _ (K5.out.at 0 rfl) (row26 Y hY.out) (row_eq _ _ zs_len hY.out) (row_one Y) ?_)
  refine cl.out.mono ?_
  rintro e v5 ⟨rfl, b5⟩
  have K7 := Lib.hid (K6.out.past b5)
  clear b5 cl
  go_wp2_with fail
  go_ret
  exact ⟨rfl, K7.out.bel⟩
set_option maxRecDepth 100000 in
set_option maxHeartbeats 2000000 in
theorem walk_c (la lb : List Ev) (hla : Hid ((la.length : Int) ≤ 9223372036854775807 ∧ (∀ e ∈ la, e.name.length ≤ 9223372036854775807) ∧ ∀ e ∈ la, e.wf)) (hlb : Hid ((lb.length : Int) ≤ 9223372036854775807 ∧ (∀ e ∈ lb, e.name.length ≤ 9223372036854775807) ∧ ∀ e ∈ lb, e.wf)) (pa pb : Option Addr) (ca cb : Nat) (w : World) (hEa : Hid (EvsAt w.heap.size w pa la)) (hEb : Hid (EvsAt w.heap.size w pb lb))
    (qa : Hid (fewB la = true)) (qb : Hid (fewB lb = true)) (fla : Hid (Fit la ∧ la.length ≤ 20)) (flb : Hid (Fit lb ∧ lb.length ≤ 20)) (X Y : List UInt8) (hX : Hid (X.length = 32)) (hY : Hid (Y.length = 32))
    (oa : Hid (la.all okP = true)) (ob : Hid (lb.all okP = true)) (da : Hid (hdR startD la = X)) (db : Hid (hdR startD lb = Y)) (hne : Hid (X ≠ Y)) (col : Hid (colR la lb = .tuple #[.string ⟨#[]⟩, .string ⟨#[]⟩, .bool false])) :
    Calls Try.prog 3 #[.slice pa la.length ca, .slice pb lb.length cb] w fun e w' => e = .returned (.bool true) ∧ Below w.heap.size w w' := by
  go_enter Try.func3, Try.ntmps3
  go_wp2_with fail
  refine (works_any _).mono ?_
  rintro e v0 ⟨rfl, b0⟩
  have K0 := Lib.hid ((KW.start w).past b0)
  have fa := Lib.hid (few_any la hla.out.1 hla.out.2.1 pa ca v0 ((hEa.out.past b0).mono b0.size))
  have fb := Lib.hid (few_any lb hlb.out.1 hlb.out.2.1 pb cb v0 ((hEb.out.past b0).mono b0.size))
  rw [qa.out] at fa
  rw [qb.out] at fb
  clear b0
  go_wp2_with fail
  refine fa.out.mono ?_
  rintro e u ⟨rfl, rfl⟩
  go_wp2_with fail
  refine fb.out.mono ?_
  rintro e u ⟨rfl, rfl⟩
  clear fa fb
  go_wp2_with fail
  refine (start_any _).mono ?_
  rintro e v1 ⟨rfl, b1⟩
  have K1 := Lib.hid (K0.out.past b1)
  clear b1
  have hd1 := Lib.hid (head_any startD startD_len la fla.out.1 (by have := fla.out.2; omega) pa ca v1 ((hEa.out.past K1.out.bel).mono K1.out.size))
  rw [oa.out, da.out] at hd1
  go_wp2_with fail
  refine hd1.out.mono ?_
  rintro e v2 ⟨rfl, b2⟩
  have K2 := Lib.hid ((K1.out.past b2).new (.cells (row zs) 26))
  have K3 := Lib.hid (K2.out.row 0 rfl (K1.out.past b2).size (row X))
  clear b2 hd1
  go_wp2_with (with_reducible refine wpList_store_row rfl 26 (.tmp 7) (.tmp 30) rfl _ (row X) rfl rfl 26 _ (K2.out.at 0 rfl) (row26 X hX.out) (row_eq _ _ zs_len hX.out) (row_one X) ?_)
  refine (start_any _).mono ?_
  rintro e v3 ⟨rfl, b3⟩
  have K4 := Lib.hid (K3.out.past b3)
  clear b3
  have hd2 := Lib.hid (head_any startD startD_len lb flb.out.1 (by have := flb.out.2; omega) pb cb v3 ((hEb.out.past K4.out.bel).mono K4.out.size))
  rw [ob.out, db.out] at hd2
  go_wp2_with fail
  refine hd2.out.mono ?_
  rintro e v4 ⟨rfl, b4⟩
  have K5 := Lib.hid ((K4.out.past b4).new (.cells (row zs) 26))
  have K6 := Lib.hid (K5.out.row 0 rfl (K4.out.past b4).size (row Y))
  clear b4 hd2
  have cl := Lib.hid (collide_any la lb fla.out.1 flb.out.1 (by have := fla.out.2; omega) (by have := flb.out.2; omega) pa pb ca cb _ ((hEa.out.past K6.out.bel).mono K6.out.size) ((hEb.out.past K6.out.bel).mono K6.out.size))
  rw [col.out] at cl
  go_wp2_with (with_reducible refine wpList_store_row rfl 26 (.tmp 9) (.tmp 36) rfl _ (row Y) rfl rfl 26 _ (K5.out.at 0 rfl) (row26 Y hY.out) (row_eq _ _ zs_len hY.out) (row_one Y) ?_)
  refine cl.out.mono ?_
  rintro e v5 ⟨rfl, b5⟩
  have K7 := Lib.hid (K6.out.past b5)
  clear b5 cl
  have eq' : Hid (∀ v, (Op.equalIn 10000 26 (.agg (row X)) (.agg (row Y))).run Try.prog v = .ok false v) := Lib.hid (fun v => by rw [eql_dig X Y hX.out hY.out v, beq_eq_false_iff_ne.2 hne.out])
  go_wp2_with (first
    | (with_reducible refine wpList_load_row_g (by with_unfolding_all rfl) 26 (.tmp 7) rfl _ rfl 26 (row X) _ (K7.out.at 1 rfl) Try.underlying26 rfl (row26 X hX.out) ?_)
    | (with_reducible refine wpList_load_row_g (by with_unfolding_all rfl) 26 (.tmp 9) rfl _ rfl 26 (row Y) _ (K7.out.at 0 rfl) Try.underlying26 rfl (row26 Y hY.out) ?_)
    | (with_reducible refine wpList_dne_g (by with_unfolding_all rfl) 26 26 (.tmp 52) (.tmp 53) rfl (row X) (row Y) rfl rfl (by kernel_rfl) false eq'.out ?_))
  go_ret
  exact ⟨rfl, K7.out.bel⟩
set_option maxRecDepth 100000 in
set_option maxHeartbeats 2000000 in
theorem walk_d (la lb : List Ev) (hla : Hid ((la.length : Int) ≤ 9223372036854775807 ∧ (∀ e ∈ la, e.name.length ≤ 9223372036854775807) ∧ ∀ e ∈ la, e.wf)) (hlb : Hid ((lb.length : Int) ≤ 9223372036854775807 ∧ (∀ e ∈ lb, e.name.length ≤ 9223372036854775807) ∧ ∀ e ∈ lb, e.wf)) (pa pb : Option Addr) (ca cb : Nat) (w : World) (hEa : Hid (EvsAt w.heap.size w pa la)) (hEb : Hid (EvsAt w.heap.size w pb lb))
    (qa : Hid (fewB la = true)) (qb : Hid (fewB lb = true)) (fla : Hid (Fit la ∧ la.length ≤ 20)) (flb : Hid (Fit lb ∧ lb.length ≤ 20)) (X Y : List UInt8) (hX : Hid (X.length = 32)) (hY : Hid (Y.length = 32))
    (oa : Hid (la.all okP = true)) (ob : Hid (lb.all okP = true)) (da : Hid (hdR startD la = X)) (db : Hid (hdR startD lb = Y)) (heq : Hid (X = Y)) (hsm : Hid (sameL la lb = true)) (col : Hid (colR la lb = .tuple #[.string ⟨#[]⟩, .string ⟨#[]⟩, .bool false])) :
    Calls Try.prog 3 #[.slice pa la.length ca, .slice pb lb.length cb] w fun e w' => e = .returned (.bool true) ∧ Below w.heap.size w w' := by
  go_enter Try.func3, Try.ntmps3
  go_wp2_with fail
  refine (works_any _).mono ?_
  rintro e v0 ⟨rfl, b0⟩
  have K0 := Lib.hid ((KW.start w).past b0)
  have fa := Lib.hid (few_any la hla.out.1 hla.out.2.1 pa ca v0 ((hEa.out.past b0).mono b0.size))
  have fb := Lib.hid (few_any lb hlb.out.1 hlb.out.2.1 pb cb v0 ((hEb.out.past b0).mono b0.size))
  rw [qa.out] at fa
  rw [qb.out] at fb
  clear b0
  go_wp2_with fail
  refine fa.out.mono ?_
  rintro e u ⟨rfl, rfl⟩
  go_wp2_with fail
  refine fb.out.mono ?_
  rintro e u ⟨rfl, rfl⟩
  clear fa fb
  go_wp2_with fail
  refine (start_any _).mono ?_
  rintro e v1 ⟨rfl, b1⟩
  have K1 := Lib.hid (K0.out.past b1)
  clear b1
  have hd1 := Lib.hid (head_any startD startD_len la fla.out.1 (by have := fla.out.2; omega) pa ca v1 ((hEa.out.past K1.out.bel).mono K1.out.size))
  rw [oa.out, da.out] at hd1
  go_wp2_with fail
  refine hd1.out.mono ?_
  rintro e v2 ⟨rfl, b2⟩
  have K2 := Lib.hid ((K1.out.past b2).new (.cells (row zs) 26))
  have K3 := Lib.hid (K2.out.row 0 rfl (K1.out.past b2).size (row X))
  clear b2 hd1
  go_wp2_with (with_reducible refine wpList_store_row rfl 26 (.tmp 7) (.tmp 30) rfl _ (row X) rfl rfl 26 _ (K2.out.at 0 rfl) (row26 X hX.out) (row_eq _ _ zs_len hX.out) (row_one X) ?_)
  refine (start_any _).mono ?_
  rintro e v3 ⟨rfl, b3⟩
  have K4 := Lib.hid (K3.out.past b3)
  clear b3
  have hd2 := Lib.hid (head_any startD startD_len lb flb.out.1 (by have := flb.out.2; omega) pb cb v3 ((hEb.out.past K4.out.bel).mono K4.out.size))
  rw [ob.out, db.out] at hd2
  go_wp2_with fail
  refine hd2.out.mono ?_
  rintro e v4 ⟨rfl, b4⟩
  have K5 := Lib.hid ((K4.out.past b4).new (.cells (row zs) 26))
  have K6 := Lib.hid (K5.out.row 0 rfl (K4.out.past b4).size (row Y))
  clear b4 hd2
  have cl := Lib.hid (collide_any la lb fla.out.1 flb.out.1 (by have := fla.out.2; omega) (by have := flb.out.2; omega) pa pb ca cb _ ((hEa.out.past K6.out.bel).mono K6.out.size) ((hEb.out.past K6.out.bel).mono K6.out.size))
  rw [col.out] at cl
  go_wp2_with (with_reducible refine wpList_store_row rfl 26 (.tmp 9) (.tmp 36) rfl _ (row Y) rfl rfl 26 _ (K5.out.at 0 rfl) (row26 Y hY.out) (row_eq _ _ zs_len hY.out) (row_one Y) ?_)
  refine cl.out.mono ?_
  rintro e v5 ⟨rfl, b5⟩
  have K7 := Lib.hid (K6.out.past b5)
  clear b5 cl
  have eq' : Hid (∀ v, (Op.equalIn 10000 26 (.agg (row X)) (.agg (row Y))).run Try.prog v = .ok true v) := Lib.hid (fun v => by rw [eql_dig X Y hX.out hY.out v, heq.out]; simp)
  have sm := Lib.hid (same_rows la lb (fun e he => (fla.out.1 e he).w.s) (fun e he => (flb.out.1 e he).w.s) (by have := fla.out.2; omega) (by have := flb.out.2; omega) pa pb ca cb v5 ((hEa.out.past K7.out.bel).mono K7.out.size) ((hEb.out.past K7.out.bel).mono K7.out.size))
  rw [hsm.out] at sm
  go_wp2_with (first
    | (with_reducible refine wpList_load_row_g (by with_unfolding_all rfl) 26 (.tmp 7) rfl _ rfl 26 (row X) _ (K7.out.at 1 rfl) Try.underlying26 rfl (row26 X hX.out) ?_)
    | (with_reducible refine wpList_load_row_g (by with_unfolding_all rfl) 26 (.tmp 9) rfl _ rfl 26 (row Y) _ (K7.out.at 0 rfl) Try.underlying26 rfl (row26 Y hY.out) ?_)
    | (with_reducible refine wpList_dne_g (by with_unfolding_all rfl) 26 26 (.tmp 52) (.tmp 53) rfl (row X) (row Y) rfl rfl (by kernel_rfl) true eq'.out ?_))
  refine sm.out.mono ?_
  rintro e v6 ⟨rfl, b6⟩
  have K8 := Lib.hid (K7.out.past b6)
  clear b6 sm
  go_wp2_with fail
  go_ret
  exact ⟨rfl, K8.out.bel⟩
set_option maxRecDepth 100000 in
set_option maxHeartbeats 2000000 in
theorem walk_e (la lb : List Ev) (hla : Hid ((la.length : Int) ≤ 9223372036854775807 ∧ (∀ e ∈ la, e.name.length ≤ 9223372036854775807) ∧ ∀ e ∈ la, e.wf)) (hlb : Hid ((lb.length : Int) ≤ 9223372036854775807 ∧ (∀ e ∈ lb, e.name.length ≤ 9223372036854775807) ∧ ∀ e ∈ lb, e.wf)) (pa pb : Option Addr) (ca cb : Nat) (w : World) (hEa : Hid (EvsAt w.heap.size w pa la)) (hEb : Hid (EvsAt w.heap.size w pb lb))
    (qa : Hid (fewB la = true)) (qb : Hid (fewB lb = true)) (fla : Hid (Fit la ∧ la.length ≤ 20)) (flb : Hid (Fit lb ∧ lb.length ≤ 20)) (X Y : List UInt8) (hX : Hid (X.length = 32)) (hY : Hid (Y.length = 32))
    (oa : Hid (la.all okP = true)) (ob : Hid (lb.all okP = true)) (da : Hid (hdR startD la = X)) (db : Hid (hdR startD lb = Y)) (heq : Hid (X = Y)) (hsm : Hid (sameL la lb = false)) (s t : List UInt8) (hcl : Hid (Clash s t)) (col : Hid (colR la lb = .tuple #[.string ⟨s.toArray⟩, .string ⟨t.toArray⟩, .bool true])) :
    Calls Try.prog 3 #[.slice pa la.length ca, .slice pb lb.length cb] w fun e w' => e = .returned (.bool true) ∧ Below w.heap.size w w' := by
  go_enter Try.func3, Try.ntmps3
  go_wp2_with fail
  refine (works_any _).mono ?_
  rintro e v0 ⟨rfl, b0⟩
  have K0 := Lib.hid ((KW.start w).past b0)
  have fa := Lib.hid (few_any la hla.out.1 hla.out.2.1 pa ca v0 ((hEa.out.past b0).mono b0.size))
  have fb := Lib.hid (few_any lb hlb.out.1 hlb.out.2.1 pb cb v0 ((hEb.out.past b0).mono b0.size))
  rw [qa.out] at fa
  rw [qb.out] at fb
  clear b0
  go_wp2_with fail
  refine fa.out.mono ?_
  rintro e u ⟨rfl, rfl⟩
  go_wp2_with fail
  refine fb.out.mono ?_
  rintro e u ⟨rfl, rfl⟩
  clear fa fb
  go_wp2_with fail
  refine (start_any _).mono ?_
  rintro e v1 ⟨rfl, b1⟩
  have K1 := Lib.hid (K0.out.past b1)
  clear b1
  have hd1 := Lib.hid (head_any startD startD_len la fla.out.1 (by have := fla.out.2; omega) pa ca v1 ((hEa.out.past K1.out.bel).mono K1.out.size))
  rw [oa.out, da.out] at hd1
  go_wp2_with fail
  refine hd1.out.mono ?_
  rintro e v2 ⟨rfl, b2⟩
  have K2 := Lib.hid ((K1.out.past b2).new (.cells (row zs) 26))
  have K3 := Lib.hid (K2.out.row 0 rfl (K1.out.past b2).size (row X))
  clear b2 hd1
  go_wp2_with (with_reducible refine wpList_store_row rfl 26 (.tmp 7) (.tmp 30) rfl _ (row X) rfl rfl 26 _ (K2.out.at 0 rfl) (row26 X hX.out) (row_eq _ _ zs_len hX.out) (row_one X) ?_)
  refine (start_any _).mono ?_
  rintro e v3 ⟨rfl, b3⟩
  have K4 := Lib.hid (K3.out.past b3)
  clear b3
  have hd2 := Lib.hid (head_any startD startD_len lb flb.out.1 (by have := flb.out.2; omega) pb cb v3 ((hEb.out.past K4.out.bel).mono K4.out.size))
  rw [ob.out, db.out] at hd2
  go_wp2_with fail
  refine hd2.out.mono ?_
  rintro e v4 ⟨rfl, b4⟩
  have K5 := Lib.hid ((K4.out.past b4).new (.cells (row zs) 26))
  have K6 := Lib.hid (K5.out.row 0 rfl (K4.out.past b4).size (row Y))
  clear b4 hd2
  have cl := Lib.hid (collide_any la lb fla.out.1 flb.out.1 (by have := fla.out.2; omega) (by have := flb.out.2; omega) pa pb ca cb _ ((hEa.out.past K6.out.bel).mono K6.out.size) ((hEb.out.past K6.out.bel).mono K6.out.size))
  rw [col.out] at cl
  go_wp2_with (with_reducible refine wpList_store_row rfl 26 (.tmp 9) (.tmp 36) rfl _ (row Y) rfl rfl 26 _ (K5.out.at 0 rfl) (row26 Y hY.out) (row_eq _ _ zs_len hY.out) (row_one Y) ?_)
  refine cl.out.mono ?_
  rintro e v5 ⟨rfl, b5⟩
  have K7 := Lib.hid (K6.out.past b5)
  clear b5 cl
  have eq' : Hid (∀ v, (Op.equalIn 10000 26 (.agg (row X)) (.agg (row Y))).run Try.prog v = .ok true v) := Lib.hid (fun v => by rw [eql_dig X Y hX.out hY.out v, heq.out]; simp)
  have sm := Lib.hid (same_rows la lb (fun e he => (fla.out.1 e he).w.s) (fun e he => (flb.out.1 e he).w.s) (by have := fla.out.2; omega) (by have := flb.out.2; omega) pa pb ca cb v5 ((hEa.out.past K7.out.bel).mono K7.out.size) ((hEb.out.past K7.out.bel).mono K7.out.size))
  rw [hsm.out] at sm
  go_wp2_with (first
    | (with_reducible refine wpList_load_row_g (by with_unfolding_all rfl) 26 (.tmp 7) rfl _ rfl 26 (row X) _ (K7.out.at 1 rfl) Try.underlying26 rfl (row26 X hX.out) ?_)
    | (with_reducible refine wpList_load_row_g (by with_unfolding_all rfl) 26 (.tmp 9) rfl _ rfl 26 (row Y) _ (K7.out.at 0 rfl) Try.underlying26 rfl (row26 Y hY.out) ?_)
    | (with_reducible refine wpList_dne_g (by with_unfolding_all rfl) 26 26 (.tmp 52) (.tmp 53) rfl (row X) (row Y) rfl rfl (by kernel_rfl) true eq'.out ?_))
  refine sm.out.mono ?_
  rintro e v6 ⟨rfl, b6⟩
  have K8 := Lib.hid (K7.out.past b6)
  clear b6 sm
  obtain ⟨HS, hHS⟩ : ∃ D, Hid (sha s = D) := ⟨_, Lib.hid rfl⟩
  have hl32 : Hid (HS.length = 32) := Lib.hid (by rw [← hHS.out]; exact sha_len _)
  have co1 : Hid (∀ v, Calls Try.prog 13 #[.string ⟨s.toArray⟩] v fun r v' => r = .returned (.agg (row HS)) ∧ Below v.heap.size v v') := Lib.hid (fun v => by
    rw [← hHS.out]; exact sh.of_any ⟨s.toArray⟩ (by rw [mk_size]; have := hcl.out.ls; omega) v)
  have co2 : Hid (∀ v, Calls Try.prog 13 #[.string ⟨t.toArray⟩] v fun r v' => r = .returned (.agg (row HS)) ∧ Below v.heap.size v v') := Lib.hid (fun v => by
    rw [← hHS.out, hcl.out.eq]; exact sh.of_any ⟨t.toArray⟩ (by rw [mk_size]; have := hcl.out.lt; omega) v)
  have cs : Hid (∀ v, Calls Try.prog 14 #[.string ⟨s.toArray⟩, .string ⟨t.toArray⟩] v fun r v' => r = .returned (.bool true) ∧ Below v.heap.size v v') := Lib.hid (fun v => by
    have h := sh.same_any ⟨s.toArray⟩ ⟨t.toArray⟩ (by rw [mk_size]; have := hcl.out.ls; omega) (by rw [mk_size]; have := hcl.out.lt; omega) v
    have e1 : sh.smB s t = true := by
      unfold sh.smB
      have h1 : (s == t) = false := beq_eq_false_iff_ne.2 hcl.out.ne
      have h2 : (sh.sha s == sh.sha t) = true := by rw [show sh.sha s = sh.sha t from hcl.out.eq]; simp
      rw [h1, h2]; rfl
    rw [show (⟨s.toArray⟩ : ByteArray).data.toList = s from rfl, show (⟨t.toArray⟩ : ByteArray).data.toList = t from rfl, e1] at h
    exact h)
  have eq2 : Hid (∀ v, (Op.equalIn 10000 26 (.agg (row HS)) (.agg (row HS))).run Try.prog v = .ok true v) := Lib.hid (fun v => by rw [eql_dig HS HS hl32.out hl32.out v]; simp)
  have hst : ((⟨s.toArray⟩ : ByteArray).toList == (⟨t.toArray⟩ : ByteArray).toList) = false := by rw [name_beq]; exact beq_eq_false_iff_ne.2 hcl.out.ne
  have hst2 := hcl.out.ne
  go_wp2_with (with_reducible refine wpList_sne_g (by with_unfolding_all rfl) 9 9 (.tmp 82) (.tmp 83) rfl ⟨s.toArray⟩ ⟨t.toArray⟩ rfl rfl false hst ?_)
  refine (co1.out _).mono ?_
  rintro e v7 ⟨rfl, b7⟩
  have K9 := Lib.hid (K8.out.past b7)
  clear b7
  go_wp2_with fail
  refine (co2.out _).mono ?_
  rintro e v8 ⟨rfl, b8⟩
  have K10 := Lib.hid (K9.out.past b8)
  clear b8
  go_wp2_with (with_reducible refine wpList_deq_g (by with_unfolding_all rfl) 26 26 (.tmp 88) (.tmp 90) rfl (row HS) (row HS) rfl rfl (by kernel_rfl) true eq2.out ?_)
  refine (cs.out _).mono ?_
  rintro e v9 ⟨rfl, b9⟩
  have K11 := Lib.hid (K10.out.past b9)
  clear b9
  go_wp2_with fail
  go_ret
  exact ⟨rfl, K11.out.bel⟩
end Go.Proofs.Ytfilolmbppjbjaa
