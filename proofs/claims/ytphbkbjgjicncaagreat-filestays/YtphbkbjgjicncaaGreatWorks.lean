/-
  The document's example, as the statements begin with it: works; and which operations are looked at: few.
-/
import Derived.Test.YtphbkbjgjicncaaGreatVal
import Derived.Test.YtphbkbjgjicncaaGreatEvEq
import Derived.Test.YtphbkbjgjicncaaGreatFew
namespace Go.Proofs.YtphbkbjgjicncaaGreat
open Go Go.RowKit

/-- Is an operation, on a file, looked at? -/
def foB (f : Fl) (L : List ByteArray) (o : Opv) : Bool := fewB f L && (decide (o.tx.size ≤ 700) && decide (o.nm.size ≤ 700))
set_option maxHeartbeats 1000000 in
theorem fewo_any (f : Fl) (o : Opv) (L : List ByteArray) (w : World) (h : StrAt w.heap.size w f.ha L) (hn : f.hn = L.length) (hm : L.length ≤ maxLen) :
    Calls Tryz.prog 6 #[.agg (flr f), .agg (opr o)] w fun e w' => e = .returned (.bool (foB f L o)) ∧ Below w.heap.size w w' := by
  have cf := Lib.hid (fun v (hb : Below w.heap.size w v) => few_any f L v (h.on hb) hn hm)
  have hK := Lib.hid (KW.two w (.cells (flr f) 24) (.cells (opr o) 31))
  have hF : Hid (foB f L o = (fewB f L && (decide (o.tx.size ≤ 700) && decide (o.nm.size ≤ 700)))) := Lib.hid rfl
  generalize foB f L o = R at hF ⊢
  generalize fewB f L = fb at *
  clear h hn hm
  go_enter Tryz.func6, Tryz.ntmps6
  go_wp2_with (with_reducible refine wpList_load_row (by rfl) 24 (.tmp 2) rfl _ rfl 24 _ _ (hK.out.at 1 rfl) Tryz.underlying24 rfl (row27 _) ?_)
  refine (cf.out _ hK.out.bel).mono ?_
  rintro e v ⟨rfl, hb⟩
  have K1 := Lib.hid (hK.out.past hb)
  have c2 := K1.out.cell 0 rfl 2 (y := .string o.tx) rfl
  have c1 := K1.out.cell 0 rfl 1 (y := .string o.nm) rfl
  clear hb
  cases fb with
  | false =>
    have hR : Hid (R = false) := Lib.hid (by rw [hF.out]; rfl)
    go_wp2_with fail
    go_ret
    exact ⟨by rw [hR.out]; rfl, K1.out.bel⟩
  | true =>
    by_cases h1 : o.tx.size ≤ 700
    · have t1 : decide ((o.tx.size : Int) ≤ 700) = true := decide_eq_true (by omega)
      have t2 : (o.tx.size : Int) ≤ 700 := by omega
      have hR : Hid (R = decide (o.nm.size ≤ 700)) := Lib.hid (by rw [hF.out, decide_eq_true h1]; rfl)
      by_cases h2 : o.nm.size ≤ 700
      · have t3 : decide ((o.nm.size : Int) ≤ 700) = true := decide_eq_true (by omega)
        have t4 : (o.nm.size : Int) ≤ 700 := by omega
        rw [decide_eq_true h2] at hR
        clear hF
        go_wp2_with fail
        go_ret
        exact ⟨by rw [hR.out]; rfl, K1.out.bel⟩
      · have t3 : decide ((o.nm.size : Int) ≤ 700) = false := decide_eq_false (by omega)
        have t4 : ¬ (o.nm.size : Int) ≤ 700 := by omega
        rw [decide_eq_false h2] at hR
        clear hF
        go_wp2_with fail
        go_ret
        exact ⟨by rw [hR.out]; rfl, K1.out.bel⟩
    · have t1 : decide ((o.tx.size : Int) ≤ 700) = false := decide_eq_false (by omega)
      have t2 : ¬ (o.tx.size : Int) ≤ 700 := by omega
      have hR : Hid (R = false) := Lib.hid (by rw [hF.out, decide_eq_false h1]; rfl)
      clear hF
      go_wp2_with fail
      go_ret
      exact ⟨by rw [hR.out]; rfl, K1.out.bel⟩

def X : ByteArray := ⟨#[120]⟩
def AB : ByteArray := ⟨#[97, 98]⟩
def C1 : ByteArray := ⟨#[99]⟩
def ABC : ByteArray := ⟨#[97, 98, 99]⟩
def BC : ByteArray := ⟨#[98, 99]⟩
def fw0 : Fl := ⟨1, X, em, false, 0, none, 0, 0⟩
def fw1 (a : Option Addr) (c : Nat) : Fl := ⟨1, X, AB, false, 0, a, 0, c⟩
def fw2 (a : Option Addr) (c : Nat) : Fl := ⟨1, X, ABC, false, 0, a, 0, c⟩
def fw3 (a : Option Addr) (c : Nat) : Fl := ⟨1, X, em, false, 0, a, 0, c⟩
def ow : Opv := ⟨1, em, C1, 0, 0, 0⟩
def ew : Ev := ⟨1, 1, [], 0, 1, z32⟩
theorem vd_X : vdB X = true := by decide +kernel
theorem new_w (w : World) : Calls Tryz.prog 10 #[.int .i64 1, .string X] w fun e w' => e = .returned (.tuple #[.agg (flr fw0), .int .i64 0]) ∧ Below w.heap.size w w' := by
  have e1 : newF 1 X = (fw0, 0) := by unfold newF; rw [vd_X]; rfl
  have := new_any 1 X w (by decide)
  rw [e1] at this; exact this
theorem app_w (w : World) : Calls Tryz.prog 11 #[.agg (flr fw0), .string AB] w fun e w' => ∃ a c, e = .returned (.tuple #[.agg (flr (fw1 a c)), .int .i64 0]) ∧ Below w.heap.size w w' := by
  have e1 : appF fw0 AB = (⟨1, X, AB, false, 0, none, 0, 0⟩, 0) := rfl
  refine (append_any fw0 AB [] w (.inl rfl) rfl (by simp) (by decide) (by decide)).mono ?_
  rw [e1]
  rintro e v ⟨a, c, rfl, _, hb⟩
  exact ⟨a, c, rfl, hb⟩
theorem do_w (a : Option Addr) (c : Nat) (w : World) : Calls Tryz.prog 7 #[.agg (flr (fw1 a c)), .agg (opr ow), .int .i64 0] w fun e w' => ∃ a c, e = .returned (.tuple #[.agg (flr (fw2 a c)), .agg (evr ew), .int .i64 0]) ∧ Below w.heap.size w w' := by
  have e0 : appF (fw1 a c) C1 = (fw2 a c, 0) := rfl
  have e1 : doneR (fw1 a c) [] ow 0 = (fw2 a c, [], 0) := by
    show ((appF (fw1 a c) C1).1, ([] : List ByteArray), (appF (fw1 a c) C1).2) = _
    rw [e0]
  have e2 : doR (fw1 a c) [] ow 0 = (fw2 a c, [], ew, 0) := by unfold doR; rw [e1]; rfl
  refine (do_any (fw1 a c) ow 0 [] w (.inl rfl) rfl (by simp) (by simp) (show AB.size ≤ 4000 by decide) (by decide)).mono ?_
  rw [e2]
  rintro e v ⟨a, c, rfl, _, hb⟩
  exact ⟨a, c, rfl, hb⟩
theorem read_w (a : Option Addr) (c : Nat) (w : World) : Calls Tryz.prog 12 #[.agg (flr (fw2 a c)), .int .i64 1, .int .i64 3] w fun e w' => e = .returned (.tuple #[.string BC, .int .i64 0]) ∧ Below w.heap.size w w' := by
  have e1 : rdR ABC 1 3 = (BC, 0) := by decide +kernel
  have := read_any (fw2 a c) 1 3 w (show ABC.size ≤ maxLen by decide)
  rw [show (fw2 a c).da = ABC from rfl, e1] at this
  exact this
theorem valid_w (a : Option Addr) (c : Nat) (w : World) : Calls Tryz.prog 5 #[.agg (flr (fw2 a c))] w fun e w' => e = .returned (.bool true) ∧ Below w.heap.size w w' := by
  have e1 : vlB (fw2 a c) [] = true := by
    unfold vlB
    rw [show (fw2 a c).nm = X from rfl, vd_X]
    rfl
  have := valid_any (fw2 a c) [] w (.inl rfl) rfl (by simp) (by simp) (show X.size ≤ 1099511627776 by decide)
  rw [e1] at this; exact this
theorem valid_0 (w : World) : Calls Tryz.prog 5 #[.agg (flr fl0)] w fun e w' => e = .returned (.bool false) ∧ Below w.heap.size w w' := by
  have e1 : vlB fl0 [] = false := rfl
  have := valid_any fl0 [] w (.inl rfl) rfl (by simp) (by simp) (by decide)
  rw [e1] at this; exact this
theorem same_w (a : Option Addr) (c : Nat) (w : World) : Calls Tryz.prog 8 #[.agg (flr (fw2 a c)), .agg (flr (fw2 a c))] w fun e w' => e = .returned (.bool true) ∧ Below w.heap.size w w' := by
  have := same_any (fw2 a c) (fw2 a c) [] [] w (.inl rfl) (.inl rfl) (by simp) rfl rfl
  rw [sameB_refl _ _ _ rfl rfl rfl rfl rfl] at this; exact this
theorem meta_w (a : Option Addr) (c : Nat) (w : World) : Calls Tryz.prog 13 #[.agg (flr (fw2 a c))] w fun e w' => ∃ a c, e = .returned (.agg (flr (fw3 a c))) ∧ Below w.heap.size w w' := by
  refine (meta_any (fw2 a c) [] w (.inl rfl) rfl (by simp)).mono ?_
  rintro e v ⟨a, c, rfl, _, hb⟩
  exact ⟨a, c, rfl, hb⟩
theorem build_o (v : World) : (Instr.build 31 #[(0, .int .i64 1), (2, .string { data := #[99] })]).run Tryz.prog v = .ok (.agg (opr ow)) v := run_build v 31 _ _ (by kernel_rfl)
theorem build_e (v : World) : (Instr.build 35 #[(0, .int .i64 1), (1, .int .i64 1), (4, .int .i64 1)]).run Tryz.prog v = .ok (.agg (evr ew)) v := run_build v 35 _ _ (by kernel_rfl)
theorem eql_w (v : World) : (Op.equalIn 10000 35 (.agg (evr ew)) (.agg (evr ew))).run Tryz.prog v = .ok true v := by
  rw [eql_ev ew ew z32_len z32_len v, (evB_iff ew ew).2 rfl]

section
variable {P : Program} {ops : Array Oper} {rest : List Oper} {o : Oper} {a : Act} {w : World} {Q : Exit → Act → World → Prop}
theorem wpList_deq_g (hw : Region.wanted o (yielded ops a.tmps) = true) (t t' : TypeId) (x y : Operand) (ho : o.op = .binOp .eql t x y t') (c d : Array Value) (hx : a.eval x = .agg c) (hy : a.eval y = .agg d) (hp : P.eqGuardType P.depth t = false) (r : Bool) (hr : ∀ w, (Op.equalIn 10000 t (.agg c) (.agg d)).run P w = .ok r w)
    (h : wpList P ops Q rest (a.put o.dst (.bool r)) w) : wpList P ops Q (o :: rest) a w :=
  wpList_exec_g hw _ (by unfold execOp; simp only [ho, hx, hy]; simp [eqGuard, hp, run_eql_struct, hr, go_sem]) h
end
theorem field_da (f : Fl) (v : World) : (Instr.field 24 (.agg (flr f)) 2).run Tryz.prog v = .ok (.string f.da) v := by kernel_rfl
theorem field_nm (f : Fl) (v : World) : (Instr.field 24 (.agg (flr f)) 1).run Tryz.prog v = .ok (.string f.nm) v := by kernel_rfl
theorem s_ABC : (ABC.toList == [97, 98, 99]) = true := by decide +kernel
theorem s_BC : (BC.toList == [98, 99]) = true := by decide +kernel
theorem s_X : (X.toList == [120]) = true := by decide +kernel
theorem s_em : (em.toList == []) = true := by decide +kernel

set_option maxHeartbeats 4000000 in
set_option maxRecDepth 100000 in
theorem works_any (w : World) : Calls Tryz.prog 4 #[] w fun e w' => e = .returned (.bool true) ∧ Below w.heap.size w w' := by
  have hz := zero27
  have hz3 := zero33
  go_enter Tryz.func4, Tryz.ntmps4
  go_wp2_with fail
  refine (new_w _).mono ?_
  rintro e v0 ⟨rfl, hb0⟩
  have K0 := Lib.hid ((KW.start w).past hb0)
  clear hb0
  have hn0 : Hid ((v0.alloc (.cells (flr fl0) 24)).heap[v0.heap.size]? = some (.cells (flr fl0) 24)) := Lib.hid (by rw [heap_alloc_if, if_pos rfl])
  have K1 := Lib.hid ((K0.out.new (.cells (flr fl0) 24)).row 0 rfl K0.out.size (flr fw0))
  have hB := Lib.hid K0.out.size
  go_wp2_with (first
    | (refine wpList_store_row (by rfl) 24 (.tmp 1) (.tmp 11) rfl _ (flr fw0) rfl rfl 24 _ hn0.out (row27 _) (flr_same _ _) (flr_one _) ?_)
    | (refine wpList_load_row (by rfl) 24 (.tmp 1) rfl _ rfl 24 _ _ (K1.out.at 0 rfl) Tryz.underlying24 rfl (row27 _) ?_))
  refine (app_w _).mono ?_
  rintro e v1 ⟨a1, c1, rfl, hb⟩
  have K2 := Lib.hid (K1.out.past hb)
  have K3 := Lib.hid (K2.out.row 0 rfl hB.out (flr (fw1 a1 c1)))
  clear hb hn0 K0 K1
  revert K2 K3
  generalize v0.heap.size = b at *
  intro K2 K3
  have bo := build_o
  go_wp2_with (first
    | (refine wpList_store_row (by rfl) 24 (.tmp 1) (.tmp 16) rfl _ (flr (fw1 a1 c1)) rfl rfl 24 _ (K2.out.at 0 rfl) (row27 _) (flr_same _ _) (flr_one _) ?_)
    | (refine wpList_load_row (by rfl) 24 (.tmp 1) rfl _ rfl 24 _ _ (K3.out.at 0 rfl) Tryz.underlying24 rfl (row27 _) ?_))
  refine (do_w a1 c1 _).mono ?_
  rintro e v2 ⟨a2, c2, rfl, hb⟩
  have K4 := Lib.hid (K3.out.past hb)
  clear hb K2 K3 bo
  have hB2 := Lib.hid K4.out.size
  have K5 := Lib.hid ((K4.out.new (.cells (flr fl0) 24)).new (.cells (evr ev0) 35))
  rw [World.size_alloc] at K5
  have K6 := Lib.hid (K5.out.row 1 rfl hB2.out (flr (fw2 a2 c2)))
  have K7 := Lib.hid (K6.out.row 0 rfl (Nat.le_succ_of_le hB2.out) (evr ew))
  go_wp2_with (first
    | (refine wpList_store_row (by rfl) 24 (.tmp 4) (.tmp 22) rfl _ (flr (fw2 a2 c2)) rfl rfl 24 _ (K5.out.at 1 rfl) (row27 _) (flr_same _ _) (flr_one _) ?_)
    | (refine wpList_store_row (by rfl) 35 (.tmp 5) (.tmp 23) rfl _ (evr ew) rfl rfl 35 _ (K6.out.at 0 rfl) (row33 _ z32_len) (evr_same _ _ z32_len z32_len) (evr_one _) ?_)
    | (refine wpList_load_row (by rfl) 24 (.tmp 4) rfl _ rfl 24 _ _ (K7.out.at 1 rfl) Tryz.underlying24 rfl (row27 _) ?_))
  refine (read_w a2 c2 _).mono ?_
  rintro e v3 ⟨rfl, hb⟩
  have K8 := Lib.hid (K7.out.past hb)
  clear hb K4 K5 K6 K7 hB2
  revert K8
  generalize v2.heap.size = g
  intro K8
  have q2 := K8.out.cell 1 rfl 2 (y := .string ABC) rfl
  have be := build_e
  have s1 := s_ABC
  have s2 := s_BC
  have s3 := s_X
  have s4 := s_em
  clear hz3
  go_wp2_with (first
    | (refine wpList_load_row_g (by with_unfolding_all rfl) 24 (.tmp 4) rfl _ rfl 24 _ _ (K8.out.at 1 rfl) Tryz.underlying24 rfl (row27 _) ?_)
    | (refine wpList_load_row_g (by with_unfolding_all rfl) 35 (.tmp 5) rfl _ rfl 35 _ _ (K8.out.at 0 rfl) Tryz.underlying35 rfl (row33 _ z32_len) ?_)
    | (refine wpList_deq_g (by with_unfolding_all rfl) 35 35 (.tmp 46) (.tmp 47) rfl (evr ew) (evr ew) rfl rfl (by kernel_rfl) true eql_w ?_))
  refine (valid_w a2 c2 _).mono ?_
  rintro e v4 ⟨rfl, hb⟩
  have K9 := Lib.hid (K8.out.past hb)
  clear hb K8 q2 be
  go_wp2_with (refine wpList_load_row_g (by with_unfolding_all rfl) 24 (.tmp 4) rfl _ rfl 24 _ _ (K9.out.at 1 rfl) Tryz.underlying24 rfl (row27 _) ?_)
  refine (same_w a2 c2 _).mono ?_
  rintro e v5 ⟨rfl, hb⟩
  have K10 := Lib.hid (K9.out.past hb)
  clear hb K9
  go_wp2_with (refine wpList_load_row_g (by with_unfolding_all rfl) 24 (.tmp 4) rfl _ rfl 24 _ _ (K10.out.at 1 rfl) Tryz.underlying24 rfl (row27 _) ?_)
  refine (meta_w a2 c2 _).mono ?_
  rintro e v6 ⟨a3, c3, rfl, hb⟩
  have K11 := Lib.hid (K10.out.past hb)
  have x3 : ∀ v, (Instr.field 24 (.agg (flr (fw3 a3 c3))) 2).run Tryz.prog v = .ok (.string em) v := fun v => field_da _ v
  clear hb K10
  go_wp2_with (refine wpList_load_row_g (by with_unfolding_all rfl) 24 (.tmp 4) rfl _ rfl 24 _ _ (K11.out.at 1 rfl) Tryz.underlying24 rfl (row27 _) ?_)
  refine (meta_w a2 c2 _).mono ?_
  rintro e v7 ⟨a4, c4, rfl, hb⟩
  have K12 := Lib.hid (K11.out.past hb)
  have x4 : ∀ v, (Instr.field 24 (.agg (flr (fw3 a4 c4))) 1).run Tryz.prog v = .ok (.string X) v := fun v => field_nm _ v
  clear hb K11 x3
  go_wp2_with fail
  refine (valid_0 _).mono ?_
  rintro e v8 ⟨rfl, hb⟩
  have K13 := Lib.hid (K12.out.past hb)
  clear hb K12
  go_wp2_with fail
  go_ret
  exact ⟨rfl, K13.out.bel⟩
end Go.Proofs.YtphbkbjgjicncaaGreat
