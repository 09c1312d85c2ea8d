/-
  What Valid of the document's answer (event) returns.
-/
import Derived.Test.YtfilolmbppjbjaaGreatROk
import Derived.Test.YtfilolmbppjbjaaGreatNRval
import Derived.Deep.CutRange
namespace Go.Proofs.YtfilolmbppjbjaaGreat
open Go Go.RowKit

section
variable {P : Program} {ops : Array Oper} {rest : List Oper} {op : Oper} {a : Act} {w : World} {Q : Exit → Act → World → Prop}
theorem wpList_exec_g (hw : Region.wanted op (yielded ops a.tmps) = true) (v : Value) (hv : (execOp a.eval op).run P w = .ok (.value v) w) (h : wpList P ops Q rest (a.put op.dst v) w) : wpList P ops Q (op :: rest) a w := by
  unfold wpList
  rw [if_pos hw]
  unfold Oper.wp
  rw [hv]
  exact .inl h
theorem wpList_deq_g (hw : Region.wanted op (yielded ops a.tmps) = true) (t t' : TypeId) (x y : Operand) (ho : op.op = .binOp .eql t x y t') (c d : Array Value) (hx : a.eval x = .agg c) (hy : a.eval y = .agg d) (hp : P.eqGuardType P.depth t = false) (r : Bool) (hr : ∀ w, (Op.equalIn 10000 t (.agg c) (.agg d)).run P w = .ok r w)
    (h : wpList P ops Q rest (a.put op.dst (.bool r)) w) : wpList P ops Q (op :: rest) a w :=
  wpList_exec_g hw _ (by unfold execOp; simp only [ho, hx, hy]; simp [eqGuard, hp, run_eql_struct, hr, go_sem]) h
end
set_option maxRecDepth 100000 in
set_option maxHeartbeats 400000 in
theorem rvalidE_no (e : Ev) (h : ¬ (0 ≤ e.kind ∧ e.kind ≤ 7)) (w : World) :
    Calls Tryz.prog 41 #[.agg (evr e)] w fun r w' => r = .returned (.bool (okP e)) ∧ Below w.heap.size w w' := by
  have hK0 : Hid (KW w.heap.size w [(w.heap.size, .cells (evr e) 34)] (w.alloc (.cells (evr e) 34))) := Lib.hid ((KW.start w).new _)
  have k0 := hK0.out.cell 0 rfl 0 (evr0 e)
  have hv := Lib.hid (okP_no e h)
  by_cases h0 : e.kind < 0
  · have d1 : decide (e.kind < 0) = true := by simpa using h0
    clear h0 h
    go_enter Tryz.func41, Tryz.ntmps41
    go_wp2_with fail
    go_ret
    exact ⟨by rw [hv.out]; rfl, hK0.out.bel⟩
  · have d1 : decide (e.kind < 0) = false := by simpa using h0
    have d2 : decide (7 < e.kind) = true := by simp; omega
    clear h0 h
    go_enter Tryz.func41, Tryz.ntmps41
    go_wp2_with fail
    go_ret
    exact ⟨by rw [hv.out]; rfl, hK0.out.bel⟩

set_option maxRecDepth 100000 in
set_option maxHeartbeats 4000000 in
theorem rvalidE_yes (e : Ev) (he : e.fit) (h : 0 ≤ e.kind ∧ e.kind ≤ 7) (w : World) :
    Calls Tryz.prog 41 #[.agg (evr e)] w fun r w' => r = .returned (.bool (okP e)) ∧ Below w.heap.size w w' := by
  have hK0 : Hid (KW w.heap.size w [(w.heap.size, .cells (evr e) 34)] (w.alloc (.cells (evr e) 34))) := Lib.hid ((KW.start w).new _)
  have k0 := hK0.out.cell 0 rfl 0 (evr0 e)
  have hv := Lib.hid (okP_eq e h)
  have d1 : decide (e.kind < 0) = false := by simp; omega
  have d2 : decide (7 < e.kind) = false := by simp; omega
  have ct := Lib.hid (fun v => rtells_any e.kind h v)
  have cn := Lib.hid (fun v => nm.rvalid_any ⟨e.name.toArray⟩ (by have := he.n; rw [mk_size]; omega) v)
  have hli : nm.li ⟨e.name.toArray⟩ = e.name := li_label _
  rw [hli] at cn
  have hz := zero78
  clear h hli
  go_enter Tryz.func41, Tryz.ntmps41
  go_wp2_with fail
  refine (ct.out _).mono ?_
  rintro r v ⟨rfl, hB⟩
  have hK1 := Lib.hid (hK0.out.past hB)
  have hK2 := Lib.hid (hK1.out.new (.cells #[.bool false, .bool false, .bool false, .bool false, .bool false] 78))
  have hK3 := Lib.hid (hK2.out.row 0 rfl (by have := hK1.out.size; omega) (TB e.kind))
  have k1 := hK3.out.cell 1 rfl 0 (evr0 e)
  clear hB k0
  go_upto_if 24 with (with_reducible refine wpList_store_row rfl 78 (.tmp 3) (.tmp 21) rfl _ (TB e.kind) rfl rfl 78 _ (hK2.out.at 0 rfl) (TB_info _) (TB_old _) (TB_one _) ?_)
  go_cut [4] from 22 to 24 (fun s wx => s = .int .i64 (least e.kind) ∧ Hid (KW w.heap.size w [(v.heap.size, .cells (TB e.kind) 78), (w.heap.size, .cells (evr e) 34)] wx))
  case first =>
    by_cases h1 : e.kind = 1
    · have d3 : (e.kind == 1) = true := by simpa using h1
      have hl : Hid (least e.kind = 1) := Lib.hid (by rw [h1]; rfl)
      clear h1
      go_wp2_with fail
      go_meet
      exact ⟨by rw [hl.out], hK3⟩
    · have d3 : (e.kind == 1) = false := by simpa using h1
      have hl : Hid (least e.kind = 0) := Lib.hid (by unfold least; rw [if_neg h1])
      clear h1
      go_wp2_with fail
      go_meet
      exact ⟨by rw [hl.out], hK3⟩
  case rest =>
  obtain ⟨rfl, hK4⟩ := hcut
  clear hK0 hK1 hK2 hK3 k1 hz
  have n2 := hK4.out.cell 1 rfl 2 (evr2 e)
  go_wp2_with fail
  refine (cn.out _).mono ?_
  rintro r u ⟨rfl, hB⟩
  have hK5 := Lib.hid (hK4.out.past hB)
  clear hB n2 hK4
  go_upto_region 8 with fail
  go_cut [6] from 28 to 49 (fun s wx => s = .bool (vI e.kind e.id) ∧ Hid (KW w.heap.size w [(v.heap.size, .cells (TB e.kind) 78), (w.heap.size, .cells (evr e) 34)] wx))
  case first =>
    have hI : Hid (vI e.kind e.id = if tI e.kind then decide (1 ≤ e.id ∧ e.id ≤ 1099511627776) else e.id == 0) := Lib.hid rfl
    have t0 := hK5.out.cell 0 rfl 0 (y := .bool (tI e.kind)) rfl
    have f1 := hK5.out.cell 1 rfl 1 (evr1 e)
    generalize tI e.kind = b0 at *
    cases b0
    · go_wp2_with fail
      go_meet
      exact ⟨by rw [hI.out]; rfl, hK5⟩
    · by_cases h1 : 1 ≤ e.id
      · have d3 : decide (1 ≤ e.id) = true := by simpa using h1
        by_cases h2 : e.id ≤ 1099511627776
        · have d4 : decide (e.id ≤ 1099511627776) = true := by simpa using h2
          have hl : Hid (vI e.kind e.id = true) := Lib.hid (by rw [hI.out, if_pos rfl]; simp [h1, h2])
          clear h1 h2
          go_wp2_with fail
          go_meet
          exact ⟨by rw [hl.out], hK5⟩
        · have d4 : decide (e.id ≤ 1099511627776) = false := by simpa using h2
          have hl : Hid (vI e.kind e.id = false) := Lib.hid (by rw [hI.out, if_pos rfl]; simp; omega)
          clear h1 h2
          go_wp2_with fail
          go_meet
          exact ⟨by rw [hl.out], hK5⟩
      · have d3 : decide (1 ≤ e.id) = false := by simpa using h1
        have hl : Hid (vI e.kind e.id = false) := Lib.hid (by rw [hI.out, if_pos rfl]; simp; omega)
        clear h1
        go_wp2_with fail
        go_meet
        exact ⟨by rw [hl.out], hK5⟩
  case rest =>
  obtain ⟨rfl, hK6⟩ := hcut
  clear hK5
  go_upto_region 9 with fail
  go_cut [7] from 50 to 64 (fun s wx => s = .bool (vN nm.vld e.kind e.name) ∧ Hid (KW w.heap.size w [(v.heap.size, .cells (TB e.kind) 78), (w.heap.size, .cells (evr e) 34)] wx))
  case first =>
    have hI : Hid (vN nm.vld e.kind e.name = if tN e.kind then nm.vld e.name else e.name == []) := Lib.hid rfl
    have t0 := hK6.out.cell 0 rfl 1 (y := .bool (tN e.kind)) rfl
    have f1 := hK6.out.cell 1 rfl 2 (evr2 e)
    generalize tN e.kind = b0 at *
    cases b0
    · by_cases h1 : e.name = []
      · have hq : Hid ((⟨e.name.toArray⟩ : ByteArray) = ⟨#[]⟩) := Lib.hid (by rw [h1])
        have hl : Hid (vN nm.vld e.kind e.name = true) := Lib.hid (by rw [hI.out]; simp [h1])
        rw [hq.out] at f1
        clear h1
        go_wp2_with fail
        go_meet
        exact ⟨by rw [hl.out], hK6⟩
      · have hq : (ByteArray.mk e.name.toArray).toList.isEmpty = false := by
          rw [ByteArray.toList_mk]
          simp [h1]
        have hl : Hid (vN nm.vld e.kind e.name = false) := Lib.hid (by rw [hI.out]; simp [h1])
        clear h1
        generalize ByteArray.mk e.name.toArray = X at *
        go_wp2_with fail
        go_meet
        exact ⟨by rw [hl.out], hK6⟩
    · generalize nm.vld e.name = bv at *
      cases bv
      · go_wp2_with fail
        go_meet
        exact ⟨by rw [hI.out]; rfl, hK6⟩
      · go_wp2_with fail
        go_meet
        exact ⟨by rw [hI.out]; rfl, hK6⟩
  case rest =>
  obtain ⟨rfl, hK7⟩ := hcut
  clear hK6
  go_upto_region 10 with fail
  go_cut [8] from 65 to 86 (fun s wx => s = .bool (vT e.kind e.time) ∧ Hid (KW w.heap.size w [(v.heap.size, .cells (TB e.kind) 78), (w.heap.size, .cells (evr e) 34)] wx))
  case first =>
    have hI : Hid (vT e.kind e.time = if tT e.kind then decide (0 ≤ e.time ∧ e.time ≤ 1099511627776) else e.time == 0) := Lib.hid rfl
    have t0 := hK7.out.cell 0 rfl 2 (y := .bool (tT e.kind)) rfl
    have f1 := hK7.out.cell 1 rfl 3 (evr3 e)
    generalize tT e.kind = b0 at *
    cases b0
    · go_wp2_with fail
      go_meet
      exact ⟨by rw [hI.out]; rfl, hK7⟩
    · by_cases h1 : 0 ≤ e.time
      · have d3 : decide (0 ≤ e.time) = true := by simpa using h1
        by_cases h2 : e.time ≤ 1099511627776
        · have d4 : decide (e.time ≤ 1099511627776) = true := by simpa using h2
          have hl : Hid (vT e.kind e.time = true) := Lib.hid (by rw [hI.out, if_pos rfl]; simp [h1, h2])
          clear h1 h2
          go_wp2_with fail
          go_meet
          exact ⟨by rw [hl.out], hK7⟩
        · have d4 : decide (e.time ≤ 1099511627776) = false := by simpa using h2
          have hl : Hid (vT e.kind e.time = false) := Lib.hid (by rw [hI.out, if_pos rfl]; simp; omega)
          clear h1 h2
          go_wp2_with fail
          go_meet
          exact ⟨by rw [hl.out], hK7⟩
      · have d3 : decide (0 ≤ e.time) = false := by simpa using h1
        have hl : Hid (vT e.kind e.time = false) := Lib.hid (by rw [hI.out, if_pos rfl]; simp; omega)
        clear h1
        go_wp2_with fail
        go_meet
        exact ⟨by rw [hl.out], hK7⟩
  case rest =>
  obtain ⟨rfl, hK8⟩ := hcut
  clear hK7
  go_upto_region 11 with fail
  go_cut [9] from 87 to 109 (fun s wx => s = .bool (vL e.kind e.len) ∧ Hid (KW w.heap.size w [(v.heap.size, .cells (TB e.kind) 78), (w.heap.size, .cells (evr e) 34)] wx))
  case first =>
    have hI : Hid (vL e.kind e.len = if tL e.kind then decide (least e.kind ≤ e.len ∧ e.len ≤ 600) else e.len == 0) := Lib.hid rfl
    have t0 := hK8.out.cell 0 rfl 3 (y := .bool (tL e.kind)) rfl
    have f1 := hK8.out.cell 1 rfl 4 (evr4 e)
    generalize tL e.kind = b0 at *
    cases b0
    · go_wp2_with fail
      go_meet
      exact ⟨by rw [hI.out]; rfl, hK8⟩
    · by_cases h1 : least e.kind ≤ e.len
      · have d3 : decide (least e.kind ≤ e.len) = true := by simpa using h1
        by_cases h2 : e.len ≤ 600
        · have d4 : decide (e.len ≤ 600) = true := by simpa using h2
          have hl : Hid (vL e.kind e.len = true) := Lib.hid (by rw [hI.out, if_pos rfl]; simp [h1, h2])
          clear h1 h2
          go_wp2_with fail
          go_meet
          exact ⟨by rw [hl.out], hK8⟩
        · have d4 : decide (e.len ≤ 600) = false := by simpa using h2
          have hl : Hid (vL e.kind e.len = false) := Lib.hid (by rw [hI.out, if_pos rfl]; simp; omega)
          clear h1 h2
          go_wp2_with fail
          go_meet
          exact ⟨by rw [hl.out], hK8⟩
      · have d3 : decide (least e.kind ≤ e.len) = false := by simpa using h1
        have hl : Hid (vL e.kind e.len = false) := Lib.hid (by rw [hI.out, if_pos rfl]; simp; omega)
        clear h1
        go_wp2_with fail
        go_meet
        exact ⟨by rw [hl.out], hK8⟩
  case rest =>
  obtain ⟨rfl, hK9⟩ := hcut
  clear hK8
  go_upto_region 12 with fail
  go_cut [10] from 110 to 117 (fun s wx => s = .bool (vS e.kind e.sum) ∧ Hid (KW w.heap.size w [(v.heap.size, .cells (TB e.kind) 78), (w.heap.size, .cells (evr e) 34)] wx))
  case first =>
    have hI : Hid (vS e.kind e.sum = (tS e.kind || e.sum == zs)) := Lib.hid rfl
    have t0 := hK9.out.cell 0 rfl 4 (y := .bool (tS e.kind)) rfl
    have hls := Lib.hid (fun u (h : u.heap[w.heap.size]? = some (.cells (evr e) 34)) => load_sum e he.w.s u w.heap.size 34 h)
    have hq := Lib.hid (fun u => eql_dig e.sum zs he.w.s zs_len u)
    generalize tS e.kind = b0 at *
    cases b0
    · have hl : Hid (vS e.kind e.sum = (e.sum == zs)) := Lib.hid (by rw [hI.out]; rfl)
      go_wp2_with (first
        | (refine wpList_exec_g (by rfl) (.agg (row e.sum)) (by unfold execOp; exact run_val (hls.out _ (hK9.out.at 1 rfl))) ?_)
        | (refine wpList_deq_g (by rfl) 23 _ _ _ rfl (row e.sum) (row zs) rfl rfl (by kernel_rfl) (e.sum == zs) hq.out ?_))
      go_meet
      exact ⟨by rw [hl.out], hK9⟩
    · go_wp2_with fail
      go_meet
      exact ⟨by rw [hI.out]; rfl, hK9⟩
  case rest =>
  obtain ⟨rfl, hK10⟩ := hcut
  clear hK9
  go_upto_region 13 with fail
  generalize vI e.kind e.id = q0 at *
  generalize vN nm.vld e.kind e.name = q1 at *
  generalize vT e.kind e.time = q2 at *
  generalize vL e.kind e.len = q3 at *
  generalize vS e.kind e.sum = q4 at *
  cases q0
  · go_wp2_with fail
    go_ret
    exact ⟨by rw [hv.out]; rfl, hK10.out.bel⟩
  cases q1
  · go_wp2_with fail
    go_ret
    exact ⟨by rw [hv.out]; rfl, hK10.out.bel⟩
  cases q2
  · go_wp2_with fail
    go_ret
    exact ⟨by rw [hv.out]; rfl, hK10.out.bel⟩
  cases q3
  · go_wp2_with fail
    go_ret
    exact ⟨by rw [hv.out]; rfl, hK10.out.bel⟩
  go_wp2_with fail
  go_ret
  exact ⟨by rw [hv.out]; rfl, hK10.out.bel⟩
theorem rvalidE_any (e : Ev) (he : e.fit) (w : World) :
    Calls Tryz.prog 41 #[.agg (evr e)] w fun r w' => r = .returned (.bool (okP e)) ∧ Below w.heap.size w w' := by
  by_cases h : 0 ≤ e.kind ∧ e.kind ≤ 7
  · exact rvalidE_yes e he h w
  · exact rvalidE_no e h w
end Go.Proofs.YtfilolmbppjbjaaGreat
