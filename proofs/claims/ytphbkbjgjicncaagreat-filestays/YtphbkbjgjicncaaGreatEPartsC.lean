/-
  What 'parts' returns: the parts of an event, in a slice of its own.
-/
import Derived.Test.YtphbkbjgjicncaaGreatEParts
import Derived.Test.YtphbkbjgjicncaaGreatQuiet
namespace Go.Proofs.YtphbkbjgjicncaaGreat.ev
open Go Go.RowKit
set_option linter.unusedVariables false


theorem park_region {P : Program} {ops : Array Oper} {id : Nat} {Q : Exit → Act → World → Prop} {a : Act} {w : World} (h : ∀ X : Prop, Hid ((Code.region id ops true).wp P Q a w → X) → X) : (Code.region id ops true).wp P Q a w := h _ (fun k => k)
def partsOf (e : Ev) : List Pt :=
  if e.kind = 0 ∨ e.kind = 4 ∨ e.kind = 5 then [.kind e.kind, aboutP e, .label e.name]
  else if e.kind = 1 then [.kind e.kind, aboutP e, .added e.len]
  else if e.kind = 2 then [.kind e.kind, aboutP e, .moment e.time, .length e.len, .sum e.sum]
  else if e.kind = 3 then [.kind e.kind, aboutP e, .moment e.time]
  else [.kind e.kind, aboutP e]
/-- The parts as they lie. -/
def pts (l : List Pt) : Array Value := (l.map Pt.enc).toArray

section
variable {P : Program} {ops : Array Oper} {C : World → Prop} {Q : Act → Prop} {a : Act} {o : Oper} {rest : List Oper}
theorem wpQuiet_mkI (hw : Region.wanted o (yielded ops a.tmps) = true) (t : TypeId) (x : Operand) (ho : o.op = .makeInterface t x) (v : Value) (hx : a.eval x = v) (ht : P.concrete t = true)
    (h : wpQuiet P ops C Q rest (a.put o.dst (.iface t v))) : wpQuiet P ops C Q (o :: rest) a :=
  wpQuiet_val hw _ (fun w _ => by unfold execOp; simp only [ho, hx]; simp [go_sem, run_makeInterface w t v ht]) h
end
section
variable {ops : Array Oper} {C : World → Prop} {Q : Act → Prop} {a : Act} {o : Oper} {rest : List Oper}
theorem field41 (z k q : Nat) (h : (k, q) = (0, 0) ∨ (k, q) = (1, 1) ∨ (k, q) = (2, 2) ∨ (k, q) = (3, 3) ∨ (k, q) = (4, 4) ∨ (k, q) = (5, 5)) (v : World) :
    (Instr.fieldAt 35 (.pointer (some ⟨z, 0, none⟩)) k).run Tryz.prog v = .ok (.pointer (some ⟨z, q, none⟩)) v := by
  rcases h with h | h | h | h | h | h <;> cases h <;> (unfold Instr.fieldAt; simp [go_sem, run_underlying Tryz.underlying35])
theorem wpQuiet_field (hw : Region.wanted o (yielded ops a.tmps) = true) (k : Nat) (x : Operand) (ho : o.op = .fieldAddr 35 x k) (z : Nat) (hx : a.eval x = .pointer (some ⟨z, 0, none⟩)) (hk : k < 6)
    (h : wpQuiet Tryz.prog ops C Q rest (a.put o.dst (.pointer (some ⟨z, k, none⟩)))) : wpQuiet Tryz.prog ops C Q (o :: rest) a :=
  wpQuiet_val hw _ (fun w _ => by unfold execOp; simp only [ho, hx]; exact run_val (field41 z k k (by simp; omega) w)) h
theorem wpQuiet_cell (hw : Region.wanted o (yielded ops a.tmps) = true) (t : TypeId) (x : Operand) (ho : o.op = .load t x) (z k : Nat) (hx : a.eval x = .pointer (some ⟨z, k, none⟩)) (ha : ∀ w, (isAgg t).run Tryz.prog w = .ok false w) (v : Value)
    (hc : ∀ w, C w → w.cell? ⟨z, k, none⟩ = some v) (h : wpQuiet Tryz.prog ops C Q rest (a.put o.dst v)) : wpQuiet Tryz.prog ops C Q (o :: rest) a :=
  wpQuiet_val hw v (fun w hC => by unfold execOp; simp only [ho, hx]; exact run_val (loadCell t z k w v ha (hc w hC))) h
theorem wpQuiet_mid (hw : Region.wanted o (yielded ops a.tmps) = true) (t : TypeId) (x : Operand) (ho : o.op = .load t x) (z k : Nat) (hx : a.eval x = .pointer (some ⟨z, k, none⟩)) (v : Value)
    (hc : ∀ w, C w → (Instr.loadAt t (.pointer (some ⟨z, k, none⟩))).run Tryz.prog w = .ok v w) (h : wpQuiet Tryz.prog ops C Q rest (a.put o.dst v)) : wpQuiet Tryz.prog ops C Q (o :: rest) a :=
  wpQuiet_val hw v (fun w hC => by unfold execOp; simp only [ho, hx]; exact run_val (hc w hC)) h
end
theorem info41 : (Tryz.prog.info? 35).map (·.size) = some 37 := by kernel_rfl
theorem ent29 : ∀ args w, (callFunc 29 args).run Tryz.prog w = .ok (.enter 29 args) w := enters_of Tryz.func29 (by kernel_rfl) rfl
theorem load_sum (e : Ev) (hs : e.sum.length = 32) (v : World) (g : Nat) (t : TypeId) (h : v.heap[g]? = some (.cells (evr e) t)) : (Instr.loadAt 33 (.pointer (some ⟨g, 5, none⟩))).run Tryz.prog v = .ok (.agg (row e.sum)) v := by
  have := run_loadAt_mid (P := Tryz.prog) v g 5 33 (row e.sum).toList _ (fun j x hx => by
    rw [cell_of_row v g (5 + j) _ _ _ h]
    unfold evr
    rw [Array.getElem?_append_right (by simp), ← Array.getElem?_toList] at *
    simpa using hx) Tryz.underlying33 rfl (by rw [Array.length_toList, row_size, hs]; exact info31)
  simpa using this
theorem about_iface (e : Ev) : ∃ t v, (aboutP e).enc = .iface t v := by
  unfold aboutP; split <;> exact ⟨_, _, rfl⟩
structure PW (w : World) (b : Nat) (c : Array Value) (v : World) : Prop where
  ev : v.heap[b]? = some (.cells c 35)
  bel : Below w.heap.size w v
theorem PW.cell {w : World} {b : Nat} {c : Array Value} {v : World} (h : PW w b c v) {j : Nat} {x : Value} (hx : c[j]? = some x) : v.cell? ⟨b, j, none⟩ = some x := (cell_of_row v b j _ _ _ h.ev).trans hx
theorem PW.step {w : World} {b : Nat} {c : Array Value} {v v' : World} (h : PW w b c v) (hB : Below v.heap.size v v') : PW w b c v' :=
  ⟨(hB.block b (lt_of_some h.ev)).trans h.ev, h.bel.trans (hB.mono h.bel.size)⟩
theorem about_in {w : World} {b : Nat} {e : Ev} : ∀ v, PW w b (evr e) v → Calls Tryz.prog 29 #[.agg (evr e)] v fun r v' => r = .returned (aboutP e).enc ∧ PW w b (evr e) v' :=
  fun v h => (about_any e v).mono fun _ _ k => ⟨k.1, h.step k.2⟩

set_option maxRecDepth 100000 in
set_option maxHeartbeats 400000 in
theorem parts_create (e : Ev) (hs : e.sum.length = 32) (hk : e.kind = 0) (w : World) :
    Calls Tryz.prog 22 #[.agg (evr e)] w fun r w' => ∃ g, r = .returned (.slice (some ⟨g, 0, none⟩) 3 3) ∧ w.heap.size ≤ g ∧ w'.heap[g]? = some (.cells (pts [.kind e.kind, aboutP e, .label e.name]) 57) ∧ Below w.heap.size w w' := by
  have h0 := cell_new w _ 35 0 _ (evr0 e)
  have hd0 : (e.kind == 0) = true := by simpa using hk
  have hW : Hid (PW w w.heap.size (evr e) (w.alloc (.cells (evr e) 35)).drew) := Lib.hid ⟨by show (w.alloc (.cells (evr e) 35)).heap[w.heap.size]? = _; rw [heap_alloc_if, if_pos rfl], ((Below.refl _ _).alloc (Nat.le_refl _) _).drew⟩
  have hi : Hid ((Tryz.prog.info? 35).map (·.size) = some (evr e).size) := Lib.hid (by rw [evr_size, hs]; exact info41)
  have e2 := Lib.hid (evr2 e)
  have e3 := Lib.hid (evr3 e)
  have e4 := Lib.hid (evr4 e)
  have ls := Lib.hid (load_sum e hs)
  have ab := @about_in w w.heap.size e
  obtain ⟨ti, tv, hI⟩ := about_iface e
  have hP : Hid (pts [.kind e.kind, aboutP e, .label e.name] = #[.iface 73 (.int .i64 e.kind), .iface ti tv, .iface 75 (.string ⟨e.name.toArray⟩)]) := Lib.hid (by unfold pts; simp only [List.map_cons, List.map_nil, hI]; rfl)
  rw [hI] at ab
  rw [hP.out]
  clear hI hP hk
  generalize evr e = c at *
  go_enter Tryz.func22, Tryz.ntmps22
  go_wp2_with (refine park_region (fun Pk hX => ?_))
  refine hX.out ?_
  refine wp_region_class_tail 7 (PW w w.heap.size c) (by kernel_rfl) (by kernel_rfl) hW.out ?_
  simp only [List.take_succ_cons, List.take_zero, List.drop_succ_cons, List.drop_zero]
  refine wpQuiet_move (by rfl) _ (.inl rfl) (.int .i64 e.kind) rfl ?_
  refine wpQuiet_mkI (by rfl) 73 _ rfl (.int .i64 e.kind) rfl (by kernel_rfl) ?_
  refine wpQuiet_load (by rfl) 35 (.tmp 1) rfl _ rfl 35 c _ (fun _ h => h.ev) Tryz.underlying35 rfl hi.out ?_
  refine wpQuiet_call1 (by rfl) 29 (.tmp 14) _ rfl ent29 (.agg c) rfl _ ab ?_
  simp only [Act.put, List.setIfInBounds_toArray, List.set_cons_zero, List.set_cons_succ]
  refine wpQuiet_field (by rfl) 2 _ rfl w.heap.size rfl (by decide) ?_
  refine wpQuiet_cell (by rfl) 9 _ rfl w.heap.size 2 rfl Tryz.isAgg9 (.string ⟨e.name.toArray⟩) (fun _ h => h.cell e2.out) ?_
  refine wpQuiet_mkI (by rfl) 75 _ rfl (.string ⟨e.name.toArray⟩) rfl (by kernel_rfl) ?_
  simp only [Act.put, List.setIfInBounds_toArray, List.set_cons_zero, List.set_cons_succ]
  refine wpQuiet_nil ?_
  intro u hu
  go_wp2_with fail
  go_ret
  exact ⟨_, rfl, hu.bel.size, by rw [heap_alloc_if, if_pos rfl], hu.bel.alloc hu.bel.size _⟩
set_option maxRecDepth 100000 in
set_option maxHeartbeats 400000 in
theorem parts_hold (e : Ev) (hs : e.sum.length = 32) (hk : e.kind = 4) (w : World) :
    Calls Tryz.prog 22 #[.agg (evr e)] w fun r w' => ∃ g, r = .returned (.slice (some ⟨g, 0, none⟩) 3 3) ∧ w.heap.size ≤ g ∧ w'.heap[g]? = some (.cells (pts [.kind e.kind, aboutP e, .label e.name]) 57) ∧ Below w.heap.size w w' := by
  have h0 := cell_new w _ 35 0 _ (evr0 e)
  have hd0 : (e.kind == 0) = false := by rw [hk]; rfl
  have hd1 : (e.kind == 4) = true := by simpa using hk
  have hW : Hid (PW w w.heap.size (evr e) (w.alloc (.cells (evr e) 35)).drew) := Lib.hid ⟨by show (w.alloc (.cells (evr e) 35)).heap[w.heap.size]? = _; rw [heap_alloc_if, if_pos rfl], ((Below.refl _ _).alloc (Nat.le_refl _) _).drew⟩
  have hi : Hid ((Tryz.prog.info? 35).map (·.size) = some (evr e).size) := Lib.hid (by rw [evr_size, hs]; exact info41)
  have e2 := Lib.hid (evr2 e)
  have e3 := Lib.hid (evr3 e)
  have e4 := Lib.hid (evr4 e)
  have ls := Lib.hid (load_sum e hs)
  have ab := @about_in w w.heap.size e
  obtain ⟨ti, tv, hI⟩ := about_iface e
  have hP : Hid (pts [.kind e.kind, aboutP e, .label e.name] = #[.iface 73 (.int .i64 e.kind), .iface ti tv, .iface 75 (.string ⟨e.name.toArray⟩)]) := Lib.hid (by unfold pts; simp only [List.map_cons, List.map_nil, hI]; rfl)
  rw [hI] at ab
  rw [hP.out]
  clear hI hP hk
  generalize evr e = c at *
  go_enter Tryz.func22, Tryz.ntmps22
  go_wp2_with (refine park_region (fun Pk hX => ?_))
  refine hX.out ?_
  refine wp_region_class_tail 7 (PW w w.heap.size c) (by kernel_rfl) (by kernel_rfl) hW.out ?_
  simp only [List.take_succ_cons, List.take_zero, List.drop_succ_cons, List.drop_zero]
  refine wpQuiet_move (by rfl) _ (.inl rfl) (.int .i64 e.kind) rfl ?_
  refine wpQuiet_mkI (by rfl) 73 _ rfl (.int .i64 e.kind) rfl (by kernel_rfl) ?_
  refine wpQuiet_load (by rfl) 35 (.tmp 1) rfl _ rfl 35 c _ (fun _ h => h.ev) Tryz.underlying35 rfl hi.out ?_
  refine wpQuiet_call1 (by rfl) 29 (.tmp 14) _ rfl ent29 (.agg c) rfl _ ab ?_
  simp only [Act.put, List.setIfInBounds_toArray, List.set_cons_zero, List.set_cons_succ]
  refine wpQuiet_field (by rfl) 2 _ rfl w.heap.size rfl (by decide) ?_
  refine wpQuiet_cell (by rfl) 9 _ rfl w.heap.size 2 rfl Tryz.isAgg9 (.string ⟨e.name.toArray⟩) (fun _ h => h.cell e2.out) ?_
  refine wpQuiet_mkI (by rfl) 75 _ rfl (.string ⟨e.name.toArray⟩) rfl (by kernel_rfl) ?_
  simp only [Act.put, List.setIfInBounds_toArray, List.set_cons_zero, List.set_cons_succ]
  refine wpQuiet_nil ?_
  intro u hu
  go_wp2_with fail
  go_ret
  exact ⟨_, rfl, hu.bel.size, by rw [heap_alloc_if, if_pos rfl], hu.bel.alloc hu.bel.size _⟩
set_option maxRecDepth 100000 in
set_option maxHeartbeats 400000 in
theorem parts_release (e : Ev) (hs : e.sum.length = 32) (hk : e.kind = 5) (w : World) :
    Calls Tryz.prog 22 #[.agg (evr e)] w fun r w' => ∃ g, r = .returned (.slice (some ⟨g, 0, none⟩) 3 3) ∧ w.heap.size ≤ g ∧ w'.heap[g]? = some (.cells (pts [.kind e.kind, aboutP e, .label e.name]) 57) ∧ Below w.heap.size w w' := by
  have h0 := cell_new w _ 35 0 _ (evr0 e)
  have hd0 : (e.kind == 0) = false := by rw [hk]; rfl
  have hd1 : (e.kind == 4) = false := by rw [hk]; rfl
  have hd2 : (e.kind == 5) = true := by simpa using hk
  have hW : Hid (PW w w.heap.size (evr e) (w.alloc (.cells (evr e) 35)).drew) := Lib.hid ⟨by show (w.alloc (.cells (evr e) 35)).heap[w.heap.size]? = _; rw [heap_alloc_if, if_pos rfl], ((Below.refl _ _).alloc (Nat.le_refl _) _).drew⟩
  have hi : Hid ((Tryz.prog.info? 35).map (·.size) = some (evr e).size) := Lib.hid (by rw [evr_size, hs]; exact info41)
  have e2 := Lib.hid (evr2 e)
  have e3 := Lib.hid (evr3 e)
  have e4 := Lib.hid (evr4 e)
  have ls := Lib.hid (load_sum e hs)
  have ab := @about_in w w.heap.size e
  obtain ⟨ti, tv, hI⟩ := about_iface e
  have hP : Hid (pts [.kind e.kind, aboutP e, .label e.name] = #[.iface 73 (.int .i64 e.kind), .iface ti tv, .iface 75 (.string ⟨e.name.toArray⟩)]) := Lib.hid (by unfold pts; simp only [List.map_cons, List.map_nil, hI]; rfl)
  rw [hI] at ab
  rw [hP.out]
  clear hI hP hk
  generalize evr e = c at *
  go_enter Tryz.func22, Tryz.ntmps22
  go_wp2_with (refine park_region (fun Pk hX => ?_))
  refine hX.out ?_
  refine wp_region_class_tail 7 (PW w w.heap.size c) (by kernel_rfl) (by kernel_rfl) hW.out ?_
  simp only [List.take_succ_cons, List.take_zero, List.drop_succ_cons, List.drop_zero]
  refine wpQuiet_move (by rfl) _ (.inl rfl) (.int .i64 e.kind) rfl ?_
  refine wpQuiet_mkI (by rfl) 73 _ rfl (.int .i64 e.kind) rfl (by kernel_rfl) ?_
  refine wpQuiet_load (by rfl) 35 (.tmp 1) rfl _ rfl 35 c _ (fun _ h => h.ev) Tryz.underlying35 rfl hi.out ?_
  refine wpQuiet_call1 (by rfl) 29 (.tmp 14) _ rfl ent29 (.agg c) rfl _ ab ?_
  simp only [Act.put, List.setIfInBounds_toArray, List.set_cons_zero, List.set_cons_succ]
  refine wpQuiet_field (by rfl) 2 _ rfl w.heap.size rfl (by decide) ?_
  refine wpQuiet_cell (by rfl) 9 _ rfl w.heap.size 2 rfl Tryz.isAgg9 (.string ⟨e.name.toArray⟩) (fun _ h => h.cell e2.out) ?_
  refine wpQuiet_mkI (by rfl) 75 _ rfl (.string ⟨e.name.toArray⟩) rfl (by kernel_rfl) ?_
  simp only [Act.put, List.setIfInBounds_toArray, List.set_cons_zero, List.set_cons_succ]
  refine wpQuiet_nil ?_
  intro u hu
  go_wp2_with fail
  go_ret
  exact ⟨_, rfl, hu.bel.size, by rw [heap_alloc_if, if_pos rfl], hu.bel.alloc hu.bel.size _⟩
set_option maxRecDepth 100000 in
set_option maxHeartbeats 400000 in
theorem parts_append (e : Ev) (hs : e.sum.length = 32) (hk : e.kind = 1) (w : World) :
    Calls Tryz.prog 22 #[.agg (evr e)] w fun r w' => ∃ g, r = .returned (.slice (some ⟨g, 0, none⟩) 3 3) ∧ w.heap.size ≤ g ∧ w'.heap[g]? = some (.cells (pts [.kind e.kind, aboutP e, .added e.len]) 57) ∧ Below w.heap.size w w' := by
  have h0 := cell_new w _ 35 0 _ (evr0 e)
  have hd0 : (e.kind == 0) = false := by rw [hk]; rfl
  have hd1 : (e.kind == 4) = false := by rw [hk]; rfl
  have hd2 : (e.kind == 5) = false := by rw [hk]; rfl
  have hd3 : (e.kind == 1) = true := by simpa using hk
  have hW : Hid (PW w w.heap.size (evr e) (w.alloc (.cells (evr e) 35)).drew) := Lib.hid ⟨by show (w.alloc (.cells (evr e) 35)).heap[w.heap.size]? = _; rw [heap_alloc_if, if_pos rfl], ((Below.refl _ _).alloc (Nat.le_refl _) _).drew⟩
  have hi : Hid ((Tryz.prog.info? 35).map (·.size) = some (evr e).size) := Lib.hid (by rw [evr_size, hs]; exact info41)
  have e2 := Lib.hid (evr2 e)
  have e3 := Lib.hid (evr3 e)
  have e4 := Lib.hid (evr4 e)
  have ls := Lib.hid (load_sum e hs)
  have ab := @about_in w w.heap.size e
  obtain ⟨ti, tv, hI⟩ := about_iface e
  have hP : Hid (pts [.kind e.kind, aboutP e, .added e.len] = #[.iface 73 (.int .i64 e.kind), .iface ti tv, .iface 76 (.int .i64 e.len)]) := Lib.hid (by unfold pts; simp only [List.map_cons, List.map_nil, hI]; rfl)
  rw [hI] at ab
  rw [hP.out]
  clear hI hP hk
  generalize evr e = c at *
  go_enter Tryz.func22, Tryz.ntmps22
  go_wp2_with (refine park_region (fun Pk hX => ?_))
  refine hX.out ?_
  refine wp_region_class_tail 7 (PW w w.heap.size c) (by kernel_rfl) (by kernel_rfl) hW.out ?_
  simp only [List.take_succ_cons, List.take_zero, List.drop_succ_cons, List.drop_zero]
  refine wpQuiet_move (by rfl) _ (.inl rfl) (.int .i64 e.kind) rfl ?_
  refine wpQuiet_mkI (by rfl) 73 _ rfl (.int .i64 e.kind) rfl (by kernel_rfl) ?_
  refine wpQuiet_load (by rfl) 35 (.tmp 1) rfl _ rfl 35 c _ (fun _ h => h.ev) Tryz.underlying35 rfl hi.out ?_
  refine wpQuiet_call1 (by rfl) 29 (.tmp 24) _ rfl ent29 (.agg c) rfl _ ab ?_
  simp only [Act.put, List.setIfInBounds_toArray, List.set_cons_zero, List.set_cons_succ]
  refine wpQuiet_field (by rfl) 4 _ rfl w.heap.size rfl (by decide) ?_
  refine wpQuiet_cell (by rfl) 3 _ rfl w.heap.size 4 rfl Tryz.isAgg3 (.int .i64 e.len) (fun _ h => h.cell e4.out) ?_
  refine wpQuiet_mkI (by rfl) 76 _ rfl (.int .i64 e.len) rfl (by kernel_rfl) ?_
  simp only [Act.put, List.setIfInBounds_toArray, List.set_cons_zero, List.set_cons_succ]
  refine wpQuiet_nil ?_
  intro u hu
  go_wp2_with fail
  go_ret
  exact ⟨_, rfl, hu.bel.size, by rw [heap_alloc_if, if_pos rfl], hu.bel.alloc hu.bel.size _⟩
set_option maxRecDepth 100000 in
set_option maxHeartbeats 400000 in
theorem parts_seal (e : Ev) (hs : e.sum.length = 32) (hk : e.kind = 2) (w : World) :
    Calls Tryz.prog 22 #[.agg (evr e)] w fun r w' => ∃ g, r = .returned (.slice (some ⟨g, 0, none⟩) 5 5) ∧ w.heap.size ≤ g ∧ w'.heap[g]? = some (.cells (pts [.kind e.kind, aboutP e, .moment e.time, .length e.len, .sum e.sum]) 57) ∧ Below w.heap.size w w' := by
  have h0 := cell_new w _ 35 0 _ (evr0 e)
  have hd0 : (e.kind == 0) = false := by rw [hk]; rfl
  have hd1 : (e.kind == 4) = false := by rw [hk]; rfl
  have hd2 : (e.kind == 5) = false := by rw [hk]; rfl
  have hd3 : (e.kind == 1) = false := by rw [hk]; rfl
  have hd4 : (e.kind == 2) = true := by simpa using hk
  have hW : Hid (PW w w.heap.size (evr e) (w.alloc (.cells (evr e) 35)).drew) := Lib.hid ⟨by show (w.alloc (.cells (evr e) 35)).heap[w.heap.size]? = _; rw [heap_alloc_if, if_pos rfl], ((Below.refl _ _).alloc (Nat.le_refl _) _).drew⟩
  have hi : Hid ((Tryz.prog.info? 35).map (·.size) = some (evr e).size) := Lib.hid (by rw [evr_size, hs]; exact info41)
  have e2 := Lib.hid (evr2 e)
  have e3 := Lib.hid (evr3 e)
  have e4 := Lib.hid (evr4 e)
  have ls := Lib.hid (load_sum e hs)
  have ab := @about_in w w.heap.size e
  obtain ⟨ti, tv, hI⟩ := about_iface e
  have hP : Hid (pts [.kind e.kind, aboutP e, .moment e.time, .length e.len, .sum e.sum] = #[.iface 73 (.int .i64 e.kind), .iface ti tv, .iface 77 (.int .i64 e.time), .iface 78 (.int .i64 e.len), .iface 79 (.agg (row e.sum))]) := Lib.hid (by unfold pts; simp only [List.map_cons, List.map_nil, hI]; rfl)
  rw [hI] at ab
  rw [hP.out]
  clear hI hP hk
  generalize evr e = c at *
  go_enter Tryz.func22, Tryz.ntmps22
  go_wp2_with (refine park_region (fun Pk hX => ?_))
  refine hX.out ?_
  refine wp_region_class_tail 13 (PW w w.heap.size c) (by kernel_rfl) (by kernel_rfl) hW.out ?_
  simp only [List.take_succ_cons, List.take_zero, List.drop_succ_cons, List.drop_zero]
  refine wpQuiet_move (by rfl) _ (.inl rfl) (.int .i64 e.kind) rfl ?_
  refine wpQuiet_mkI (by rfl) 73 _ rfl (.int .i64 e.kind) rfl (by kernel_rfl) ?_
  refine wpQuiet_load (by rfl) 35 (.tmp 1) rfl _ rfl 35 c _ (fun _ h => h.ev) Tryz.underlying35 rfl hi.out ?_
  refine wpQuiet_call1 (by rfl) 29 (.tmp 34) _ rfl ent29 (.agg c) rfl _ ab ?_
  simp only [Act.put, List.setIfInBounds_toArray, List.set_cons_zero, List.set_cons_succ]
  refine wpQuiet_field (by rfl) 3 _ rfl w.heap.size rfl (by decide) ?_
  refine wpQuiet_cell (by rfl) 3 _ rfl w.heap.size 3 rfl Tryz.isAgg3 (.int .i64 e.time) (fun _ h => h.cell e3.out) ?_
  refine wpQuiet_mkI (by rfl) 77 _ rfl (.int .i64 e.time) rfl (by kernel_rfl) ?_
  simp only [Act.put, List.setIfInBounds_toArray, List.set_cons_zero, List.set_cons_succ]
  refine wpQuiet_field (by rfl) 4 _ rfl w.heap.size rfl (by decide) ?_
  refine wpQuiet_cell (by rfl) 3 _ rfl w.heap.size 4 rfl Tryz.isAgg3 (.int .i64 e.len) (fun _ h => h.cell e4.out) ?_
  refine wpQuiet_mkI (by rfl) 78 _ rfl (.int .i64 e.len) rfl (by kernel_rfl) ?_
  simp only [Act.put, List.setIfInBounds_toArray, List.set_cons_zero, List.set_cons_succ]
  refine wpQuiet_field (by rfl) 5 _ rfl w.heap.size rfl (by decide) ?_
  refine wpQuiet_mid (by rfl) 33 _ rfl w.heap.size 5 rfl (.agg (row e.sum)) (fun v h => ls.out v w.heap.size 35 h.ev) ?_
  refine wpQuiet_mkI (by rfl) 79 _ rfl (.agg (row e.sum)) rfl (by kernel_rfl) ?_
  simp only [Act.put, List.setIfInBounds_toArray, List.set_cons_zero, List.set_cons_succ]
  refine wpQuiet_nil ?_
  intro u hu
  go_wp2_with fail
  go_ret
  exact ⟨_, rfl, hu.bel.size, by rw [heap_alloc_if, if_pos rfl], hu.bel.alloc hu.bel.size _⟩
set_option maxRecDepth 100000 in
set_option maxHeartbeats 400000 in
theorem parts_extend (e : Ev) (hs : e.sum.length = 32) (hk : e.kind = 3) (w : World) :
    Calls Tryz.prog 22 #[.agg (evr e)] w fun r w' => ∃ g, r = .returned (.slice (some ⟨g, 0, none⟩) 3 3) ∧ w.heap.size ≤ g ∧ w'.heap[g]? = some (.cells (pts [.kind e.kind, aboutP e, .moment e.time]) 57) ∧ Below w.heap.size w w' := by
  have h0 := cell_new w _ 35 0 _ (evr0 e)
  have hd0 : (e.kind == 0) = false := by rw [hk]; rfl
  have hd1 : (e.kind == 4) = false := by rw [hk]; rfl
  have hd2 : (e.kind == 5) = false := by rw [hk]; rfl
  have hd3 : (e.kind == 1) = false := by rw [hk]; rfl
  have hd4 : (e.kind == 2) = false := by rw [hk]; rfl
  have hd5 : (e.kind == 3) = true := by simpa using hk
  have hW : Hid (PW w w.heap.size (evr e) (w.alloc (.cells (evr e) 35)).drew) := Lib.hid ⟨by show (w.alloc (.cells (evr e) 35)).heap[w.heap.size]? = _; rw [heap_alloc_if, if_pos rfl], ((Below.refl _ _).alloc (Nat.le_refl _) _).drew⟩
  have hi : Hid ((Tryz.prog.info? 35).map (·.size) = some (evr e).size) := Lib.hid (by rw [evr_size, hs]; exact info41)
  have e2 := Lib.hid (evr2 e)
  have e3 := Lib.hid (evr3 e)
  have e4 := Lib.hid (evr4 e)
  have ls := Lib.hid (load_sum e hs)
  have ab := @about_in w w.heap.size e
  obtain ⟨ti, tv, hI⟩ := about_iface e
  have hP : Hid (pts [.kind e.kind, aboutP e, .moment e.time] = #[.iface 73 (.int .i64 e.kind), .iface ti tv, .iface 77 (.int .i64 e.time)]) := Lib.hid (by unfold pts; simp only [List.map_cons, List.map_nil, hI]; rfl)
  rw [hI] at ab
  rw [hP.out]
  clear hI hP hk
  generalize evr e = c at *
  go_enter Tryz.func22, Tryz.ntmps22
  go_wp2_with (refine park_region (fun Pk hX => ?_))
  refine hX.out ?_
  refine wp_region_class_tail 7 (PW w w.heap.size c) (by kernel_rfl) (by kernel_rfl) hW.out ?_
  simp only [List.take_succ_cons, List.take_zero, List.drop_succ_cons, List.drop_zero]
  refine wpQuiet_move (by rfl) _ (.inl rfl) (.int .i64 e.kind) rfl ?_
  refine wpQuiet_mkI (by rfl) 73 _ rfl (.int .i64 e.kind) rfl (by kernel_rfl) ?_
  refine wpQuiet_load (by rfl) 35 (.tmp 1) rfl _ rfl 35 c _ (fun _ h => h.ev) Tryz.underlying35 rfl hi.out ?_
  refine wpQuiet_call1 (by rfl) 29 (.tmp 50) _ rfl ent29 (.agg c) rfl _ ab ?_
  simp only [Act.put, List.setIfInBounds_toArray, List.set_cons_zero, List.set_cons_succ]
  refine wpQuiet_field (by rfl) 3 _ rfl w.heap.size rfl (by decide) ?_
  refine wpQuiet_cell (by rfl) 3 _ rfl w.heap.size 3 rfl Tryz.isAgg3 (.int .i64 e.time) (fun _ h => h.cell e3.out) ?_
  refine wpQuiet_mkI (by rfl) 77 _ rfl (.int .i64 e.time) rfl (by kernel_rfl) ?_
  simp only [Act.put, List.setIfInBounds_toArray, List.set_cons_zero, List.set_cons_succ]
  refine wpQuiet_nil ?_
  intro u hu
  go_wp2_with fail
  go_ret
  exact ⟨_, rfl, hu.bel.size, by rw [heap_alloc_if, if_pos rfl], hu.bel.alloc hu.bel.size _⟩
set_option maxRecDepth 100000 in
set_option maxHeartbeats 400000 in
theorem parts_other (e : Ev) (hs : e.sum.length = 32) (hk : e.kind ≠ 0 ∧ e.kind ≠ 1 ∧ e.kind ≠ 2 ∧ e.kind ≠ 3 ∧ e.kind ≠ 4 ∧ e.kind ≠ 5) (w : World) :
    Calls Tryz.prog 22 #[.agg (evr e)] w fun r w' => ∃ g, r = .returned (.slice (some ⟨g, 0, none⟩) 2 2) ∧ w.heap.size ≤ g ∧ w'.heap[g]? = some (.cells (pts [.kind e.kind, aboutP e]) 57) ∧ Below w.heap.size w w' := by
  have h0 := cell_new w _ 35 0 _ (evr0 e)
  have hd0 : (e.kind == 0) = false := by simp; omega
  have hd1 : (e.kind == 4) = false := by simp; omega
  have hd2 : (e.kind == 5) = false := by simp; omega
  have hd3 : (e.kind == 1) = false := by simp; omega
  have hd4 : (e.kind == 2) = false := by simp; omega
  have hd5 : (e.kind == 3) = false := by simp; omega
  have hW : Hid (PW w w.heap.size (evr e) (w.alloc (.cells (evr e) 35))) := Lib.hid ⟨by show (w.alloc (.cells (evr e) 35)).heap[w.heap.size]? = _; rw [heap_alloc_if, if_pos rfl], ((Below.refl _ _).alloc (Nat.le_refl _) _)⟩
  have hi : Hid ((Tryz.prog.info? 35).map (·.size) = some (evr e).size) := Lib.hid (by rw [evr_size, hs]; exact info41)
  have e2 := Lib.hid (evr2 e)
  have e3 := Lib.hid (evr3 e)
  have e4 := Lib.hid (evr4 e)
  have ls := Lib.hid (load_sum e hs)
  have ab := @about_in w w.heap.size e
  obtain ⟨ti, tv, hI⟩ := about_iface e
  have hP : Hid (pts [.kind e.kind, aboutP e] = #[.iface 73 (.int .i64 e.kind), .iface ti tv]) := Lib.hid (by unfold pts; simp only [List.map_cons, List.map_nil, hI]; rfl)
  rw [hI] at ab
  rw [hP.out]
  clear hI hP hk
  generalize evr e = c at *
  go_enter Tryz.func22, Tryz.ntmps22
  go_wp2_with (with_reducible refine wpList_load_row rfl 35 (.tmp 1) rfl _ rfl 35 c _ hW.out.ev Tryz.underlying35 rfl hi.out ?_)
  refine (ab _ hW.out).mono ?_
  rintro r u ⟨rfl, hu⟩
  go_wp2_with fail
  go_ret
  exact ⟨_, rfl, hu.bel.size, by rw [heap_alloc_if, if_pos rfl], hu.bel.alloc hu.bel.size _⟩
theorem parts_any (e : Ev) (hs : e.sum.length = 32) (w : World) :
    Calls Tryz.prog 22 #[.agg (evr e)] w fun r w' => ∃ g, r = .returned (.slice (some ⟨g, 0, none⟩) (partsOf e).length (partsOf e).length) ∧ w.heap.size ≤ g ∧ w'.heap[g]? = some (.cells (pts (partsOf e)) 57) ∧ Below w.heap.size w w' := by
  by_cases h0 : e.kind = 0
  · have : partsOf e = [.kind e.kind, aboutP e, .label e.name] := by unfold partsOf; rw [if_pos (.inl h0)]
    rw [this]; exact parts_create e hs h0 w
  by_cases h4 : e.kind = 4
  · have : partsOf e = [.kind e.kind, aboutP e, .label e.name] := by unfold partsOf; rw [if_pos (.inr (.inl h4))]
    rw [this]; exact parts_hold e hs h4 w
  by_cases h5 : e.kind = 5
  · have : partsOf e = [.kind e.kind, aboutP e, .label e.name] := by unfold partsOf; rw [if_pos (.inr (.inr h5))]
    rw [this]; exact parts_release e hs h5 w
  have hn : ¬ (e.kind = 0 ∨ e.kind = 4 ∨ e.kind = 5) := by omega
  by_cases h1 : e.kind = 1
  · have : partsOf e = [.kind e.kind, aboutP e, .added e.len] := by unfold partsOf; rw [if_neg hn, if_pos h1]
    rw [this]; exact parts_append e hs h1 w
  by_cases h2 : e.kind = 2
  · have : partsOf e = [.kind e.kind, aboutP e, .moment e.time, .length e.len, .sum e.sum] := by unfold partsOf; rw [if_neg hn, if_neg h1, if_pos h2]
    rw [this]; exact parts_seal e hs h2 w
  by_cases h3 : e.kind = 3
  · have : partsOf e = [.kind e.kind, aboutP e, .moment e.time] := by unfold partsOf; rw [if_neg hn, if_neg h1, if_neg h2, if_pos h3]
    rw [this]; exact parts_extend e hs h3 w
  · have : partsOf e = [.kind e.kind, aboutP e] := by unfold partsOf; rw [if_neg hn, if_neg h1, if_neg h2, if_neg h3]
    rw [this]; exact parts_other e hs ⟨h0, h1, h2, h3, h4, h5⟩ w
end Go.Proofs.YtphbkbjgjicncaaGreat.ev
