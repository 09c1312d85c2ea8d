/-
  What 'tells' of the document's answer returns: which parts an event of a kind tells. And blocks that are known where the tape is not spoken of.
-/
import Derived.Test.YtfilolmbppjbjaaGreatOne
import Derived.Test.YtfilolmbppjbjaaGreatSRlink
namespace Go.Proofs.YtfilolmbppjbjaaGreat
open Go Go.RowKit
set_option linter.unusedVariables false

/-- Blocks that are known, where the tape is not spoken of. -/
structure KB (B : Nat) (w : World) (L : List (Nat × Obj)) (v : World) : Prop where
  le : B ≤ w.heap.size
  bel : sh.Belo B w v
  has : ∀ x ∈ L, v.heap[x.1]? = some x.2
  nd : (L.map Prod.fst).Nodup
theorem KW.kb {B : Nat} {w v : World} {L : List (Nat × Obj)} (h : KW B w L v) : KB B w L v := ⟨h.le, sh.Belo.of h.bel, h.has, h.nd⟩
theorem KB.kb {B : Nat} {w v : World} {L : List (Nat × Obj)} (h : KB B w L v) : KB B w L v := h
theorem KB.drew {B : Nat} {w v : World} {L : List (Nat × Obj)} (h : KB B w L v) : KB B w L v.drew := ⟨h.le, ⟨h.bel.os, h.bel.output, h.bel.size, h.bel.block⟩, h.has, h.nd⟩
theorem KB.at {B : Nat} {w v : World} {L : List (Nat × Obj)} (h : KB B w L v) (i : Nat) {b : Nat} {o : Obj} (hi : L[i]? = some (b, o)) : v.heap[b]? = some o := h.has (b, o) (List.mem_of_getElem? hi)
theorem KB.size {B : Nat} {w v : World} {L : List (Nat × Obj)} (h : KB B w L v) : B ≤ v.heap.size := Nat.le_trans h.le h.bel.size
theorem KB.lt {B : Nat} {w v : World} {L : List (Nat × Obj)} (h : KB B w L v) (i : Nat) {b : Nat} {o : Obj} (hi : L[i]? = some (b, o)) : b < v.heap.size := lt_of_some (h.at i hi)
theorem KB.past {B : Nat} {w v v' : World} {L : List (Nat × Obj)} (h : KB B w L v) (hb : sh.Belo v.heap.size v v') : KB B w L v' :=
  ⟨h.le, h.bel.trans (hb.mono h.size), fun x hx => (hb.block _ (lt_of_some (h.has x hx))).trans (h.has x hx), h.nd⟩
theorem KB.new {B : Nat} {w v : World} {L : List (Nat × Obj)} (h : KB B w L v) (o : Obj) : KB B w ((v.heap.size, o) :: L) (v.alloc o) :=
  ⟨h.le, sh.Belo.alloc h.bel h.size _, fun x hx => by
    rcases List.mem_cons.1 hx with rfl | hx
    · rw [heap_alloc_if, if_pos rfl]
    · have := h.has x hx
      rw [heap_alloc_if, if_neg (Nat.ne_of_lt (lt_of_some this))]; exact this,
   List.nodup_cons.2 ⟨fun hm => by
      obtain ⟨x, hx, e⟩ := List.mem_map.1 hm
      have := lt_of_some (h.has x hx); omega, h.nd⟩⟩
/-- A block that is known because it lay there before. -/
theorem KB.row {B : Nat} {w v : World} {L : List (Nat × Obj)} (h : KB B w L v) (i : Nat) {b : Nat} {c : Array Value} {t : TypeId} (hi : L[i]? = some (b, .cells c t)) (hb : B ≤ b) (c' : Array Value) : KB B w (L.set i (b, .cells c' t)) (v.setRow b c') := by
  have hil : i < L.length := (List.getElem?_eq_some_iff.1 hi).1
  have hLi : L[i] = (b, .cells c t) := (List.getElem?_eq_some_iff.1 hi).2
  have hmap : (L.set i (b, .cells c' t)).map Prod.fst = L.map Prod.fst := by
    rw [List.map_set]
    apply List.ext_getElem (by simp)
    intro j h1 h2
    rw [List.getElem_set]
    split
    · rename_i e; subst e; simp [hLi]
    · rfl
  refine ⟨h.le, h.bel.setRow hb _, fun x hx => ?_, by rw [hmap]; exact h.nd⟩
  obtain ⟨j, hj, rfl⟩ := List.getElem_of_mem hx
  have hjl : j < L.length := by simpa using hj
  rw [List.getElem_set]
  split
  · exact setRow_heap _ _ _ _ _ _ (h.at i hi)
  · rename_i e
    have hne : L[j].1 ≠ b := by
      intro q
      have hp := List.pairwise_iff_getElem.1 h.nd
      rcases Nat.lt_or_ge i j with hij | hij
      · exact hp i j (by simpa using hil) (by simpa using hjl) hij (by simp [hLi, q])
      · exact hp j i (by simpa using hjl) (by simpa using hil) (by omega) (by simp [hLi, q])
    rw [setRow_other _ _ _ _ hne]
    exact h.has _ (List.getElem_mem hjl)
theorem KB.set {B : Nat} {w v : World} {L : List (Nat × Obj)} (h : KB B w L v) (i : Nat) {b : Nat} {c : Array Value} {t : TypeId} (hi : L[i]? = some (b, .cells c t)) (hb : B ≤ b) (j : Nat) (y : Value) : KB B w (L.set i (b, .cells (c.setIfInBounds j y) t)) (v.setCell ⟨b, j, none⟩ y) := by
  rw [setCell_eq_setRow _ _ _ _ _ _ _ (h.at i hi)]; exact h.row i hi hb _
theorem KB.cell {B : Nat} {w v : World} {L : List (Nat × Obj)} (h : KB B w L v) (i : Nat) {b : Nat} {c : Array Value} {t : TypeId} (hi : L[i]? = some (b, .cells c t)) (j : Nat) {y : Value} (hy : c[j]? = some y) : v.cell? ⟨b, j, none⟩ = some y := (cell_of_row v b j _ _ _ (h.at i hi)).trans hy
theorem KB.frozen {B : Nat} {w v : World} {L : List (Nat × Obj)} (h : KB B w L v) (i : Nat) {b : Nat} {c : Array Value} {t : TypeId} (hi : L[i]? = some (b, .cells c t)) (j : Nat) : v.frozen? ⟨b, j, none⟩ = false := frozen_row (h.at i hi) j

def TB (k : Int) : Array Value := #[.bool (tI k), .bool (tN k), .bool (tT k), .bool (tL k), .bool (tS k)]
theorem zero78 (w : World) : (zeroValue 78).run Tryz.prog w = .ok (.agg #[.bool false, .bool false, .bool false, .bool false, .bool false]) w := (Tryz.zeroValue78 w).trans rfl
theorem TB_size (k : Int) : (TB k).size = 5 := rfl
theorem info78 : (Tryz.prog.info? 78).map (·.size) = some 5 := by kernel_rfl
theorem TB_info (k : Int) : (Tryz.prog.info? 78).map (·.size) = some (TB k).size := info78
theorem TB_old (k : Int) : (#[.bool false, .bool false, .bool false, .bool false, .bool false] : Array Value).size = (TB k).size := rfl
theorem TB_one (k : Int) : (TB k).all (·.oneCell') = true := by simp [TB, Value.oneCell']
theorem wpList_bld {P : Program} {ops : Array Oper} {rest : List Oper} {o : Oper} {a : Act} {w : World} {Q : Exit → Act → World → Prop} (hgd : o.guard = none) (t : TypeId) (ps : Array (Nat × Operand)) (ho : o.op = .build t ps) (v : Value) (hv : (execOp a.eval o).run P w = .ok (.value v) w)
    (h : wpList P ops Q rest (a.put o.dst v) w) : wpList P ops Q (o :: rest) a w := sh.wpList_val hgd v hv h

set_option maxRecDepth 100000 in
set_option maxHeartbeats 400000 in
theorem rtells_0 (w : World) : Calls Tryz.prog 42 #[.int .i64 0] w fun r w' => r = .returned (.agg (TB 0)) ∧ Below w.heap.size w w' := by
  have hK0 : Hid (KW w.heap.size w [(w.heap.size, .cells #[.bool false, .bool false, .bool false, .bool false, .bool false] 78)] (w.alloc (.cells #[.bool false, .bool false, .bool false, .bool false, .bool false] 78))) := Lib.hid ((KW.start w).new _)
  have hz := zero78
  have hK1 := Lib.hid (hK0.out.row 0 rfl (Nat.le_refl _) (TB 0))
  go_enter Tryz.func42, Tryz.ntmps42
  go_wp2_with (first
    | (with_reducible refine wpList_store_row rfl 78 (.tmp 2) (.tmp 8) rfl _ (TB 0) rfl rfl 78 _ (hK0.out.at 0 rfl) (TB_info _) (TB_old _) (TB_one _) ?_)
    | (with_reducible refine wpList_bld rfl 78 _ rfl (.agg (TB 0)) (by kernel_rfl) ?_))
  exact bodyPost_row 2 78 rfl _ rfl 78 (TB 0) _ (hK1.out.at 0 rfl) Tryz.underlying78 rfl (TB_info _) rfl ⟨rfl, hK1.out.bel⟩

set_option maxRecDepth 100000 in
set_option maxHeartbeats 400000 in
theorem rtells_1 (w : World) : Calls Tryz.prog 42 #[.int .i64 1] w fun r w' => r = .returned (.agg (TB 1)) ∧ Below w.heap.size w w' := by
  have hK0 : Hid (KW w.heap.size w [(w.heap.size, .cells #[.bool false, .bool false, .bool false, .bool false, .bool false] 78)] (w.alloc (.cells #[.bool false, .bool false, .bool false, .bool false, .bool false] 78))) := Lib.hid ((KW.start w).new _)
  have hz := zero78
  have hK1 := Lib.hid (hK0.out.row 0 rfl (Nat.le_refl _) (TB 1))
  go_enter Tryz.func42, Tryz.ntmps42
  go_wp2_with (first
    | (with_reducible refine wpList_store_row rfl 78 (.tmp 2) (.tmp 11) rfl _ (TB 1) rfl rfl 78 _ (hK0.out.at 0 rfl) (TB_info _) (TB_old _) (TB_one _) ?_)
    | (with_reducible refine wpList_bld rfl 78 _ rfl (.agg (TB 1)) (by kernel_rfl) ?_))
  exact bodyPost_row 2 78 rfl _ rfl 78 (TB 1) _ (hK1.out.at 0 rfl) Tryz.underlying78 rfl (TB_info _) rfl ⟨rfl, hK1.out.bel⟩

set_option maxRecDepth 100000 in
set_option maxHeartbeats 400000 in
theorem rtells_2 (w : World) : Calls Tryz.prog 42 #[.int .i64 2] w fun r w' => r = .returned (.agg (TB 2)) ∧ Below w.heap.size w w' := by
  have hK0 : Hid (KW w.heap.size w [(w.heap.size, .cells #[.bool false, .bool false, .bool false, .bool false, .bool false] 78)] (w.alloc (.cells #[.bool false, .bool false, .bool false, .bool false, .bool false] 78))) := Lib.hid ((KW.start w).new _)
  have hz := zero78
  have hK1 := Lib.hid (hK0.out.row 0 rfl (Nat.le_refl _) (TB 2))
  go_enter Tryz.func42, Tryz.ntmps42
  go_wp2_with (first
    | (with_reducible refine wpList_store_row rfl 78 (.tmp 2) (.tmp 14) rfl _ (TB 2) rfl rfl 78 _ (hK0.out.at 0 rfl) (TB_info _) (TB_old _) (TB_one _) ?_)
    | (with_reducible refine wpList_bld rfl 78 _ rfl (.agg (TB 2)) (by kernel_rfl) ?_))
  exact bodyPost_row 2 78 rfl _ rfl 78 (TB 2) _ (hK1.out.at 0 rfl) Tryz.underlying78 rfl (TB_info _) rfl ⟨rfl, hK1.out.bel⟩

set_option maxRecDepth 100000 in
set_option maxHeartbeats 400000 in
theorem rtells_3 (w : World) : Calls Tryz.prog 42 #[.int .i64 3] w fun r w' => r = .returned (.agg (TB 3)) ∧ Below w.heap.size w w' := by
  have hK0 : Hid (KW w.heap.size w [(w.heap.size, .cells #[.bool false, .bool false, .bool false, .bool false, .bool false] 78)] (w.alloc (.cells #[.bool false, .bool false, .bool false, .bool false, .bool false] 78))) := Lib.hid ((KW.start w).new _)
  have hz := zero78
  have hK1 := Lib.hid (hK0.out.row 0 rfl (Nat.le_refl _) (TB 3))
  go_enter Tryz.func42, Tryz.ntmps42
  go_wp2_with (first
    | (with_reducible refine wpList_store_row rfl 78 (.tmp 2) (.tmp 17) rfl _ (TB 3) rfl rfl 78 _ (hK0.out.at 0 rfl) (TB_info _) (TB_old _) (TB_one _) ?_)
    | (with_reducible refine wpList_bld rfl 78 _ rfl (.agg (TB 3)) (by kernel_rfl) ?_))
  exact bodyPost_row 2 78 rfl _ rfl 78 (TB 3) _ (hK1.out.at 0 rfl) Tryz.underlying78 rfl (TB_info _) rfl ⟨rfl, hK1.out.bel⟩

set_option maxRecDepth 100000 in
set_option maxHeartbeats 400000 in
theorem rtells_4 (w : World) : Calls Tryz.prog 42 #[.int .i64 4] w fun r w' => r = .returned (.agg (TB 4)) ∧ Below w.heap.size w w' := by
  have hK0 : Hid (KW w.heap.size w [(w.heap.size, .cells #[.bool false, .bool false, .bool false, .bool false, .bool false] 78)] (w.alloc (.cells #[.bool false, .bool false, .bool false, .bool false, .bool false] 78))) := Lib.hid ((KW.start w).new _)
  have hz := zero78
  have hK1 := Lib.hid (hK0.out.row 0 rfl (Nat.le_refl _) (TB 4))
  go_enter Tryz.func42, Tryz.ntmps42
  go_wp2_with (first
    | (with_reducible refine wpList_store_row rfl 78 (.tmp 2) (.tmp 8) rfl _ (TB 4) rfl rfl 78 _ (hK0.out.at 0 rfl) (TB_info _) (TB_old _) (TB_one _) ?_)
    | (with_reducible refine wpList_bld rfl 78 _ rfl (.agg (TB 4)) (by kernel_rfl) ?_))
  exact bodyPost_row 2 78 rfl _ rfl 78 (TB 4) _ (hK1.out.at 0 rfl) Tryz.underlying78 rfl (TB_info _) rfl ⟨rfl, hK1.out.bel⟩

set_option maxRecDepth 100000 in
set_option maxHeartbeats 400000 in
theorem rtells_5 (w : World) : Calls Tryz.prog 42 #[.int .i64 5] w fun r w' => r = .returned (.agg (TB 5)) ∧ Below w.heap.size w w' := by
  have hK0 : Hid (KW w.heap.size w [(w.heap.size, .cells #[.bool false, .bool false, .bool false, .bool false, .bool false] 78)] (w.alloc (.cells #[.bool false, .bool false, .bool false, .bool false, .bool false] 78))) := Lib.hid ((KW.start w).new _)
  have hz := zero78
  have hK1 := Lib.hid (hK0.out.row 0 rfl (Nat.le_refl _) (TB 5))
  go_enter Tryz.func42, Tryz.ntmps42
  go_wp2_with (first
    | (with_reducible refine wpList_store_row rfl 78 (.tmp 2) (.tmp 8) rfl _ (TB 5) rfl rfl 78 _ (hK0.out.at 0 rfl) (TB_info _) (TB_old _) (TB_one _) ?_)
    | (with_reducible refine wpList_bld rfl 78 _ rfl (.agg (TB 5)) (by kernel_rfl) ?_))
  exact bodyPost_row 2 78 rfl _ rfl 78 (TB 5) _ (hK1.out.at 0 rfl) Tryz.underlying78 rfl (TB_info _) rfl ⟨rfl, hK1.out.bel⟩

set_option maxRecDepth 100000 in
set_option maxHeartbeats 400000 in
theorem rtells_6 (w : World) : Calls Tryz.prog 42 #[.int .i64 6] w fun r w' => r = .returned (.agg (TB 6)) ∧ Below w.heap.size w w' := by
  have hK0 : Hid (KW w.heap.size w [(w.heap.size, .cells #[.bool false, .bool false, .bool false, .bool false, .bool false] 78)] (w.alloc (.cells #[.bool false, .bool false, .bool false, .bool false, .bool false] 78))) := Lib.hid ((KW.start w).new _)
  have hz := zero78
  have hK1 := Lib.hid (hK0.out.row 0 rfl (Nat.le_refl _) (TB 6))
  go_enter Tryz.func42, Tryz.ntmps42
  go_wp2_with (first
    | (with_reducible refine wpList_store_row rfl 78 (.tmp 2) (.tmp 20) rfl _ (TB 6) rfl rfl 78 _ (hK0.out.at 0 rfl) (TB_info _) (TB_old _) (TB_one _) ?_)
    | (with_reducible refine wpList_bld rfl 78 _ rfl (.agg (TB 6)) (by kernel_rfl) ?_))
  exact bodyPost_row 2 78 rfl _ rfl 78 (TB 6) _ (hK1.out.at 0 rfl) Tryz.underlying78 rfl (TB_info _) rfl ⟨rfl, hK1.out.bel⟩

set_option maxRecDepth 100000 in
set_option maxHeartbeats 400000 in
theorem rtells_7 (w : World) : Calls Tryz.prog 42 #[.int .i64 7] w fun r w' => r = .returned (.agg (TB 7)) ∧ Below w.heap.size w w' := by
  have hK0 : Hid (KW w.heap.size w [(w.heap.size, .cells #[.bool false, .bool false, .bool false, .bool false, .bool false] 78)] (w.alloc (.cells #[.bool false, .bool false, .bool false, .bool false, .bool false] 78))) := Lib.hid ((KW.start w).new _)
  have hz := zero78
  have hK1 := Lib.hid (hK0.out.row 0 rfl (Nat.le_refl _) (TB 7))
  go_enter Tryz.func42, Tryz.ntmps42
  go_wp2_with (first
    | (with_reducible refine wpList_store_row rfl 78 (.tmp 2) (.tmp 23) rfl _ (TB 7) rfl rfl 78 _ (hK0.out.at 0 rfl) (TB_info _) (TB_old _) (TB_one _) ?_)
    | (with_reducible refine wpList_bld rfl 78 _ rfl (.agg (TB 7)) (by kernel_rfl) ?_))
  exact bodyPost_row 2 78 rfl _ rfl 78 (TB 7) _ (hK1.out.at 0 rfl) Tryz.underlying78 rfl (TB_info _) rfl ⟨rfl, hK1.out.bel⟩

theorem rtells_any (k : Int) (h : 0 ≤ k ∧ k ≤ 7) (w : World) : Calls Tryz.prog 42 #[.int .i64 k] w fun r w' => r = .returned (.agg (TB k)) ∧ Below w.heap.size w w' := by
  have hc : k = 0 ∨ k = 1 ∨ k = 2 ∨ k = 3 ∨ k = 4 ∨ k = 5 ∨ k = 6 ∨ k = 7 := by omega
  rcases hc with rfl | rfl | rfl | rfl | rfl | rfl | rfl | rfl
  · exact rtells_0 w
  · exact rtells_1 w
  · exact rtells_2 w
  · exact rtells_3 w
  · exact rtells_4 w
  · exact rtells_5 w
  · exact rtells_6 w
  · exact rtells_7 w
end Go.Proofs.YtfilolmbppjbjaaGreat
