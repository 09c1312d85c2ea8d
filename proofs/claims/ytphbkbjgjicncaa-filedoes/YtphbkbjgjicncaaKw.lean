/-
  Worlds of which some blocks are known; whole structs loaded, stored and returned. No program is named here.
-/
import Derived.Deep.MidRow
import Derived.Deep.WholeRow
import Derived.Deep.Upon
import Derived.Laws.Tables
import Derived.Laws.AppendOwn
import Derived.Laws.StructEq
import Derived.Below
import Derived.Laws.CopyOwn
import Derived.Tactics
import Derived.ProofKit
import Derived.OpenShut
import Derived.Lib.Strings
import Derived.Lib.Hide
import Derived.WalkKit
import Derived.BigQuiet
import Derived.Deep.QuietTactic
namespace Go.Proofs.Ytphbkbjgjicncaa
open Go Go.RowKit
section
variable {P : Program}

theorem wpList_load_row {ops : Array Oper} {rest : List Oper} {op : Oper} {a : Act} {w : World} {Q : Exit → Act → World → Prop} (hgd : op.guard = none) (ty : TypeId) (x : Operand) (ho : op.op = .load ty x)
    (b : Nat) (hx : a.eval x = .pointer (some ⟨b, 0, none⟩)) (t : TypeId) (c : Array Value) (d : TypeDesc) (hg : w.heap[b]? = some (.cells c t))
    (hu : P.underlying ty = some d) (hd : (match d with | .struct _ | .array _ _ => true | _ => false) = true) (hi : (P.info? ty).map (·.size) = some c.size)
    (h : wpList P ops Q rest (a.put op.dst (.agg c)) w) : wpList P ops Q (op :: rest) a w :=
  wpList_plain hgd fun _ hK => by
    unfold Oper.wp execOp
    simp only [ho, hx, Instr.loadAt, Instr.sureAddr, Sem.run_bind, Sem.run_pure, Result.andThen_ok, run_loadVar_row w b t ty c (0, 0) d hg hu hd hi]
    exact hK _ _ h

theorem wpList_store_row {ops : Array Oper} {rest : List Oper} {op : Oper} {a : Act} {w : World} {Q : Exit → Act → World → Prop} (hgd : op.guard = none) (ty : TypeId) (x y : Operand) (ho : op.op = .store ty x y)
    (b : Nat) (cells : Array Value) (hx : a.eval x = .pointer (some ⟨b, 0, none⟩)) (hy : a.eval y = .agg cells) (t : TypeId) (old : Array Value)
    (hg : w.heap[b]? = some (.cells old t)) (hi : (P.info? ty).map (·.size) = some cells.size) (hs : old.size = cells.size) (h1 : cells.all (·.oneCell') = true)
    (h : wpList P ops Q rest (a.put op.dst undef) (w.setRow b cells)) : wpList P ops Q (op :: rest) a w :=
  wpList_plain hgd fun _ hK => by
    unfold Oper.wp execOp
    simp only [ho, hx, hy, Instr.storeAt, Instr.sureAddr, Sem.run_bind, Sem.run_pure, Result.andThen_ok, run_storeVar_row w b t ty old cells hg hi hs h1]
    exact hK _ _ h

theorem results_row {fn : Func} {p : Tmp} {ty : TypeId} (h : fn.results = #[.cell p ty]) (tmps : Array Value) (b : Nat) (hp : tmps.getD p undef = .pointer (some ⟨b, 0, none⟩)) (w : World) (t : TypeId) (c : Array Value) (d : TypeDesc)
    (hg : w.heap[b]? = some (.cells c t)) (hu : P.underlying ty = some d) (hd : (match d with | .struct _ | .array _ _ => true | _ => false) = true) (hi : (P.info? ty).map (·.size) = some c.size) :
    (results fn tmps).run P w = .ok (.agg c) w := by
  have := run_loadVar_row (P := P) w b t ty c (0, 0) d hg hu hd hi
  simp only [results, h]
  have hp' : tmps[p]?.getD undef = .pointer (some ⟨b, 0, none⟩) := by simpa using hp
  simp [hp', this, asAddr]

theorem bodyPost_row {fn : Func} {R : Ending → World → Prop} {a : Act} {w : World} (p : Tmp) (ty : TypeId) (h : fn.results = #[.cell p ty]) (b : Nat) (hp : a.tmps.getD p undef = .pointer (some ⟨b, 0, none⟩)) (t : TypeId) (c : Array Value) (d : TypeDesc)
    (hg : w.heap[b]? = some (.cells c t)) (hu : P.underlying ty = some d) (hd : (match d with | .struct _ | .array _ _ => true | _ => false) = true) (hi : (P.info? ty).map (·.size) = some c.size)
    (hdf : a.defers = []) (hR : R (.returned (.agg c)) w) : bodyPost P fn R .ret a w :=
  bodyPost_ret (results_row h a.tmps b hp w t c d hg hu hd hi) hdf hR

end
theorem results_row2 {P : Program} {fn : Func} {p q : Tmp} {ty : TypeId} (h : fn.results = #[.cell p ty, .tmp q]) (tmps : Array Value) (b : Nat) (hp : tmps.getD p undef = .pointer (some ⟨b, 0, none⟩)) (v1 : Value) (h1 : tmps.getD q undef = v1) (w : World) (t : TypeId) (c : Array Value) (d : TypeDesc)
    (hg : w.heap[b]? = some (.cells c t)) (hu : P.underlying ty = some d) (hd : (match d with | .struct _ | .array _ _ => true | _ => false) = true) (hi : (P.info? ty).map (·.size) = some c.size) :
    (results fn tmps).run P w = .ok (.tuple #[.agg c, v1]) w := by
  have := run_loadVar_row (P := P) w b t ty c (0, 0) d hg hu hd hi
  simp only [results, h]
  have hp' : tmps[p]?.getD undef = .pointer (some ⟨b, 0, none⟩) := by simpa using hp
  have h1' : tmps[q]?.getD undef = v1 := by simpa using h1
  simp [hp', h1', this, asAddr]
theorem bodyPost_row2 {P : Program} {fn : Func} {R : Ending → World → Prop} {a : Act} {w : World} (p q : Tmp) (ty : TypeId) (h : fn.results = #[.cell p ty, .tmp q]) (b : Nat) (hp : a.tmps.getD p undef = .pointer (some ⟨b, 0, none⟩)) (v1 : Value) (h1 : a.tmps.getD q undef = v1) (t : TypeId) (c : Array Value) (d : TypeDesc)
    (hg : w.heap[b]? = some (.cells c t)) (hu : P.underlying ty = some d) (hd : (match d with | .struct _ | .array _ _ => true | _ => false) = true) (hi : (P.info? ty).map (·.size) = some c.size)
    (hdf : a.defers = []) (hR : R (.returned (.tuple #[.agg c, v1])) w) : bodyPost P fn R .ret a w :=
  bodyPost_ret (results_row2 h a.tmps b hp v1 h1 w t c d hg hu hd hi) hdf hR
theorem heap_alloc_if (w : World) (o : Obj) (k : Nat) : (w.alloc o).heap[k]? = if k = w.heap.size then some o else w.heap[k]? := by
  show (w.heap.push o)[k]? = _
  rw [Array.getElem?_push]
theorem lt_of_some {v : World} {b : Nat} {o : Obj} (h : v.heap[b]? = some o) : b < v.heap.size := (Array.getElem?_eq_some_iff.1 h).1
theorem frozen_row {w : World} {z : Nat} {c : Array Value} {t : TypeId} (h : w.heap[z]? = some (.cells c t)) (j : Nat) : w.frozen? ⟨z, j, none⟩ = false := frozen_of_row w z j c t h
/-- What lay below B is as it was in w, and these blocks are known. -/
structure KW (B : Nat) (w : World) (L : List (Nat × Obj)) (v : World) : Prop where
  le : B ≤ w.heap.size
  bel : Below B w v
  has : ∀ x ∈ L, v.heap[x.1]? = some x.2
  nd : (L.map Prod.fst).Nodup
theorem KW.at {B : Nat} {w v : World} {L : List (Nat × Obj)} (h : KW B w L v) (i : Nat) {b : Nat} {o : Obj} (hi : L[i]? = some (b, o)) : v.heap[b]? = some o := h.has (b, o) (List.mem_of_getElem? hi)
theorem KW.size {B : Nat} {w v : World} {L : List (Nat × Obj)} (h : KW B w L v) : B ≤ v.heap.size := Nat.le_trans h.le h.bel.size
theorem KW.lt {B : Nat} {w v : World} {L : List (Nat × Obj)} (h : KW B w L v) (i : Nat) {b : Nat} {o : Obj} (hi : L[i]? = some (b, o)) : b < v.heap.size := lt_of_some (h.at i hi)
theorem KW.start (w : World) : KW w.heap.size w [] w := ⟨Nat.le_refl _, Below.refl _ _, fun _ h => (by cases h), List.nodup_nil⟩
theorem KW.past {B : Nat} {w v v' : World} {L : List (Nat × Obj)} (h : KW B w L v) (hb : Below v.heap.size v v') : KW B w L v' :=
  ⟨h.le, h.bel.trans (hb.mono h.size), fun x hx => (hb.block _ (lt_of_some (h.has x hx))).trans (h.has x hx), h.nd⟩
theorem KW.drew {B : Nat} {w v : World} {L : List (Nat × Obj)} (h : KW B w L v) : KW B w L v.drew := ⟨h.le, h.bel.drew, h.has, h.nd⟩
theorem KW.drop {B : Nat} {w v : World} {L : List (Nat × Obj)} {x : Nat × Obj} (h : KW B w (x :: L) v) : KW B w L v :=
  ⟨h.le, h.bel, fun y hy => h.has y (List.mem_cons_of_mem _ hy), (List.nodup_cons.1 h.nd).2⟩
theorem KW.new {B : Nat} {w v : World} {L : List (Nat × Obj)} (h : KW B w L v) (o : Obj) : KW B w ((v.heap.size, o) :: L) (v.alloc o) :=
  ⟨h.le, h.bel.alloc h.size _, fun x hx => by
    rcases List.mem_cons.1 hx with rfl | hx
    · rw [heap_alloc_if, if_pos rfl]
    · have := h.has x hx
      rw [heap_alloc_if, if_neg (Nat.ne_of_lt (lt_of_some this))]; exact this,
   List.nodup_cons.2 ⟨fun hm => by
      obtain ⟨x, hx, e⟩ := List.mem_map.1 hm
      have := lt_of_some (h.has x hx); omega, h.nd⟩⟩
/-- A block that is known because it lay there before. -/
theorem KW.know {B : Nat} {w v : World} {L : List (Nat × Obj)} (h : KW B w L v) (b : Nat) (o : Obj) (hb : v.heap[b]? = some o) (hn : b ∉ L.map Prod.fst) : KW B w ((b, o) :: L) v :=
  ⟨h.le, h.bel, fun x hx => by
    rcases List.mem_cons.1 hx with rfl | hx
    · exact hb
    · exact h.has x hx, List.nodup_cons.2 ⟨hn, h.nd⟩⟩
theorem KW.row {B : Nat} {w v : World} {L : List (Nat × Obj)} (h : KW B w L v) (i : Nat) {b : Nat} {c : Array Value} {t : TypeId} (hi : L[i]? = some (b, .cells c t)) (hb : B ≤ b) (c' : Array Value) : KW B w (L.set i (b, .cells c' t)) (v.setRow b c') := by
  have hil : i < L.length := (List.getElem?_eq_some_iff.1 hi).1
  have hLi : L[i] = (b, .cells c t) := (List.getElem?_eq_some_iff.1 hi).2
  have hmap : (L.set i (b, .cells c' t)).map Prod.fst = L.map Prod.fst := by
    rw [List.map_set]
    apply List.ext_getElem (by simp)
    intro j h1 h2
    rw [List.getElem_set]
    split
    · rename_i e; subst e; simp [hLi]
    · rfl
  refine ⟨h.le, below_setRow h.bel hb _, fun x hx => ?_, by rw [hmap]; exact h.nd⟩
  obtain ⟨j, hj, rfl⟩ := List.getElem_of_mem hx
  have hjl : j < L.length := by simpa using hj
  rw [List.getElem_set]
  split
  · exact setRow_heap _ _ _ _ _ _ (h.at i hi)
  · rename_i e
    have hne : L[j].1 ≠ b := by
      intro q
      have hp := List.pairwise_iff_getElem.1 h.nd
      rcases Nat.lt_or_ge i j with hij | hij
      · exact hp i j (by simpa using hil) (by simpa using hjl) hij (by simp [hLi, q])
      · exact hp j i (by simpa using hjl) (by simpa using hil) (by omega) (by simp [hLi, q])
    rw [setRow_other _ _ _ _ hne]
    exact h.has _ (List.getElem_mem hjl)
theorem KW.set {B : Nat} {w v : World} {L : List (Nat × Obj)} (h : KW B w L v) (i : Nat) {b : Nat} {c : Array Value} {t : TypeId} (hi : L[i]? = some (b, .cells c t)) (hb : B ≤ b) (j : Nat) (y : Value) : KW B w (L.set i (b, .cells (c.setIfInBounds j y) t)) (v.setCell ⟨b, j, none⟩ y) := by
  rw [setCell_eq_setRow _ _ _ _ _ _ _ (h.at i hi)]; exact h.row i hi hb _
theorem KW.cell {B : Nat} {w v : World} {L : List (Nat × Obj)} (h : KW B w L v) (i : Nat) {b : Nat} {c : Array Value} {t : TypeId} (hi : L[i]? = some (b, .cells c t)) (j : Nat) {y : Value} (hy : c[j]? = some y) : v.cell? ⟨b, j, none⟩ = some y := (cell_of_row v b j _ _ _ (h.at i hi)).trans hy
theorem KW.frozen {B : Nat} {w v : World} {L : List (Nat × Obj)} (h : KW B w L v) (i : Nat) {b : Nat} {c : Array Value} {t : TypeId} (hi : L[i]? = some (b, .cells c t)) (j : Nat) : v.frozen? ⟨b, j, none⟩ = false := frozen_row (h.at i hi) j

section
variable {P : Program} {ops : Array Oper} {rest : List Oper} {op : Oper} {a : Act} {w : World} {Q : Exit → Act → World → Prop}
theorem wpList_exec_g (hw : Region.wanted op (yielded ops a.tmps) = true) (v : Value) (hv : (execOp a.eval op).run P w = .ok (.value v) w) (h : wpList P ops Q rest (a.put op.dst v) w) : wpList P ops Q (op :: rest) a w := by
  unfold wpList
  rw [if_pos hw]
  unfold Oper.wp
  rw [hv]
  exact .inl h
theorem wpList_load_row_g (hw : Region.wanted op (yielded ops a.tmps) = true) (ty : TypeId) (x : Operand) (ho : op.op = .load ty x) (b : Nat) (hx : a.eval x = .pointer (some ⟨b, 0, none⟩)) (t : TypeId) (c : Array Value) (d : TypeDesc) (hg : w.heap[b]? = some (.cells c t))
    (hu : P.underlying ty = some d) (hd : (match d with | .struct _ | .array _ _ => true | _ => false) = true) (hi : (P.info? ty).map (·.size) = some c.size) (h : wpList P ops Q rest (a.put op.dst (.agg c)) w) : wpList P ops Q (op :: rest) a w :=
  wpList_exec_g hw _ (by
    unfold execOp
    simp only [ho, hx, Instr.loadAt, Instr.sureAddr, Sem.run_bind, Sem.run_pure, Result.andThen_ok, run_loadVar_row w b t ty c (0, 0) d hg hu hd hi]) h
end
theorem KW.two (w : World) (o1 o2 : Obj) : KW w.heap.size w [(w.heap.size + 1, o2), (w.heap.size, o1)] ((w.alloc o1).alloc o2) := by
  have h := ((KW.start w).new o1).new o2
  rw [World.size_alloc] at h
  exact h
end Go.Proofs.Ytphbkbjgjicncaa
