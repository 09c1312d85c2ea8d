/-
  A region that draws its order, by an invariant that each operation keeps; and four operations at that level. No program is named here.
-/
import Derived.Test.YtphbkbjgjicncaaSLaws
import Derived.RegionTactic
namespace Go.Proofs.Ytphbkbjgjicncaa.sh
open Go Go.RowKit
variable {P : Program}

/-- How many operations are still to be done. -/
def todo (ops : Array Oper) (listed : Array Bool) : Nat := (List.range ops.size).countP fun i => !listed.getD i true

theorem todo_less {ops : Array Oper} {listed : Array Bool} {i : Nat} (h : i ∈ Region.ready .any ops listed) : todo ops (listed.setIfInBounds i true) < todo ops listed := by
  obtain ⟨h1, o, ho, _⟩ := mem_ready.1 h
  have hlt : i < ops.size := (Array.getElem?_eq_some_iff.1 ho).1
  unfold todo
  have key : ∀ l : List Nat, i ∈ l → l.countP (fun j => !(listed.setIfInBounds i true).getD j true) < l.countP (fun j => !listed.getD j true) := by
    intro l
    induction l with
    | nil => intro h; cases h
    | cons x l ih =>
      intro hm
      have hle : ∀ m : List Nat, m.countP (fun j => !(listed.setIfInBounds i true).getD j true) ≤ m.countP (fun j => !listed.getD j true) := fun m => by
        apply List.countP_mono_left
        intro j _ hj
        by_cases e : i = j
        · subst e; rw [h1]; rfl
        · rw [getD_set_ne true e] at hj; exact hj
      rw [List.countP_cons, List.countP_cons]
      by_cases e : i = x
      · subst e
        have e1 : (listed.setIfInBounds i true).getD i true = true := by
          by_cases hb : i < listed.size
          · simp [hb]
          · simp [hb]
        have := hle l
        rw [e1, h1]
        simp only [Bool.not_true, Bool.not_false, if_true, if_false, Bool.false_eq_true]
        omega
      · rw [getD_set_ne true e]
        have := ih (by rcases List.mem_cons.1 hm with h | h; exact absurd h e; exact h)
        omega
  exact key _ (List.mem_range.2 hlt)

theorem wpAny_inv {ops : Array Oper} {Q : Exit → Act → World → Prop} (J : Array Bool → Act → World → Prop)
    (hstep : ∀ listed a w, J listed a w → ∀ i ∈ Region.ready .any ops listed, wpOp P ops Q i (J (listed.setIfInBounds i true)) a w)
    (hend : ∀ listed a w, J listed a w → Region.ready .any ops listed = [] → Q .normal a w) :
    ∀ fuel listed a w, todo ops listed ≤ fuel → J listed a w → wpAny P .any ops Q fuel listed a w := by
  intro fuel
  induction fuel with
  | zero =>
    intro listed a w hf hJ
    have hr : Region.ready .any ops listed = [] := by
      cases h : Region.ready .any ops listed with
      | nil => rfl
      | cons i l => have := todo_less (ops := ops) (listed := listed) (i := i) (by rw [h]; simp); omega
    exact ⟨hr, hend _ _ _ hJ hr⟩
  | succ fuel ih =>
    intro listed a w hf hJ
    refine ⟨hend _ _ _ hJ, fun i hi => wpOp_mono (fun a' w' h' => ih _ _ _ ?_ h') (hstep _ _ _ hJ i hi)⟩
    have := todo_less hi
    omega

def edgeB (ops : Array Oper) (i j : Nat) : Bool := match ops[i]? with
  | some o => o.after.any fun e => Region.binds .any e && e.on == j
  | none => false
theorem ready_edge {ops : Array Oper} {listed : Array Bool} {i j : Nat} (h : i ∈ Region.ready .any ops listed) (he : edgeB ops i j = true) : listed.getD j false = true := by
  obtain ⟨_, o, ho, hall⟩ := mem_ready.1 h
  unfold edgeB at he
  rw [ho] at he
  obtain ⟨e, hm, hb⟩ := Array.any_eq_true'.1 he
  simp only [Bool.and_eq_true, beq_iff_eq] at hb
  rw [← hb.2]
  exact hall e hm hb.1
theorem ready_not {ops : Array Oper} {listed : Array Bool} {i : Nat} (h : i ∈ Region.ready .any ops listed) : listed.getD i true = false := (mem_ready.1 h).1
theorem ready_lt {ops : Array Oper} {listed : Array Bool} {i : Nat} (h : i ∈ Region.ready .any ops listed) : i < ops.size := by
  obtain ⟨_, o, ho, _⟩ := mem_ready.1 h
  exact (Array.getElem?_eq_some_iff.1 ho).1

theorem wpOp_plain {ops : Array Oper} {Q : Exit → Act → World → Prop} {i : Nat} {o : Oper} {K : Act → World → Prop} {a : Act} {w : World} (ho : ops[i]? = some o) (hg : o.guard = none) (h : Oper.wp P o a w K Q) : wpOp P ops Q i K a w :=
  wpOp_step ho fun K' hK => by
    rw [if_pos (by simp [Region.wanted, hg])]
    exact Oper.wp_mono hK h

theorem wp_load_row {op : Oper} {a : Act} {w : World} {K : Act → World → Prop} {Q : Exit → Act → World → Prop} (ty : TypeId) (x : Operand) (ho : op.op = .load ty x)
    (b : Nat) (hx : a.eval x = .pointer (some ⟨b, 0, none⟩)) (t : TypeId) (c : Array Value) (d : TypeDesc) (hg : w.heap[b]? = some (.cells c t))
    (hu : P.underlying ty = some d) (hd : (match d with | .struct _ | .array _ _ => true | _ => false) = true) (hi : (P.info? ty).map (·.size) = some c.size)
    (h : K (a.put op.dst (.agg c)) w) : op.wp P a w K Q := by
  unfold Oper.wp execOp
  simp only [ho, hx, Instr.loadAt, Instr.sureAddr, Sem.run_bind, Sem.run_pure, Result.andThen_ok, run_loadVar_row w b t ty c (0, 0) d hg hu hd hi]
  exact h
theorem wp_store_row {op : Oper} {a : Act} {w : World} {K : Act → World → Prop} {Q : Exit → Act → World → Prop} (ty : TypeId) (x y : Operand) (ho : op.op = .store ty x y)
    (b : Nat) (cells : Array Value) (hx : a.eval x = .pointer (some ⟨b, 0, none⟩)) (hy : a.eval y = .agg cells) (t : TypeId) (old : Array Value)
    (hg : w.heap[b]? = some (.cells old t)) (hi : (P.info? ty).map (·.size) = some cells.size) (hs : old.size = cells.size) (h1 : cells.all (·.oneCell') = true)
    (h : K (a.put op.dst undef) (w.setRow b cells)) : op.wp P a w K Q := by
  unfold Oper.wp execOp
  simp only [ho, hx, hy, Instr.storeAt, Instr.sureAddr, Sem.run_bind, Sem.run_pure, Result.andThen_ok, run_storeVar_row w b t ty old cells hg hi hs h1]
  exact h
theorem wp_alloc_row {op : Oper} {a : Act} {w : World} {K : Act → World → Prop} {Q : Exit → Act → World → Prop} (ty : TypeId) (ho : op.op = .alloc ty) (c : Array Value) (hz : (zeroValue ty).run P w = .ok (.agg c) w)
    (h : K (a.put op.dst (.pointer (some ⟨w.heap.size, 0, none⟩))) (w.alloc (.cells c ty))) : op.wp P a w K Q := by
  unfold Oper.wp execOp
  simp [ho, Instr.alloc, Sem.run_bind, hz, newVar, newRow, Value.cells, go_sem]
  exact h
theorem wp_call_fn {op : Oper} {a : Act} {w : World} {K : Act → World → Prop} {Q : Exit → Act → World → Prop} (f : FuncId) (x : Tmp) (t : TypeId) (ho : op.op = .call { callee := .value (.func f), args := #[.tmp x], argTypes := #[t] })
    (he : ∀ args w, (callFunc f args).run P w = .ok (.enter f args) w) (v : Value) (hx : a.eval (.tmp x) = v)
    (h : Calls P f #[v] w fun e w' => ∃ r, e = .returned r ∧ K (a.put op.dst r) w') : op.wp P a w K Q := by
  have hx' : a.tmps[x]?.getD undef = v := by simpa [Act.eval] using hx
  unfold Oper.wp execOp
  simp [ho, resolve, invoke, he, hx', go_sem]
  refine h.mono ?_
  rintro e w' ⟨r, rfl, hk⟩
  exact hk

/-- Nothing but these is waited for. -/
def onlyB (ops : Array Oper) (i : Nat) (js : List Nat) : Bool := match ops[i]? with
  | some o => o.after.all fun e => !Region.binds .any e || js.contains e.on
  | none => false
theorem done_of {ops : Array Oper} {listed : Array Bool} (hr : Region.ready .any ops listed = []) (i : Nat) (js : List Nat) (ho : onlyB ops i js = true) (hj : ∀ j ∈ js, listed.getD j false = true) : listed.getD i true = true := by
  cases h : listed.getD i true with
  | true => rfl
  | false =>
    have : i ∈ Region.ready .any ops listed := by
      refine mem_ready.2 ⟨h, ?_⟩
      unfold onlyB at ho
      cases hoi : ops[i]? with
      | none => rw [hoi] at ho; cases ho
      | some o =>
        rw [hoi] at ho
        refine ⟨o, rfl, fun e he hb => ?_⟩
        have := Array.all_eq_true_iff_forall_mem.1 ho e he
        rw [hb] at this
        exact hj _ (by simpa using this)
    rw [hr] at this
    cases this

/-- Two calls, each of an array that is loaded from one block, and their results laid into two new blocks: what holds at each step. -/
structure Two (w : World) (z b3 : Nat) (A R1 R2 Z1 Z2 D : Array Value) (tA t1 t2 tD : TypeId) (l0 l1 l2 l3 l4 l5 l6 l7 : Bool) (x4 x5 x10 x11 x12 x13 : Value) (b4 b5 : Nat) (v : World) : Prop where
  bel : Below z w v
  src : v.heap[b3]? = some (.cells A tA)
  res : v.heap[z]? = some (.cells D tD)
  e0 : l0 = true → x10 = .agg A
  e1 : l1 = true → x11 = .agg R1
  e2 : l2 = true → x12 = .agg A
  e3 : l3 = true → x13 = .agg R2
  e4 : l4 = true → x4 = .pointer (some ⟨b4, 0, none⟩) ∧ v.heap[b4]? = some (.cells (if l6 then R1 else Z1) t1) ∧ b3 < b4
  e5 : l5 = true → x5 = .pointer (some ⟨b5, 0, none⟩) ∧ v.heap[b5]? = some (.cells (if l7 then R2 else Z2) t2) ∧ b3 < b5
  ne : l4 = true → l5 = true → b4 ≠ b5
  c6 : l6 = true → l4 = true
  c7 : l7 = true → l5 = true
theorem lt_of_some {v : World} {b : Nat} {o : Obj} (h : v.heap[b]? = some o) : b < v.heap.size := (Array.getElem?_eq_some_iff.1 h).1
theorem Two.past {w : World} {z b3 : Nat} {A R1 R2 Z1 Z2 D : Array Value} {tA t1 t2 tD : TypeId} {l0 l1 l2 l3 l4 l5 l6 l7 : Bool} {x4 x5 x10 x11 x12 x13 : Value} {b4 b5 : Nat} {v v' : World}
    (T : Two w z b3 A R1 R2 Z1 Z2 D tA t1 t2 tD l0 l1 l2 l3 l4 l5 l6 l7 x4 x5 x10 x11 x12 x13 b4 b5 v) (hb : Below v.heap.size v v') :
    Two w z b3 A R1 R2 Z1 Z2 D tA t1 t2 tD l0 l1 l2 l3 l4 l5 l6 l7 x4 x5 x10 x11 x12 x13 b4 b5 v' where
  bel := T.bel.trans (hb.mono (Nat.le_of_lt (lt_of_some T.res)))
  src := (hb.block _ (lt_of_some T.src)).trans T.src
  res := (hb.block _ (lt_of_some T.res)).trans T.res
  e0 := T.e0
  e1 := T.e1
  e2 := T.e2
  e3 := T.e3
  e4 := fun h => ⟨(T.e4 h).1, (hb.block _ (lt_of_some (T.e4 h).2.1)).trans (T.e4 h).2.1, (T.e4 h).2.2⟩
  e5 := fun h => ⟨(T.e5 h).1, (hb.block _ (lt_of_some (T.e5 h).2.1)).trans (T.e5 h).2.1, (T.e5 h).2.2⟩
  ne := T.ne
  c6 := T.c6
  c7 := T.c7
end Go.Proofs.Ytphbkbjgjicncaa.sh
