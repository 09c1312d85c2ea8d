/-
  A region that draws its order, an operation at a time where there is one choice, or two; and from some operation on by one walk of the text's order. No program is named here.
-/
import Derived.Test.YtgaggncepknafaaAny
import Derived.Test.YtgaggncepknafaaQuiet
namespace Go.Proofs.Ytgaggncepknafaa
open Go Go.RowKit
variable {P : Program} {ops : Array Oper} {Q : Exit → Act → World → Prop} {listed : Array Bool} {a : Act} {w : World} {fuel : Nat}

theorem any_one {i : Nat} (hr : Region.ready .any ops listed = [i]) (h : wpOp P ops Q i (fun a' w' => wpAny P .any ops Q fuel (listed.setIfInBounds i true) a' w') a w) : wpAny P .any ops Q (fuel + 1) listed a w :=
  ⟨fun h0 => (by rw [hr] at h0; cases h0), fun j hj => (by rw [hr, List.mem_singleton] at hj; subst hj; exact h)⟩
theorem any_two {i k : Nat} (hr : Region.ready .any ops listed = [i, k]) (h : wpOp P ops Q i (fun a' w' => wpAny P .any ops Q fuel (listed.setIfInBounds i true) a' w') a w)
    (h2 : wpOp P ops Q k (fun a' w' => wpAny P .any ops Q fuel (listed.setIfInBounds k true) a' w') a w) : wpAny P .any ops Q (fuel + 1) listed a w :=
  ⟨fun h0 => (by rw [hr] at h0; cases h0), fun j hj => (by
    rw [hr] at hj
    rcases List.mem_cons.1 hj with rfl | hj
    · exact h
    · rw [List.mem_singleton] at hj; subst hj; exact h2)⟩
theorem any_none (hr : Region.ready .any ops listed = []) (h : Q .normal a w) : wpAny P .any ops Q fuel listed a w := by
  cases fuel with
  | zero => exact ⟨hr, h⟩
  | succ f => exact ⟨fun _ => h, fun j hj => by rw [hr] at hj; cases hj⟩
theorem wpOp_want {i : Nat} {o : Oper} {K : Act → World → Prop} (ho : ops[i]? = some o) (hw : Region.wanted o (yielded ops a.tmps) = true) (h : o.wp P a w K Q) : wpOp P ops Q i K a w :=
  wpOp_step ho fun K' hK => by
    rw [if_pos hw]
    exact Oper.wp_mono hK h
theorem wp_valw {op : Oper} {K : Act → World → Prop} (v : Value) (w' : World) (hv : (execOp a.eval op).run P w = .ok (.value v) w') (h : K (a.put op.dst v) w') : op.wp P a w K Q := by
  unfold Oper.wp
  rw [hv]
  exact h
theorem any_quiet (C : World → Prop) (k n : Nat) (hs : Region.noSelect ops = true) (hn : (ops.toList.drop k).length = n) (hB : Region.lexFrom .any ops n k listed = true) (hC : C w)
    (h : wpQuiet P ops C (fun a' => ∀ w', C w' → Q .normal a' w') (ops.toList.drop k) a) : wpAny P .any ops Q n listed a w := by
  subst hn
  exact wpAny_of_quiet (Q := fun a' => ∀ w', C w' → Q .normal a' w') (fun _ w' hw' h => h w' hw') _ _ _ _ hC (wpAnyQ_lex hs _ k listed a (fun j => by simp) hB h)
theorem call_const {op : Oper} {K : Act → World → Prop} (f : FuncId) (c : Value) (t : TypeId) (ho : op.op = .call { callee := .value (.func f), args := #[.const c], argTypes := #[t] })
    (he : ∀ args w, (callFunc f args).run P w = .ok (.enter f args) w)
    (h : Calls P f #[c] w fun e w' => ∃ r, e = .returned r ∧ K (a.put op.dst r) w') : op.wp P a w K Q := by
  unfold Oper.wp execOp
  simp [ho, resolve, invoke, he, go_sem]
  refine h.mono ?_
  rintro e w' ⟨r, rfl, hk⟩
  exact hk
variable {o : Oper}
theorem x_move (x : Operand) (ho : o.op = .move x ∨ o.op = .assign x) (v : Value) (hx : a.eval x = v) : (execOp a.eval o).run P w = .ok (.value v) w := by
  unfold execOp; rcases ho with ho | ho <;> simp only [ho, hx, Sem.run_pure]
theorem x_seq (t t' : TypeId) (x y : Operand) (ho : o.op = .binOp .eql t x y t') (s1 s2 : ByteArray) (hx : a.eval x = .string s1) (hy : a.eval y = .string s2) (r : Bool) (hr : (s1.toList == s2.toList) = r) : (execOp a.eval o).run P w = .ok (.value (.bool r)) w := by
  unfold execOp; simp only [ho, hx, hy]; simp [eqGuard, go_sem, hr]
theorem x_ieq (t t' : TypeId) (x y : Operand) (ho : o.op = .binOp .eql t x y t') (k : IntKind) (m n : Int) (hx : a.eval x = .int k m) (hy : a.eval y = .int k n) (r : Bool) (hr : (m == n) = r) : (execOp a.eval o).run P w = .ok (.value (.bool r)) w := by
  unfold execOp; simp only [ho, hx, hy]; simp [eqGuard, binOp, Op.intCmp, go_sem, hr]
theorem x_pick (c x y : Operand) (ho : o.op = .pick c x y) (b : Bool) (hc : a.eval c = .bool b) (v : Value) (hx : (if b then a.eval x else a.eval y) = v) : (execOp a.eval o).run P w = .ok (.value v) w := by
  unfold execOp; rw [← hx]; cases b <;> simp [ho, hc, asBool]
theorem x_conv (s t : TypeId) (x : Operand) (ho : o.op = .convert s t x) (u v : Value) (hx : a.eval x = u) (hv : (convert s t u).run P w = .ok v w) : (execOp a.eval o).run P w = .ok (.value v) w := by
  unfold execOp; simp only [ho, hx, Sem.run_bind, hv, Result.andThen_ok, Sem.run_pure]

theorem any_val (i : Nat) (o : Oper) (d : Option Tmp) (v : Value) (hr : Region.ready .any ops listed = [i]) (ho : ops[i]? = some o) (hd : o.dst = d) (hw : Region.wanted o (yielded ops a.tmps) = true) (hv : (execOp a.eval o).run P w = .ok (.value v) w)
    (h : wpAny P .any ops Q fuel (listed.setIfInBounds i true) (a.put d v) w) : wpAny P .any ops Q (fuel + 1) listed a w :=
  any_one hr (wpOp_want ho hw (wp_val v hv (by rw [hd]; exact h)))
/-- A value, and a slice of bytes that is built and turned into a text: in whatever order. -/
theorem head3 (C : World → Prop) (hCp : ∀ v v', C v → Below v.heap.size v v' → C v') (i j k : Nat) (o0 o1 o2 : Oper) (h0 : ops[i]? = some o0) (h1 : ops[j]? = some o1) (h2 : ops[k]? = some o2)
    (d0 d1 d2 : Option Tmp) (q0 : o0.dst = d0) (q1 : o1.dst = d1) (q2 : o2.dst = d2)
    (V0 : Value) (n : Nat) (cells : Array Value) (S : Value) (x2 : Operand) (hij : i ≠ j) (hik : i ≠ k)
    (r1 : Region.ready .any ops listed = [i, j]) (r2 : Region.ready .any ops (listed.setIfInBounds i true) = [j]) (r3 : Region.ready .any ops ((listed.setIfInBounds i true).setIfInBounds j true) = [k])
    (r4 : Region.ready .any ops (listed.setIfInBounds j true) = [i, k]) (r6 : Region.ready .any ops ((listed.setIfInBounds j true).setIfInBounds k true) = [i])
    (hw : ∀ x y z, ∀ o ∈ [o0, o1, o2], Region.wanted o (yielded ops a.tmps) = true ∧ Region.wanted o (yielded ops (a.put d0 x).tmps) = true ∧ Region.wanted o (yielded ops (a.put d1 y).tmps) = true ∧
      Region.wanted o (yielded ops ((a.put d1 y).put d2 z).tmps) = true ∧ Region.wanted o (yielded ops ((a.put d0 x).put d1 y).tmps) = true)
    (hX : ∀ a', (a' = a ∨ (∃ y, a' = a.put d1 y) ∨ (∃ y z, a' = (a.put d1 y).put d2 z)) → ∀ v (K : Act → World → Prop), (∀ v', Below v.heap.size v v' → K (a'.put d0 V0) v') → o0.wp P a' v K Q)
    (hb : ∀ a' v, (execOp (Act.eval a') o1).run P v = .ok (.value (.slice (some ⟨v.heap.size, 0, none⟩) n n)) (v.alloc (.cells cells 5)))
    (ho2 : o2.op = .convert 39 9 x2)
    (hcv : ∀ g v, v.heap[g]? = some (.cells cells 5) → (convert 39 9 (.slice (some ⟨g, 0, none⟩) n n)).run P v = .ok S v)
    (e1 : ∀ y, (a.put d1 y).eval x2 = y) (e2 : ∀ x y, ((a.put d0 x).put d1 y).eval x2 = y)
    (f1 : ∀ x y, (a.put d1 y).put d0 x = (a.put d0 x).put d1 y) (f2 : ∀ x y z, ((a.put d1 y).put d2 z).put d0 x = ((a.put d0 x).put d1 y).put d2 z)
    (hC : C w) (h : ∀ g v, C v → wpAny P .any ops Q fuel (((listed.setIfInBounds i true).setIfInBounds j true).setIfInBounds k true) (((a.put d0 V0).put d1 (.slice (some ⟨g, 0, none⟩) n n)).put d2 S) v) :
    wpAny P .any ops Q (fuel + 3) listed a w := by
  subst q0 q1 q2
  have m0 : o0 ∈ [o0, o1, o2] := by simp
  have m1 : o1 ∈ [o0, o1, o2] := by simp
  have m2 : o2 ∈ [o0, o1, o2] := by simp
  have al : ∀ v, C v → C (v.alloc (.cells cells 5)) := fun v hv => hCp v _ hv ((Below.refl _ _).alloc (Nat.le_refl _) _)
  have last : ∀ g v, C v → v.heap[g]? = some (.cells cells 5) → wpAny P .any ops Q (fuel + 1) ((listed.setIfInBounds i true).setIfInBounds j true) ((a.put o0.dst V0).put o1.dst (.slice (some ⟨g, 0, none⟩) n n)) v := fun g v hv hg =>
    any_one r3 (wpOp_want h2 (hw _ _ undef o2 m2).2.2.2.2 (wp_val S (x_conv _ _ _ ho2 _ _ (e2 _ _) (hcv g v hg)) (h g v hv)))
  refine any_two r1 (wpOp_want h0 (hw undef undef undef o0 m0).1 (hX a (.inl rfl) w _ fun v' hv' => ?_)) (wpOp_want h1 (hw undef undef undef o1 m1).1 (wp_valw _ _ (hb a w) ?_))
  · refine any_one r2 (wpOp_want h1 (hw V0 undef undef o1 m1).2.1 (wp_valw _ _ (hb _ v') ?_))
    exact last v'.heap.size _ (al _ (hCp _ _ hC hv')) (by rw [heap_alloc_if, if_pos rfl])
  · refine any_two r4 (wpOp_want h0 (hw undef _ undef o0 m0).2.2.1 (hX _ (.inr (.inl ⟨_, rfl⟩)) _ _ fun v' hv' => ?_)) (wpOp_want h2 (hw undef _ undef o2 m2).2.2.1 (wp_val S (x_conv _ _ _ ho2 _ _ (e1 _) (hcv w.heap.size _ (by rw [heap_alloc_if, if_pos rfl]))) ?_))
    · rw [f1, Array.setIfInBounds_comm _ _ (Ne.symm hij)]
      exact last w.heap.size v' (hCp _ _ (al _ hC) hv') (by rw [hv'.block _ (by simp), heap_alloc_if, if_pos rfl])
    · refine any_one r6 (wpOp_want h0 (hw undef _ _ o0 m0).2.2.2.1 (hX _ (.inr (.inr ⟨_, _, rfl⟩)) _ _ fun v' hv' => ?_))
      rw [f2, Array.setIfInBounds_comm _ _ (Ne.symm hik), Array.setIfInBounds_comm _ _ (Ne.symm hij)]
      exact h w.heap.size v' (hCp _ _ (al _ hC) hv')
end Go.Proofs.Ytgaggncepknafaa
