/-
  A region that draws its order, walked once in the order of the text, in whatever class of worlds its calls keep: a whole array that is loaded, a call, a conversion. No program is named here.
-/
import Derived.Test.YtphbkbjgjicncaaGreatFiles
import Derived.Deep.Quiet
import Derived.Deep.QuietTactic
import Derived.BigQuiet
import Derived.Laws.StructEq
import Derived.WalkKit
namespace Go.Proofs.YtphbkbjgjicncaaGreat
open Go Go.RowKit
variable {P : Program} {ops : Array Oper} {C : World → Prop} {Q : Act → Prop} {a : Act} {o : Oper} {rest : List Oper}

theorem wpQuiet_val (hw : Region.wanted o (yielded ops a.tmps) = true) (v : Value) (hv : ∀ w, C w → (execOp a.eval o).run P w = .ok (.value v) w)
    (h : wpQuiet P ops C Q rest (a.put o.dst v)) : wpQuiet P ops C Q (o :: rest) a := by
  unfold wpQuiet
  rw [if_pos hw]
  exact ⟨v, fun w hC => by unfold Oper.quietAt; rw [hv w hC]; exact ⟨rfl, rfl⟩, h⟩

theorem wpQuiet_load (hw : Region.wanted o (yielded ops a.tmps) = true) (ty : TypeId) (x : Operand) (ho : o.op = .load ty x) (b : Nat) (hx : a.eval x = .pointer (some ⟨b, 0, none⟩)) (t : TypeId) (c : Array Value) (d : TypeDesc)
    (hg : ∀ w, C w → w.heap[b]? = some (.cells c t)) (hu : P.underlying ty = some d) (hd : (match d with | .struct _ | .array _ _ => true | _ => false) = true) (hi : (P.info? ty).map (·.size) = some c.size)
    (h : wpQuiet P ops C Q rest (a.put o.dst (.agg c))) : wpQuiet P ops C Q (o :: rest) a :=
  wpQuiet_val hw _ (fun w hC => by
    unfold execOp
    simp only [ho, hx, Instr.loadAt, Instr.sureAddr, Sem.run_bind, Sem.run_pure, Result.andThen_ok, run_loadVar_row w b t ty c (0, 0) d (hg w hC) hu hd hi]) h

theorem wpQuiet_conv (hw : Region.wanted o (yielded ops a.tmps) = true) (s t : TypeId) (x : Operand) (ho : o.op = .convert s t x) (u v : Value) (hx : a.eval x = u) (hv : ∀ w, C w → (convert s t u).run P w = .ok v w)
    (h : wpQuiet P ops C Q rest (a.put o.dst v)) : wpQuiet P ops C Q (o :: rest) a :=
  wpQuiet_val hw v (fun w hC => by
    unfold execOp
    simp only [ho, hx, Sem.run_bind, hv w hC, Result.andThen_ok, Sem.run_pure]) h

theorem wpQuiet_call (hw : Region.wanted o (yielded ops a.tmps) = true) (f : FuncId) (xs : Array Operand) (ts : Array TypeId) (ho : o.op = .call { callee := .value (.func f), args := xs, argTypes := ts })
    (he : ∀ args w, (callFunc f args).run P w = .ok (.enter f args) w) (vs : Array Value) (hx : xs.map a.eval = vs) (v : Value) (hc : ∀ w, C w → Calls P f vs w fun e w' => e = .returned v ∧ C w')
    (h : wpQuiet P ops C Q rest (a.put o.dst v)) : wpQuiet P ops C Q (o :: rest) a := by
  unfold wpQuiet
  rw [if_pos hw]
  refine ⟨v, fun w hC => ?_, h⟩
  have : (execOp a.eval o).run P w = .ok (.enter f vs) w := by
    unfold execOp
    simp only [ho]
    simp [resolve, invoke, Deferred.ofValue, hx, he, Act.eval, go_sem]
  unfold Oper.quietAt
  rw [this]
  exact ⟨rfl, hc w hC⟩

theorem wpQuiet_call1 (hw : Region.wanted o (yielded ops a.tmps) = true) (f : FuncId) (x : Operand) (ts : Array TypeId) (ho : o.op = .call { callee := .value (.func f), args := #[x], argTypes := ts })
    (he : ∀ args w, (callFunc f args).run P w = .ok (.enter f args) w) (u : Value) (hx : a.eval x = u) (v : Value) (hc : ∀ w, C w → Calls P f #[u] w fun e w' => e = .returned v ∧ C w')
    (h : wpQuiet P ops C Q rest (a.put o.dst v)) : wpQuiet P ops C Q (o :: rest) a :=
  wpQuiet_call hw f _ ts ho he _ (by rw [← hx]; simp) v hc h
theorem wpQuiet_call2 (hw : Region.wanted o (yielded ops a.tmps) = true) (f : FuncId) (x y : Operand) (ts : Array TypeId) (ho : o.op = .call { callee := .value (.func f), args := #[x, y], argTypes := ts })
    (he : ∀ args w, (callFunc f args).run P w = .ok (.enter f args) w) (u1 u2 : Value) (hx : a.eval x = u1) (hy : a.eval y = u2) (v : Value) (hc : ∀ w, C w → Calls P f #[u1, u2] w fun e w' => e = .returned v ∧ C w')
    (h : wpQuiet P ops C Q rest (a.put o.dst v)) : wpQuiet P ops C Q (o :: rest) a :=
  wpQuiet_call hw f _ ts ho he _ (by rw [← hx, ← hy]; simp) v hc h

theorem wpQuiet_move (hw : Region.wanted o (yielded ops a.tmps) = true) (x : Operand) (ho : o.op = .move x ∨ o.op = .assign x) (v : Value) (hx : a.eval x = v) (h : wpQuiet P ops C Q rest (a.put o.dst v)) : wpQuiet P ops C Q (o :: rest) a :=
  wpQuiet_val hw v (fun w _ => by unfold execOp; rcases ho with ho | ho <;> simp only [ho, hx, Sem.run_pure]) h
theorem wpQuiet_pick (hw : Region.wanted o (yielded ops a.tmps) = true) (c x y : Operand) (ho : o.op = .pick c x y) (b : Bool) (hc : a.eval c = .bool b) (v : Value) (hx : (if b then a.eval x else a.eval y) = v) (h : wpQuiet P ops C Q rest (a.put o.dst v)) : wpQuiet P ops C Q (o :: rest) a :=
  wpQuiet_val hw v (fun w _ => by unfold execOp; rw [← hx]; cases b <;> simp [ho, hc, asBool]) h
theorem wpQuiet_not (hw : Region.wanted o (yielded ops a.tmps) = true) (t : TypeId) (x : Operand) (ho : o.op = .unOp .not t x) (b : Bool) (hx : a.eval x = .bool b) (h : wpQuiet P ops C Q rest (a.put o.dst (.bool (!b)))) : wpQuiet P ops C Q (o :: rest) a :=
  wpQuiet_val hw _ (fun w _ => by unfold execOp; simp only [ho, hx]; simp [Op.unary, go_sem]) h
theorem wpQuiet_seq (hw : Region.wanted o (yielded ops a.tmps) = true) (t t' : TypeId) (x y : Operand) (ho : o.op = .binOp .eql t x y t') (s1 s2 : ByteArray) (hx : a.eval x = .string s1) (hy : a.eval y = .string s2) (r : Bool) (hr : (s1.toList == s2.toList) = r)
    (h : wpQuiet P ops C Q rest (a.put o.dst (.bool r))) : wpQuiet P ops C Q (o :: rest) a :=
  wpQuiet_val hw _ (fun w _ => by unfold execOp; simp only [ho, hx, hy]; simp [eqGuard, go_sem, hr]) h
theorem wpQuiet_sne (hw : Region.wanted o (yielded ops a.tmps) = true) (t t' : TypeId) (x y : Operand) (ho : o.op = .binOp .neq t x y t') (s1 s2 : ByteArray) (hx : a.eval x = .string s1) (hy : a.eval y = .string s2) (r : Bool) (hr : (!(s1.toList == s2.toList)) = r)
    (h : wpQuiet P ops C Q rest (a.put o.dst (.bool r))) : wpQuiet P ops C Q (o :: rest) a :=
  wpQuiet_val hw _ (fun w _ => by unfold execOp; simp only [ho, hx, hy, binOp_string_neq]; rw [hr]; simp [eqGuard, go_sem]) h
theorem wpQuiet_ieq (hw : Region.wanted o (yielded ops a.tmps) = true) (t t' : TypeId) (x y : Operand) (ho : o.op = .binOp .eql t x y t') (k : IntKind) (m n : Int) (hx : a.eval x = .int k m) (hy : a.eval y = .int k n) (r : Bool) (hr : (m == n) = r)
    (h : wpQuiet P ops C Q rest (a.put o.dst (.bool r))) : wpQuiet P ops C Q (o :: rest) a :=
  wpQuiet_val hw _ (fun w _ => by unfold execOp; simp only [ho, hx, hy]; simp [eqGuard, binOp, Op.intCmp, go_sem, hr]) h
theorem wpQuiet_beq (hw : Region.wanted o (yielded ops a.tmps) = true) (t t' : TypeId) (x y : Operand) (ho : o.op = .binOp .eql t x y t') (m n : Bool) (hx : a.eval x = .bool m) (hy : a.eval y = .bool n) (ht : P.underlying t = some .bool) (r : Bool) (hr : (m == n) = r)
    (h : wpQuiet P ops C Q rest (a.put o.dst (.bool r))) : wpQuiet P ops C Q (o :: rest) a :=
  wpQuiet_val hw _ (fun w _ => by unfold execOp; rw [← hr]; simp only [ho, hx, hy]; simp [eqGuard, binOp, Op.equal, run_equalIn_bool w 9999 t m n ht, Op.maxDepth, go_sem]) h
theorem wpQuiet_deq (hw : Region.wanted o (yielded ops a.tmps) = true) (t t' : TypeId) (x y : Operand) (ho : o.op = .binOp .eql t x y t') (c d : Array Value) (hx : a.eval x = .agg c) (hy : a.eval y = .agg d) (hp : P.eqGuardType P.depth t = false) (r : Bool) (hr : ∀ w, (Op.equalIn 10000 t (.agg c) (.agg d)).run P w = .ok r w)
    (h : wpQuiet P ops C Q rest (a.put o.dst (.bool r))) : wpQuiet P ops C Q (o :: rest) a :=
  wpQuiet_val hw _ (fun w _ => by unfold execOp; simp only [ho, hx, hy]; simp [eqGuard, hp, run_eql_struct, hr, go_sem]) h
theorem wpQuiet_len (hw : Region.wanted o (yielded ops a.tmps) = true) (t : TypeId) (x : Operand) (ho : o.op = .call { callee := .builtin .len, args := #[x], argTypes := #[t] }) (s : ByteArray) (hx : a.eval x = .string s) (ht : P.underlying t = some .string)
    (h : wpQuiet P ops C Q rest (a.put o.dst (.int .i64 (s.size : Int)))) : wpQuiet P ops C Q (o :: rest) a :=
  wpQuiet_val hw _ (fun w _ => by unfold execOp; simp only [ho]; simp only [resolve, List.map_toArray, List.map_cons, List.map_nil, hx]; simp [invoke, builtin, Builtin.len_, run_underlying ht, goInt, go_sem]) h

/-- One walk of the lexical order, in a class of worlds. -/
theorem wp_region_class {id : Nat} {Q : Exit → Act → World → Prop} {a : Act} {w : World} {l : List Oper} (C : World → Prop) (hm : P.follows .mixedOrders = true) (hB : Region.lexB .any l.toArray = true) (hC : C w.drew)
    (h : wpQuiet P l.toArray C (fun a' => ∀ w', C w' → Q .normal a' w') l a) : (Code.region id l.toArray true).wp P Q a w :=
  wp_region_quiet hm hB hC (by simpa using h)
theorem wpQuiet_slen (hw : Region.wanted o (yielded ops a.tmps) = true) (t e : TypeId) (x : Operand) (ho : o.op = .call { callee := .builtin .len, args := #[x], argTypes := #[t] }) (p : Option Addr) (k c : Nat) (hx : a.eval x = .slice p k c) (ht : P.underlying t = some (.slice e))
    (h : wpQuiet P ops C Q rest (a.put o.dst (.int .i64 (k : Int)))) : wpQuiet P ops C Q (o :: rest) a :=
  wpQuiet_val hw _ (fun w _ => by unfold execOp; simp only [ho]; simp only [resolve, List.map_toArray, List.map_cons, List.map_nil, hx]; simp [invoke, builtin, Builtin.len_, run_underlying ht, goInt, go_sem]) h
theorem wpQuiet_index (hw : Region.wanted o (yielded ops a.tmps) = true) (t : TypeId) (x y : Operand) (ho : o.op = .indexAddr t x y) (u i : Value) (hx : a.eval x = u) (hy : a.eval y = i) (v : Value) (hv : ∀ w, (Instr.indexAt t u i).run P w = .ok v w)
    (h : wpQuiet P ops C Q rest (a.put o.dst v)) : wpQuiet P ops C Q (o :: rest) a :=
  wpQuiet_val hw v (fun w _ => by unfold execOp; simp only [ho, hx, hy, Sem.run_bind, hv, Result.andThen_ok, Sem.run_pure]) h
theorem x_icmp {w : World} (op : BinOp) (t t' : TypeId) (x y : Operand) (ho : o.op = .binOp op t x y t') (k : IntKind) (m n : Int) (hx : a.eval x = .int k m) (hy : a.eval y = .int k n) (r : Bool)
    (hr : (match op with | .lss => decide (m < n) | .leq => decide (m ≤ n) | .gtr => decide (n < m) | .geq => decide (n ≤ m) | .eql => m == n | .neq => m != n | _ => !r) = r) : (execOp a.eval o).run P w = .ok (.value (.bool r)) w := by
  unfold execOp
  simp only [ho, hx, hy]
  cases op <;> simp only at hr <;> first | (cases r <;> cases hr; done) | (subst hr; simp [eqGuard, binOp, Op.intCmp, go_sem])
theorem wpQuiet_icmp (hw : Region.wanted o (yielded ops a.tmps) = true) (op : BinOp) (t t' : TypeId) (x y : Operand) (ho : o.op = .binOp op t x y t') (k : IntKind) (m n : Int) (hx : a.eval x = .int k m) (hy : a.eval y = .int k n) (r : Bool)
    (hr : (match op with | .lss => decide (m < n) | .leq => decide (m ≤ n) | .gtr => decide (n < m) | .geq => decide (n ≤ m) | .eql => m == n | .neq => m != n | _ => !r) = r)
    (h : wpQuiet P ops C Q rest (a.put o.dst (.bool r))) : wpQuiet P ops C Q (o :: rest) a := wpQuiet_val hw _ (fun _ _ => x_icmp op t t' x y ho k m n hx hy r hr) h
theorem wpList_of_quiet {Q : Exit → Act → World → Prop} : ∀ (l : List Oper) (a : Act) (w : World), C w → wpQuiet P ops C (fun a' => ∀ w', C w' → Q .normal a' w') l a → wpList P ops Q l a w
  | [], a, w, hC, h => h w hC
  | o :: l, a, w, hC, h => by
    unfold wpQuiet at h
    unfold wpList
    split
    · rename_i hw
      rw [if_pos hw] at h
      exact .inl (Oper.wp_of_quiet hC (fun a' w' hC' h' => wpList_of_quiet l a' w' hC' h') h)
    · rename_i hw
      rw [if_neg hw] at h
      exact wpList_of_quiet l _ w hC h
theorem wp_region_still {id : Nat} {Q : Exit → Act → World → Prop} {a : Act} {w : World} {l : List Oper} (C : World → Prop) (hC : C w)
    (h : wpQuiet P l.toArray C (fun a' => ∀ w', C w' → Q .normal a' w') l a) : (Code.region id l.toArray false).wp P Q a w :=
  wp_region_list (wpList_of_quiet _ a w hC h)
theorem run_val {m : Sem Value} {x : Value} {v : World} (h : m.run Tryz.prog v = .ok x v) : (do pure (Next.value (← m)) : Sem Next).run Tryz.prog v = .ok (.value x) v := by
  rw [Sem.run_bind, h]; rfl
theorem loadCell (t : TypeId) (z o : Nat) (v : World) (x : Value) (ha : ∀ w, (isAgg t).run Tryz.prog w = .ok false w) (h : v.cell? ⟨z, o, none⟩ = some x) : (Instr.loadAt t (.pointer (some ⟨z, o, none⟩))).run Tryz.prog v = .ok x v := by
  simp [Instr.loadAt, Instr.sureAddr, loadVar, ha, h, go_sem]
theorem field27 (z k q : Nat) (h : (k, q) = (0, 0) ∨ (k, q) = (1, 1) ∨ (k, q) = (2, 2) ∨ (k, q) = (3, 3) ∨ (k, q) = (4, 4) ∨ (k, q) = (5, 5)) (v : World) :
    (Instr.fieldAt 24 (.pointer (some ⟨z, 0, none⟩)) k).run Tryz.prog v = .ok (.pointer (some ⟨z, q, none⟩)) v := by
  rcases h with h | h | h | h | h | h <;> cases h <;> (unfold Instr.fieldAt; simp [go_sem, run_underlying Tryz.underlying24])
theorem wpQuiet_field (hw : Region.wanted o (yielded ops a.tmps) = true) (k : Nat) (x : Operand) (ho : o.op = .fieldAddr 24 x k) (z : Nat) (hx : a.eval x = .pointer (some ⟨z, 0, none⟩)) (hk : k < 6)
    (h : wpQuiet Tryz.prog ops C Q rest (a.put o.dst (.pointer (some ⟨z, k, none⟩)))) : wpQuiet Tryz.prog ops C Q (o :: rest) a :=
  wpQuiet_val hw _ (fun w _ => by unfold execOp; simp only [ho, hx]; exact run_val (field27 z k k (by simp; omega) w)) h
theorem wpQuiet_cell (hw : Region.wanted o (yielded ops a.tmps) = true) (t : TypeId) (x : Operand) (ho : o.op = .load t x) (z k : Nat) (hx : a.eval x = .pointer (some ⟨z, k, none⟩)) (ha : ∀ w, (isAgg t).run Tryz.prog w = .ok false w) (v : Value)
    (hc : ∀ w, C w → w.cell? ⟨z, k, none⟩ = some v) (h : wpQuiet Tryz.prog ops C Q rest (a.put o.dst v)) : wpQuiet Tryz.prog ops C Q (o :: rest) a :=
  wpQuiet_val hw v (fun w hC => by unfold execOp; simp only [ho, hx]; exact run_val (loadCell t z k w v ha (hc w hC))) h
theorem wpQuiet_mid (hw : Region.wanted o (yielded ops a.tmps) = true) (t : TypeId) (x : Operand) (ho : o.op = .load t x) (z k : Nat) (hx : a.eval x = .pointer (some ⟨z, k, none⟩)) (v : Value)
    (hc : ∀ w, C w → (Instr.loadAt t (.pointer (some ⟨z, k, none⟩))).run Tryz.prog w = .ok v w) (h : wpQuiet Tryz.prog ops C Q rest (a.put o.dst v)) : wpQuiet Tryz.prog ops C Q (o :: rest) a :=
  wpQuiet_val hw v (fun w hC => by unfold execOp; simp only [ho, hx]; exact run_val (hc w hC)) h
/-- A list of operations, known by the slot of its first one: left for later. -/
theorem park_at {P : Program} {ops : Array Oper} {rest : List Oper} {o : Oper} {Q : Exit → Act → World → Prop} {a : Act} {w : World} (d : Tmp) (_hd : o.dst = some d) (h : ∀ X : Prop, Hid (wpList P ops Q (o :: rest) a w → X) → X) : wpList P ops Q (o :: rest) a w := h _ (fun k => k)
theorem wpQuiet_skip {P : Program} {ops : Array Oper} {C : World → Prop} {Q : Act → Prop} {a : Act} {o : Oper} {rest : List Oper} (hw : Region.wanted o (yielded ops a.tmps) = false) (h : wpQuiet P ops C Q rest (a.put o.dst undef)) : wpQuiet P ops C Q (o :: rest) a := by
  unfold wpQuiet
  rw [if_neg (by rw [hw]; decide)]
  exact h
/-- The rest of the code kept out of sight. -/
theorem wp_seq_hid {x y : Code} {Q : Exit → Act → World → Prop} {a : Act} {w : World} (h : ∀ K : Act → World → Prop, Hid (∀ a w, y.wp P Q a w → K a w) → x.wp P (Exit.then K Q) a w) : (Code.seq x y).wp P Q a w :=
  wp_seq_k fun K hK => h K (Lib.hid hK)
end Go.Proofs.YtphbkbjgjicncaaGreat
