/-
  The walk of a quiet region, shut in a structure, so that it is not unfolded through what is skipped.
-/
import Derived.Test.YtphbkbjgjicncaaGreatQuiet
import Derived.Test.YtphbkbjgjicncaaGreatDoReg
namespace Go.Proofs.YtphbkbjgjicncaaGreat
open Go Go.RowKit

structure WE (P : Program) (ops : Array Oper) (C : World → Prop) (Q : Act → Prop) (l : List Oper) (a : Act) : Prop where
  out : wpQuiet P ops C Q l a
section
variable {P : Program} {ops : Array Oper} {C : World → Prop} {rest : List Oper} {Q : Act → Prop} {a : Act} {o : Oper}
theorem wpQuiet_bne (hw : Region.wanted o (yielded ops a.tmps) = true) (t t' : TypeId) (x y : Operand) (ho : o.op = .binOp .neq t x y t') (m n : Bool) (hx : a.eval x = .bool m) (hy : a.eval y = .bool n) (ht : P.underlying t = some .bool) (r : Bool) (hr : (m != n) = r)
    (h : wpQuiet P ops C Q rest (a.put o.dst (.bool r))) : wpQuiet P ops C Q (o :: rest) a :=
  wpQuiet_val hw _ (fun w _ => by unfold execOp; rw [← hr]; simp only [ho, hx, hy]; simp [eqGuard, binOp, Op.equal, run_equalIn_bool w 9999 t m n ht, Op.maxDepth, go_sem, bne]) h
theorem we_nil (h : Q a) : WE P ops C Q [] a := ⟨wpQuiet_nil h⟩
theorem we_val (hw : Region.wanted o (yielded ops a.tmps) = true) (v : Value) (hv : ∀ w, C w → (execOp a.eval o).run P w = .ok (.value v) w) (h : WE P ops C Q rest (a.put o.dst v)) : WE P ops C Q (o :: rest) a := ⟨wpQuiet_val hw v hv h.out⟩
theorem we_move (hw : Region.wanted o (yielded ops a.tmps) = true) (x : Operand) (ho : o.op = .move x ∨ o.op = .assign x) (v : Value) (hx : a.eval x = v) (h : WE P ops C Q rest (a.put o.dst v)) : WE P ops C Q (o :: rest) a := ⟨wpQuiet_move hw x ho v hx h.out⟩
theorem we_pick (hw : Region.wanted o (yielded ops a.tmps) = true) (c x y : Operand) (ho : o.op = .pick c x y) (b : Bool) (hc : a.eval c = .bool b) (v : Value) (hx : (if b then a.eval x else a.eval y) = v) (h : WE P ops C Q rest (a.put o.dst v)) : WE P ops C Q (o :: rest) a := ⟨wpQuiet_pick hw c x y ho b hc v hx h.out⟩
theorem we_skip (hw : Region.wanted o (yielded ops a.tmps) = false) (h : WE P ops C Q rest (a.put o.dst undef)) : WE P ops C Q (o :: rest) a := ⟨wpQuiet_skip hw h.out⟩
theorem we_ieq (hw : Region.wanted o (yielded ops a.tmps) = true) (t t' : TypeId) (x y : Operand) (ho : o.op = .binOp .eql t x y t') (k : IntKind) (m n : Int) (hx : a.eval x = .int k m) (hy : a.eval y = .int k n) (r : Bool) (hr : (m == n) = r) (h : WE P ops C Q rest (a.put o.dst (.bool r))) : WE P ops C Q (o :: rest) a := ⟨wpQuiet_ieq hw t t' x y ho k m n hx hy r hr h.out⟩
theorem we_icmp (hw : Region.wanted o (yielded ops a.tmps) = true) (op : BinOp) (t t' : TypeId) (x y : Operand) (ho : o.op = .binOp op t x y t') (k : IntKind) (m n : Int) (hx : a.eval x = .int k m) (hy : a.eval y = .int k n) (r : Bool)
    (hr : (match op with | .lss => decide (m < n) | .leq => decide (m ≤ n) | .gtr => decide (n < m) | .geq => decide (n ≤ m) | .eql => m == n | .neq => m != n | _ => !r) = r) (h : WE P ops C Q rest (a.put o.dst (.bool r))) : WE P ops C Q (o :: rest) a := ⟨wpQuiet_icmp hw op t t' x y ho k m n hx hy r hr h.out⟩
theorem we_sne (hw : Region.wanted o (yielded ops a.tmps) = true) (t t' : TypeId) (x y : Operand) (ho : o.op = .binOp .neq t x y t') (s1 s2 : ByteArray) (hx : a.eval x = .string s1) (hy : a.eval y = .string s2) (r : Bool) (hr : (!(s1.toList == s2.toList)) = r) (h : WE P ops C Q rest (a.put o.dst (.bool r))) : WE P ops C Q (o :: rest) a := ⟨wpQuiet_sne hw t t' x y ho s1 s2 hx hy r hr h.out⟩
theorem we_seq (hw : Region.wanted o (yielded ops a.tmps) = true) (t t' : TypeId) (x y : Operand) (ho : o.op = .binOp .eql t x y t') (s1 s2 : ByteArray) (hx : a.eval x = .string s1) (hy : a.eval y = .string s2) (r : Bool) (hr : (s1.toList == s2.toList) = r) (h : WE P ops C Q rest (a.put o.dst (.bool r))) : WE P ops C Q (o :: rest) a := ⟨wpQuiet_seq hw t t' x y ho s1 s2 hx hy r hr h.out⟩
theorem we_bne (hw : Region.wanted o (yielded ops a.tmps) = true) (t t' : TypeId) (x y : Operand) (ho : o.op = .binOp .neq t x y t') (m n : Bool) (hx : a.eval x = .bool m) (hy : a.eval y = .bool n) (ht : P.underlying t = some .bool) (r : Bool) (hr : (m != n) = r) (h : WE P ops C Q rest (a.put o.dst (.bool r))) : WE P ops C Q (o :: rest) a := ⟨wpQuiet_bne hw t t' x y ho m n hx hy ht r hr h.out⟩
theorem we_beq (hw : Region.wanted o (yielded ops a.tmps) = true) (t t' : TypeId) (x y : Operand) (ho : o.op = .binOp .eql t x y t') (m n : Bool) (hx : a.eval x = .bool m) (hy : a.eval y = .bool n) (ht : P.underlying t = some .bool) (r : Bool) (hr : (m == n) = r) (h : WE P ops C Q rest (a.put o.dst (.bool r))) : WE P ops C Q (o :: rest) a := ⟨wpQuiet_beq hw t t' x y ho m n hx hy ht r hr h.out⟩
theorem we_deq (hw : Region.wanted o (yielded ops a.tmps) = true) (t t' : TypeId) (x y : Operand) (ho : o.op = .binOp .eql t x y t') (c d : Array Value) (hx : a.eval x = .agg c) (hy : a.eval y = .agg d) (hp : P.eqGuardType P.depth t = false) (r : Bool) (hr : ∀ w, (Op.equalIn 10000 t (.agg c) (.agg d)).run P w = .ok r w) (h : WE P ops C Q rest (a.put o.dst (.bool r))) : WE P ops C Q (o :: rest) a := ⟨wpQuiet_deq hw t t' x y ho c d hx hy hp r hr h.out⟩
theorem we_len (hw : Region.wanted o (yielded ops a.tmps) = true) (t : TypeId) (x : Operand) (ho : o.op = .call { callee := .builtin .len, args := #[x], argTypes := #[t] }) (s : ByteArray) (hx : a.eval x = .string s) (ht : P.underlying t = some .string) (h : WE P ops C Q rest (a.put o.dst (.int .i64 (s.size : Int)))) : WE P ops C Q (o :: rest) a := ⟨wpQuiet_len hw t x ho s hx ht h.out⟩
theorem we_index (hw : Region.wanted o (yielded ops a.tmps) = true) (t : TypeId) (x y : Operand) (ho : o.op = .indexAddr t x y) (u i : Value) (hx : a.eval x = u) (hy : a.eval y = i) (v : Value) (hv : ∀ w, (Instr.indexAt t u i).run P w = .ok v w) (h : WE P ops C Q rest (a.put o.dst v)) : WE P ops C Q (o :: rest) a := ⟨wpQuiet_index hw t x y ho u i hx hy v hv h.out⟩
theorem we_load (hw : Region.wanted o (yielded ops a.tmps) = true) (ty : TypeId) (x : Operand) (ho : o.op = .load ty x) (b : Nat) (hx : a.eval x = .pointer (some ⟨b, 0, none⟩)) (t : TypeId) (c : Array Value) (d : TypeDesc) (hg : ∀ w, C w → w.heap[b]? = some (.cells c t))
    (hu : P.underlying ty = some d) (hd : (match d with | .struct _ | .array _ _ => true | _ => false) = true) (hi : (P.info? ty).map (·.size) = some c.size) (h : WE P ops C Q rest (a.put o.dst (.agg c))) : WE P ops C Q (o :: rest) a := ⟨wpQuiet_load hw ty x ho b hx t c d hg hu hd hi h.out⟩
end
section
variable {ops : Array Oper} {C : World → Prop} {rest : List Oper} {Q : Act → Prop} {a : Act} {o : Oper}
theorem we_cell (hw : Region.wanted o (yielded ops a.tmps) = true) (t : TypeId) (x : Operand) (ho : o.op = .load t x) (z k : Nat) (hx : a.eval x = .pointer (some ⟨z, k, none⟩)) (ha : ∀ w, (isAgg t).run Tryz.prog w = .ok false w) (v : Value)
    (hc : ∀ w, C w → w.cell? ⟨z, k, none⟩ = some v) (h : WE Tryz.prog ops C Q rest (a.put o.dst v)) : WE Tryz.prog ops C Q (o :: rest) a := ⟨wpQuiet_cell hw t x ho z k hx ha v hc h.out⟩
theorem we_field (hw : Region.wanted o (yielded ops a.tmps) = true) (k : Nat) (x : Operand) (ho : o.op = .fieldAddr 24 x k) (z : Nat) (hx : a.eval x = .pointer (some ⟨z, 0, none⟩)) (hk : k < 6)
    (h : WE Tryz.prog ops C Q rest (a.put o.dst (.pointer (some ⟨z, k, none⟩)))) : WE Tryz.prog ops C Q (o :: rest) a := ⟨wpQuiet_field hw k x ho z hx hk h.out⟩
end
end Go.Proofs.YtphbkbjgjicncaaGreat
