/-
  More operations of a region that is walked in the text's order: comparisons, sums, parts of texts, what is left out. No program is named here.
-/
import Derived.Test.YtfilolmbppjbjaaGevent
namespace Go.Proofs.Ytfilolmbppjbjaa
open Go Go.RowKit
variable {P : Program} {ops : Array Oper} {C : World → Prop} {Q : Act → Prop} {a : Act} {o : Oper} {rest : List Oper} {L : List (Nat × Value)} {N : Nat}

theorem not_wanted (j d : Nat) (b : Bool) (hg : o.guard = some (j, b)) (hd : (ops[j]?).bind (·.dst) = some d) (hv : a.tmps.getD d undef = .bool (!b) ∨ a.tmps.getD d undef = undef) : Region.wanted o (yielded ops a.tmps) = false := by
  unfold Region.wanted yielded
  rw [hg]
  simp only [hd, Option.bind_some]
  by_cases e : d < a.tmps.size
  · rw [Array.getElem?_eq_getElem e]
    have k : a.tmps.getD d undef = a.tmps[d] := by simp [e]
    rw [k] at hv
    rcases hv with hv | hv <;> rw [hv] <;> cases b <;> rfl
  · rw [Array.getElem?_eq_none (by omega)]; rfl
theorem wpQuiet_off (j d : Nat) (b : Bool) (hg : o.guard = some (j, b)) (hd : (ops[j]?).bind (·.dst) = some d) (hv : a.tmps.getD d undef = .bool (!b) ∨ a.tmps.getD d undef = undef) (h : wpQuiet P ops C Q rest (a.put o.dst undef)) : wpQuiet P ops C Q (o :: rest) a := by
  unfold wpQuiet
  rw [if_neg (by rw [not_wanted j d b hg hd hv]; simp)]
  exact h
theorem x_icmp {w : World} (op : BinOp) (t t' : TypeId) (x y : Operand) (ho : o.op = .binOp op t x y t') (k : IntKind) (m n : Int) (hx : a.eval x = .int k m) (hy : a.eval y = .int k n) (r : Bool)
    (hr : (match op with | .lss => decide (m < n) | .leq => decide (m ≤ n) | .gtr => decide (n < m) | .geq => decide (n ≤ m) | .eql => m == n | .neq => m != n | _ => !r) = r) : (execOp a.eval o).run P w = .ok (.value (.bool r)) w := by
  unfold execOp
  simp only [ho, hx, hy]
  cases op <;> simp only at hr <;> first | (cases r <;> cases hr; done) | (subst hr; simp [eqGuard, binOp, Op.intCmp, go_sem])
theorem x_iadd {w : World} (t t' : TypeId) (x y : Operand) (ho : o.op = .binOp .add t x y t') (m n : Int) (hx : a.eval x = .int .i64 m) (hy : a.eval y = .int .i64 n) (hb : -9223372036854775808 ≤ m + n ∧ m + n ≤ 9223372036854775807) : (execOp a.eval o).run P w = .ok (.value (.int .i64 (m + n))) w := by
  unfold execOp
  simp only [ho, hx, hy]
  have e : IntKind.i64.wrap (m + n) = m + n := by
    simp [IntKind.wrap, IntKind.signed, IntKind.bits]
    omega
  simp [eqGuard, binOp, go_sem, e]
theorem x_sub {w : World} (t : TypeId) (x : Operand) (lo hi : Option Operand) (ho : o.op = .slice t x lo hi none) (ht : P.underlying t = some .string) (s : ByteArray) (hx : a.eval x = .string s) (vl vh : Option Int) (hl : lo.map a.eval = vl.map fun i => .int .i64 i) (hh : hi.map a.eval = vh.map fun i => .int .i64 i)
    (i j : Nat) (hi' : vl.getD 0 = (i : Int)) (hj' : vh.getD (s.size : Int) = (j : Int)) (hij : i ≤ j) (hjs : j ≤ s.size) : (execOp a.eval o).run P w = .ok (.value (.string (s.extract i j))) w := by
  unfold execOp
  simp only [ho, hx, hl, hh, Option.map_none]
  cases vl with
  | none =>
    cases vh with
    | none =>
      obtain rfl : i = 0 := by simpa using hi'.symm
      obtain rfl : j = s.size := by have : (s.size : Int) = (j : Int) := hj'; omega
      simp [go_sem, ht]
    | some h =>
      obtain rfl : i = 0 := by simpa using hi'.symm
      obtain rfl : h = (j : Int) := hj'
      have e : (j : Int) ≤ (s.size : Int) := by omega
      simp [go_sem, ht, e]
  | some l =>
    obtain rfl : l = (i : Int) := hi'
    cases vh with
    | none =>
      obtain rfl : j = s.size := by have : (s.size : Int) = (j : Int) := hj'; omega
      have e : (i : Int) ≤ (s.size : Int) := by omega
      simp [go_sem, ht, e]
    | some h =>
      obtain rfl : h = (j : Int) := hj'
      have e1 : (i : Int) ≤ (j : Int) := by omega
      have e2 : (j : Int) ≤ (s.size : Int) := by omega
      simp [go_sem, ht, e1, e2]
theorem wpQuiet_icmp (hw : Region.wanted o (yielded ops a.tmps) = true) (op : BinOp) (t t' : TypeId) (x y : Operand) (ho : o.op = .binOp op t x y t') (k : IntKind) (m n : Int) (hx : a.eval x = .int k m) (hy : a.eval y = .int k n) (r : Bool)
    (hr : (match op with | .lss => decide (m < n) | .leq => decide (m ≤ n) | .gtr => decide (n < m) | .geq => decide (n ≤ m) | .eql => m == n | .neq => m != n | _ => !r) = r)
    (h : wpQuiet P ops C Q rest (a.put o.dst (.bool r))) : wpQuiet P ops C Q (o :: rest) a := wpQuiet_val hw _ (fun _ _ => x_icmp op t t' x y ho k m n hx hy r hr) h
theorem wpQuiet_iadd (hw : Region.wanted o (yielded ops a.tmps) = true) (t t' : TypeId) (x y : Operand) (ho : o.op = .binOp .add t x y t') (m n : Int) (hx : a.eval x = .int .i64 m) (hy : a.eval y = .int .i64 n) (hb : -9223372036854775808 ≤ m + n ∧ m + n ≤ 9223372036854775807)
    (h : wpQuiet P ops C Q rest (a.put o.dst (.int .i64 (m + n)))) : wpQuiet P ops C Q (o :: rest) a := wpQuiet_val hw _ (fun _ _ => x_iadd t t' x y ho m n hx hy hb) h
theorem wpQuiet_sub (hw : Region.wanted o (yielded ops a.tmps) = true) (t : TypeId) (x : Operand) (lo hi : Option Operand) (ho : o.op = .slice t x lo hi none) (ht : P.underlying t = some .string) (s : ByteArray) (hx : a.eval x = .string s) (vl vh : Option Int) (hl : lo.map a.eval = vl.map fun i => .int .i64 i) (hh : hi.map a.eval = vh.map fun i => .int .i64 i)
    (i j : Nat) (hi' : vl.getD 0 = (i : Int)) (hj' : vh.getD (s.size : Int) = (j : Int)) (hij : i ≤ j) (hjs : j ≤ s.size) (h : wpQuiet P ops C Q rest (a.put o.dst (.string (s.extract i j)))) : wpQuiet P ops C Q (o :: rest) a :=
  wpQuiet_val hw _ (fun _ _ => x_sub t x lo hi ho ht s hx vl vh hl hh i j hi' hj' hij hjs) h
theorem wpQuiet_cat (hw : Region.wanted o (yielded ops a.tmps) = true) (t t' : TypeId) (x y : Operand) (ho : o.op = .binOp .add t x y t') (s1 s2 : ByteArray) (hx : a.eval x = .string s1) (hy : a.eval y = .string s2) (hz : s1.size + s2.size ≤ 9223372036854775807)
    (h : wpQuiet P ops C Q rest (a.put o.dst (.string (s1 ++ s2)))) : wpQuiet P ops C Q (o :: rest) a :=
  wpQuiet_val hw _ (fun w _ => by unfold execOp; simp only [ho, hx, hy]; simp [eqGuard, binOp, go_sem, hz]) h
/-- The walk from here on; kept shut, so that nothing reckons it out. -/
structure WE (P : Program) (ops : Array Oper) (C : World → Prop) (Q : Act → Prop) (rest : List Oper) (a : Act) : Prop where
  out : wpQuiet P ops C Q rest a
theorem we_nil (h : Q a) : WE P ops C Q [] a := ⟨wpQuiet_nil h⟩
theorem we_move (hw : Region.wanted o (yielded ops a.tmps) = true) (x : Operand) (ho : o.op = .move x ∨ o.op = .assign x) (v : Value) (hx : a.eval x = v) (h : WE P ops C Q rest (a.put o.dst v)) : WE P ops C Q (o :: rest) a :=
  ⟨wpQuiet_move hw x ho v hx h.out⟩
theorem we_pick (hw : Region.wanted o (yielded ops a.tmps) = true) (c x y : Operand) (ho : o.op = .pick c x y) (b : Bool) (hc : a.eval c = .bool b) (v : Value) (hx : (if b then a.eval x else a.eval y) = v) (h : WE P ops C Q rest (a.put o.dst v)) : WE P ops C Q (o :: rest) a :=
  ⟨wpQuiet_pick hw c x y ho b hc v hx h.out⟩
theorem we_not (hw : Region.wanted o (yielded ops a.tmps) = true) (t : TypeId) (x : Operand) (ho : o.op = .unOp .not t x) (b : Bool) (hx : a.eval x = .bool b) (h : WE P ops C Q rest (a.put o.dst (.bool (!b)))) : WE P ops C Q (o :: rest) a :=
  ⟨wpQuiet_not hw t x ho b hx h.out⟩
theorem we_seq (hw : Region.wanted o (yielded ops a.tmps) = true) (t t' : TypeId) (x y : Operand) (ho : o.op = .binOp .eql t x y t') (s1 s2 : ByteArray) (hx : a.eval x = .string s1) (hy : a.eval y = .string s2) (r : Bool) (hr : (s1.toList == s2.toList) = r)
    (h : WE P ops C Q rest (a.put o.dst (.bool r))) : WE P ops C Q (o :: rest) a :=
  ⟨wpQuiet_seq hw t t' x y ho s1 s2 hx hy r hr h.out⟩
theorem we_sne (hw : Region.wanted o (yielded ops a.tmps) = true) (t t' : TypeId) (x y : Operand) (ho : o.op = .binOp .neq t x y t') (s1 s2 : ByteArray) (hx : a.eval x = .string s1) (hy : a.eval y = .string s2) (r : Bool) (hr : (!(s1.toList == s2.toList)) = r)
    (h : WE P ops C Q rest (a.put o.dst (.bool r))) : WE P ops C Q (o :: rest) a :=
  ⟨wpQuiet_sne hw t t' x y ho s1 s2 hx hy r hr h.out⟩
theorem we_icmp (hw : Region.wanted o (yielded ops a.tmps) = true) (op : BinOp) (t t' : TypeId) (x y : Operand) (ho : o.op = .binOp op t x y t') (k : IntKind) (m n : Int) (hx : a.eval x = .int k m) (hy : a.eval y = .int k n) (r : Bool)
    (hr : (match op with | .lss => decide (m < n) | .leq => decide (m ≤ n) | .gtr => decide (n < m) | .geq => decide (n ≤ m) | .eql => m == n | .neq => m != n | _ => !r) = r)
    (h : WE P ops C Q rest (a.put o.dst (.bool r))) : WE P ops C Q (o :: rest) a :=
  ⟨wpQuiet_icmp hw op t t' x y ho k m n hx hy r hr h.out⟩
theorem we_iadd (hw : Region.wanted o (yielded ops a.tmps) = true) (t t' : TypeId) (x y : Operand) (ho : o.op = .binOp .add t x y t') (m n : Int) (hx : a.eval x = .int .i64 m) (hy : a.eval y = .int .i64 n) (hb : -9223372036854775808 ≤ m + n ∧ m + n ≤ 9223372036854775807)
    (h : WE P ops C Q rest (a.put o.dst (.int .i64 (m + n)))) : WE P ops C Q (o :: rest) a :=
  ⟨wpQuiet_iadd hw t t' x y ho m n hx hy hb h.out⟩
theorem we_sub (hw : Region.wanted o (yielded ops a.tmps) = true) (t : TypeId) (x : Operand) (lo hi : Option Operand) (ho : o.op = .slice t x lo hi none) (ht : P.underlying t = some .string) (s : ByteArray) (hx : a.eval x = .string s) (vl vh : Option Int) (hl : lo.map a.eval = vl.map fun i => .int .i64 i) (hh : hi.map a.eval = vh.map fun i => .int .i64 i)
    (i j : Nat) (hi' : vl.getD 0 = (i : Int)) (hj' : vh.getD (s.size : Int) = (j : Int)) (hij : i ≤ j) (hjs : j ≤ s.size) (h : WE P ops C Q rest (a.put o.dst (.string (s.extract i j)))) : WE P ops C Q (o :: rest) a :=
  ⟨wpQuiet_sub hw t x lo hi ho ht s hx vl vh hl hh i j hi' hj' hij hjs h.out⟩
theorem we_cat (hw : Region.wanted o (yielded ops a.tmps) = true) (t t' : TypeId) (x y : Operand) (ho : o.op = .binOp .add t x y t') (s1 s2 : ByteArray) (hx : a.eval x = .string s1) (hy : a.eval y = .string s2) (hz : s1.size + s2.size ≤ 9223372036854775807)
    (h : WE P ops C Q rest (a.put o.dst (.string (s1 ++ s2)))) : WE P ops C Q (o :: rest) a :=
  ⟨wpQuiet_cat hw t t' x y ho s1 s2 hx hy hz h.out⟩
theorem we_len (hw : Region.wanted o (yielded ops a.tmps) = true) (t : TypeId) (x : Operand) (ho : o.op = .call { callee := .builtin .len, args := #[x], argTypes := #[t] }) (s : ByteArray) (hx : a.eval x = .string s) (ht : P.underlying t = some .string)
    (h : WE P ops C Q rest (a.put o.dst (.int .i64 (s.size : Int)))) : WE P ops C Q (o :: rest) a :=
  ⟨wpQuiet_len hw t x ho s hx ht h.out⟩
theorem we_call1 (hw : Region.wanted o (yielded ops a.tmps) = true) (f : FuncId) (x : Operand) (ts : Array TypeId) (ho : o.op = .call { callee := .value (.func f), args := #[x], argTypes := ts })
    (he : ∀ args w, (callFunc f args).run P w = .ok (.enter f args) w) (u : Value) (hx : a.eval x = u) (v : Value) (hc : ∀ w, C w → Calls P f #[u] w fun e w' => e = .returned v ∧ C w')
    (h : WE P ops C Q rest (a.put o.dst v)) : WE P ops C Q (o :: rest) a :=
  ⟨wpQuiet_call1 hw f x ts ho he u hx v hc h.out⟩
theorem we_call2 (hw : Region.wanted o (yielded ops a.tmps) = true) (f : FuncId) (x y : Operand) (ts : Array TypeId) (ho : o.op = .call { callee := .value (.func f), args := #[x, y], argTypes := ts })
    (he : ∀ args w, (callFunc f args).run P w = .ok (.enter f args) w) (u1 u2 : Value) (hx : a.eval x = u1) (hy : a.eval y = u2) (v : Value) (hc : ∀ w, C w → Calls P f #[u1, u2] w fun e w' => e = .returned v ∧ C w')
    (h : WE P ops C Q rest (a.put o.dst v)) : WE P ops C Q (o :: rest) a :=
  ⟨wpQuiet_call2 hw f x y ts ho he u1 u2 hx hy v hc h.out⟩
theorem we_beq (hw : Region.wanted o (yielded ops a.tmps) = true) (t t' : TypeId) (x y : Operand) (ho : o.op = .binOp .eql t x y t') (m n : Bool) (hx : a.eval x = .bool m) (hy : a.eval y = .bool n) (ht : P.underlying t = some .bool) (r : Bool) (hr : (m == n) = r)
    (h : WE P ops C Q rest (a.put o.dst (.bool r))) : WE P ops C Q (o :: rest) a :=
  ⟨wpQuiet_beq hw t t' x y ho m n hx hy ht r hr h.out⟩
theorem we_deq (hw : Region.wanted o (yielded ops a.tmps) = true) (t t' : TypeId) (x y : Operand) (ho : o.op = .binOp .eql t x y t') (c d : Array Value) (hx : a.eval x = .agg c) (hy : a.eval y = .agg d) (hp : P.eqGuardType P.depth t = false) (r : Bool) (hr : ∀ w, (Op.equalIn 10000 t (.agg c) (.agg d)).run P w = .ok r w)
    (h : WE P ops C Q rest (a.put o.dst (.bool r))) : WE P ops C Q (o :: rest) a :=
  ⟨wpQuiet_deq hw t t' x y ho c d hx hy hp r hr h.out⟩
theorem we_load (hw : Region.wanted o (yielded ops a.tmps) = true) (ty : TypeId) (x : Operand) (ho : o.op = .load ty x) (b : Nat) (hx : a.eval x = .pointer (some ⟨b, 0, none⟩)) (t : TypeId) (c : Array Value) (d : TypeDesc)
    (hg : ∀ w, C w → w.heap[b]? = some (.cells c t)) (hu : P.underlying ty = some d) (hd : (match d with | .struct _ | .array _ _ => true | _ => false) = true) (hi : (P.info? ty).map (·.size) = some c.size)
    (h : WE P ops C Q rest (a.put o.dst (.agg c))) : WE P ops C Q (o :: rest) a :=
  ⟨wpQuiet_load hw ty x ho b hx t c d hg hu hd hi h.out⟩
theorem we_off (j d : Nat) (b : Bool) (hg : o.guard = some (j, b)) (hd : (ops[j]?).bind (·.dst) = some d) (hv : a.tmps.getD d undef = .bool (!b) ∨ a.tmps.getD d undef = undef) (h : WE P ops C Q rest (a.put o.dst undef)) : WE P ops C Q (o :: rest) a :=
  ⟨wpQuiet_off j d b hg hd hv h.out⟩
theorem we_val (hw : Region.wanted o (yielded ops a.tmps) = true) (v : Value) (hv : ∀ w, C w → (execOp a.eval o).run P w = .ok (.value v) w)
    (h : WE P ops C Q rest (a.put o.dst v)) : WE P ops C Q (o :: rest) a :=
  ⟨wpQuiet_val hw v hv h.out⟩
theorem we_region {id : Nat} {Q : Exit → Act → World → Prop} {w : World} {l : List Oper} (C : World → Prop) (hm : P.follows .mixedOrders = true) (hB : Region.lexB .any l.toArray = true) (hC : C w.drew)
    (h : WE P l.toArray C (fun a' => ∀ w', C w' → Q .normal a' w') l a) : (Code.region id l.toArray true).wp P Q a w :=
  wp_region_class C hm hB hC h.out
end Go.Proofs.Ytfilolmbppjbjaa
