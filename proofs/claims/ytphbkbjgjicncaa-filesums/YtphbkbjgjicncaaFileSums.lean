/-
  For every row of texts, and every time, FileSums returns true: a seal tells the length, and the digest, of what was appended, in whatever parts.
  Conditions: none beyond the given statement's own.
-/
import Derived.Test.YtphbkbjgjicncaaQuiet
import Derived.Test.YtphbkbjgjicncaaDoReg
import Derived.Test.YtphbkbjgjicncaaRows
import Derived.Test.YtphbkbjgjicncaaOpenOps
import Derived.Test.YtphbkbjgjicncaaTail
import Derived.WalkKit
import Derived.ProofKit
import Derived.OpenShut
import Derived.ShutString
import Derived.ChangeOld
import Derived.Below
namespace Go.Proofs.Ytphbkbjgjicncaa
open Go Go.RowKit

structure WE (P : Program) (ops : Array Oper) (C : World → Prop) (Q : Act → Prop) (l : List Oper) (a : Act) : Prop where
  out : wpQuiet P ops C Q l a
section
variable {P : Program} {ops : Array Oper} {C : World → Prop} {rest : List Oper} {Q : Act → Prop} {a : Act} {o : Oper}
theorem wpQuiet_bne (hw : Region.wanted o (yielded ops a.tmps) = true) (t t' : TypeId) (x y : Operand) (ho : o.op = .binOp .neq t x y t') (m n : Bool) (hx : a.eval x = .bool m) (hy : a.eval y = .bool n) (ht : P.underlying t = some .bool) (r : Bool) (hr : (m != n) = r)
    (h : wpQuiet P ops C Q rest (a.put o.dst (.bool r))) : wpQuiet P ops C Q (o :: rest) a :=
  wpQuiet_val hw _ (fun w _ => by unfold execOp; rw [← hr]; simp only [ho, hx, hy]; simp [eqGuard, binOp, Op.equal, run_equalIn_bool w 9999 t m n ht, Op.maxDepth, go_sem, bne]) h
theorem we_nil (h : Q a) : WE P ops C Q [] a := ⟨wpQuiet_nil h⟩
theorem we_val (hw : Region.wanted o (yielded ops a.tmps) = true) (v : Value) (hv : ∀ w, C w → (execOp a.eval o).run P w = .ok (.value v) w) (h : WE P ops C Q rest (a.put o.dst v)) : WE P ops C Q (o :: rest) a := ⟨wpQuiet_val hw v hv h.out⟩
theorem we_move (hw : Region.wanted o (yielded ops a.tmps) = true) (x : Operand) (ho : o.op = .move x ∨ o.op = .assign x) (v : Value) (hx : a.eval x = v) (h : WE P ops C Q rest (a.put o.dst v)) : WE P ops C Q (o :: rest) a := ⟨wpQuiet_move hw x ho v hx h.out⟩
theorem we_pick (hw : Region.wanted o (yielded ops a.tmps) = true) (c x y : Operand) (ho : o.op = .pick c x y) (b : Bool) (hc : a.eval c = .bool b) (v : Value) (hx : (if b then a.eval x else a.eval y) = v) (h : WE P ops C Q rest (a.put o.dst v)) : WE P ops C Q (o :: rest) a := ⟨wpQuiet_pick hw c x y ho b hc v hx h.out⟩
theorem we_skip (hw : Region.wanted o (yielded ops a.tmps) = false) (h : WE P ops C Q rest (a.put o.dst undef)) : WE P ops C Q (o :: rest) a := ⟨wpQuiet_skip hw h.out⟩
theorem we_ieq (hw : Region.wanted o (yielded ops a.tmps) = true) (t t' : TypeId) (x y : Operand) (ho : o.op = .binOp .eql t x y t') (k : IntKind) (m n : Int) (hx : a.eval x = .int k m) (hy : a.eval y = .int k n) (r : Bool) (hr : (m == n) = r) (h : WE P ops C Q rest (a.put o.dst (.bool r))) : WE P ops C Q (o :: rest) a := ⟨wpQuiet_ieq hw t t' x y ho k m n hx hy r hr h.out⟩
theorem we_icmp (hw : Region.wanted o (yielded ops a.tmps) = true) (op : BinOp) (t t' : TypeId) (x y : Operand) (ho : o.op = .binOp op t x y t') (k : IntKind) (m n : Int) (hx : a.eval x = .int k m) (hy : a.eval y = .int k n) (r : Bool)
    (hr : (match op with | .lss => decide (m < n) | .leq => decide (m ≤ n) | .gtr => decide (n < m) | .geq => decide (n ≤ m) | .eql => m == n | .neq => m != n | _ => !r) = r) (h : WE P ops C Q rest (a.put o.dst (.bool r))) : WE P ops C Q (o :: rest) a := ⟨wpQuiet_icmp hw op t t' x y ho k m n hx hy r hr h.out⟩
theorem we_sne (hw : Region.wanted o (yielded ops a.tmps) = true) (t t' : TypeId) (x y : Operand) (ho : o.op = .binOp .neq t x y t') (s1 s2 : ByteArray) (hx : a.eval x = .string s1) (hy : a.eval y = .string s2) (r : Bool) (hr : (!(s1.toList == s2.toList)) = r) (h : WE P ops C Q rest (a.put o.dst (.bool r))) : WE P ops C Q (o :: rest) a := ⟨wpQuiet_sne hw t t' x y ho s1 s2 hx hy r hr h.out⟩
theorem we_seq (hw : Region.wanted o (yielded ops a.tmps) = true) (t t' : TypeId) (x y : Operand) (ho : o.op = .binOp .eql t x y t') (s1 s2 : ByteArray) (hx : a.eval x = .string s1) (hy : a.eval y = .string s2) (r : Bool) (hr : (s1.toList == s2.toList) = r) (h : WE P ops C Q rest (a.put o.dst (.bool r))) : WE P ops C Q (o :: rest) a := ⟨wpQuiet_seq hw t t' x y ho s1 s2 hx hy r hr h.out⟩
theorem we_bne (hw : Region.wanted o (yielded ops a.tmps) = true) (t t' : TypeId) (x y : Operand) (ho : o.op = .binOp .neq t x y t') (m n : Bool) (hx : a.eval x = .bool m) (hy : a.eval y = .bool n) (ht : P.underlying t = some .bool) (r : Bool) (hr : (m != n) = r) (h : WE P ops C Q rest (a.put o.dst (.bool r))) : WE P ops C Q (o :: rest) a := ⟨wpQuiet_bne hw t t' x y ho m n hx hy ht r hr h.out⟩
theorem we_beq (hw : Region.wanted o (yielded ops a.tmps) = true) (t t' : TypeId) (x y : Operand) (ho : o.op = .binOp .eql t x y t') (m n : Bool) (hx : a.eval x = .bool m) (hy : a.eval y = .bool n) (ht : P.underlying t = some .bool) (r : Bool) (hr : (m == n) = r) (h : WE P ops C Q rest (a.put o.dst (.bool r))) : WE P ops C Q (o :: rest) a := ⟨wpQuiet_beq hw t t' x y ho m n hx hy ht r hr h.out⟩
theorem we_deq (hw : Region.wanted o (yielded ops a.tmps) = true) (t t' : TypeId) (x y : Operand) (ho : o.op = .binOp .eql t x y t') (c d : Array Value) (hx : a.eval x = .agg c) (hy : a.eval y = .agg d) (hp : P.eqGuardType P.depth t = false) (r : Bool) (hr : ∀ w, (Op.equalIn 10000 t (.agg c) (.agg d)).run P w = .ok r w) (h : WE P ops C Q rest (a.put o.dst (.bool r))) : WE P ops C Q (o :: rest) a := ⟨wpQuiet_deq hw t t' x y ho c d hx hy hp r hr h.out⟩
theorem we_len (hw : Region.wanted o (yielded ops a.tmps) = true) (t : TypeId) (x : Operand) (ho : o.op = .call { callee := .builtin .len, args := #[x], argTypes := #[t] }) (s : ByteArray) (hx : a.eval x = .string s) (ht : P.underlying t = some .string) (h : WE P ops C Q rest (a.put o.dst (.int .i64 (s.size : Int)))) : WE P ops C Q (o :: rest) a := ⟨wpQuiet_len hw t x ho s hx ht h.out⟩
theorem we_index (hw : Region.wanted o (yielded ops a.tmps) = true) (t : TypeId) (x y : Operand) (ho : o.op = .indexAddr t x y) (u i : Value) (hx : a.eval x = u) (hy : a.eval y = i) (v : Value) (hv : ∀ w, (Instr.indexAt t u i).run P w = .ok v w) (h : WE P ops C Q rest (a.put o.dst v)) : WE P ops C Q (o :: rest) a := ⟨wpQuiet_index hw t x y ho u i hx hy v hv h.out⟩
theorem we_load (hw : Region.wanted o (yielded ops a.tmps) = true) (ty : TypeId) (x : Operand) (ho : o.op = .load ty x) (b : Nat) (hx : a.eval x = .pointer (some ⟨b, 0, none⟩)) (t : TypeId) (c : Array Value) (d : TypeDesc) (hg : ∀ w, C w → w.heap[b]? = some (.cells c t))
    (hu : P.underlying ty = some d) (hd : (match d with | .struct _ | .array _ _ => true | _ => false) = true) (hi : (P.info? ty).map (·.size) = some c.size) (h : WE P ops C Q rest (a.put o.dst (.agg c))) : WE P ops C Q (o :: rest) a := ⟨wpQuiet_load hw ty x ho b hx t c d hg hu hd hi h.out⟩
end
section
variable {ops : Array Oper} {C : World → Prop} {rest : List Oper} {Q : Act → Prop} {a : Act} {o : Oper}
theorem we_cell (hw : Region.wanted o (yielded ops a.tmps) = true) (t : TypeId) (x : Operand) (ho : o.op = .load t x) (z k : Nat) (hx : a.eval x = .pointer (some ⟨z, k, none⟩)) (ha : ∀ w, (isAgg t).run Try.prog w = .ok false w) (v : Value)
    (hc : ∀ w, C w → w.cell? ⟨z, k, none⟩ = some v) (h : WE Try.prog ops C Q rest (a.put o.dst v)) : WE Try.prog ops C Q (o :: rest) a := ⟨wpQuiet_cell hw t x ho z k hx ha v hc h.out⟩
theorem we_field (hw : Region.wanted o (yielded ops a.tmps) = true) (k : Nat) (x : Operand) (ho : o.op = .fieldAddr 24 x k) (z : Nat) (hx : a.eval x = .pointer (some ⟨z, 0, none⟩)) (hk : k < 6)
    (h : WE Try.prog ops C Q rest (a.put o.dst (.pointer (some ⟨z, k, none⟩)))) : WE Try.prog ops C Q (o :: rest) a := ⟨wpQuiet_field hw k x ho z hx hk h.out⟩
end
end Go.Proofs.Ytphbkbjgjicncaa

namespace Go.Proofs.Ytphbkbjgjicncaa.fileSums
open Go.ChangeShapes Go.WideShapes Go.ChangeAt Go.RowKit
open Go.ChangeMaps (open_string shut_string)
set_option linter.unusedVariables false

theorem own : ownKnob Try.prog.godebug = none := by kernel_rfl
theorem laidOut : laidOutB Try.prog = true := by kernel_rfl

/-- The worlds of the rounds: the file that is held now, in block b. -/
structure FV (w : World) (b : Nat) (f : Fl) (L : List ByteArray) (v : World) : Prop where
  kw : KW w.heap.size w [(b, .cells (flr f) 24)] v
  at_ : StrAt v.heap.size v f.ha L
  n : f.hn = L.length
theorem FV.past {w v v' : World} {b : Nat} {f : Fl} {L : List ByteArray} (h : FV w b f L v) (hb : Below v.heap.size v v') : FV w b f L v' := ⟨h.kw.past hb, h.at_.on hb, h.n⟩
theorem FV.drew {w v : World} {b : Nat} {f : Fl} {L : List ByteArray} (h : FV w b f L v) : FV w b f L v.drew := h.past (Below.refl _ _).drew
theorem field33 (z : Nat) (v : World) : (Instr.fieldAt 33 (.pointer (some ⟨z, 0, none⟩)) 4).run Try.prog v = .ok (.pointer (some ⟨z, 4, none⟩)) v := by
  unfold Instr.fieldAt; simp [go_sem, run_underlying Try.underlying33]
abbrev KL (w : World) (bf bA bB : Nat) (g : Fl) (h : Fl) (e : Ev) (v : World) : Prop := KW w.heap.size w [(bB, .cells (evr e) 33), (bA, .cells (flr h) 24), (bf, .cells (flr g) 24)] v
def N1 : ByteArray := ⟨#[110]⟩
theorem vd_N : vdB N1 = true := by decide +kernel
def gs (A : ByteArray) (a : Option Addr) (c : Nat) : Fl := ⟨5, N1, A, false, 0, a, 0, c⟩
def ox (x : ByteArray) : Opv := ⟨1, em, x, 0, 0, 0⟩
def os (t : Int) : Opv := ⟨2, em, em, t, 0, 0⟩
def ea (x : ByteArray) : Ev := ⟨1, 5, [], 0, (x.size : Int), z32⟩
def es (t : Int) (A : ByteArray) : Ev := ⟨2, 5, [], t, (A.size : Int), sh.sha A.data.toList⟩
theorem do_ox (A x : ByteArray) (a : Option Addr) (c : Nat) :
    (x.size = 0 ∧ doR (gs A a c) [] (ox x) 0 = (gs A a c, [], ev0, 1)) ∨ (x.size ≠ 0 ∧ 600 < A.size + x.size ∧ doR (gs A a c) [] (ox x) 0 = (gs A a c, [], ev0, 10)) ∨
    (x.size ≠ 0 ∧ A.size + x.size ≤ 600 ∧ doR (gs A a c) [] (ox x) 0 = (gs (A ++ x) a c, [], ea x, 0)) := by
  have hd : ∀ k g, appF (gs A a c) x = (g, k) → doneR (gs A a c) [] (ox x) 0 = (g, [], k) := fun k g e => by
    show ((appF (gs A a c) x).1, ([] : List ByteArray), (appF (gs A a c) x).2) = _
    rw [e]
  by_cases h0 : x.size = 0
  · left
    have e : appF (gs A a c) x = (gs A a c, 1) := by unfold appF; rw [if_neg (show ¬ (gs A a c).se = true from Bool.false_ne_true), if_pos h0]
    exact ⟨h0, by unfold doR; rw [hd _ _ e]; rfl⟩
  · right
    by_cases h1 : 600 < A.size + x.size
    · left
      have e : appF (gs A a c) x = (gs A a c, 10) := by unfold appF; rw [if_neg (show ¬ (gs A a c).se = true from Bool.false_ne_true), if_neg h0]; exact if_pos h1
      exact ⟨h0, h1, by unfold doR; rw [hd _ _ e]; rfl⟩
    · right
      have e : appF (gs A a c) x = (gs (A ++ x) a c, 0) := by unfold appF; rw [if_neg (show ¬ (gs A a c).se = true from Bool.false_ne_true), if_neg h0]; exact if_neg h1
      exact ⟨h0, by omega, by unfold doR; rw [hd _ _ e]; rfl⟩
theorem do_os (A : ByteArray) (t : Int) (a : Option Addr) (c : Nat) (h0 : 0 ≤ t) (h1 : t ≤ 1099511627776) : doR (gs A a c) [] (os t) 0 = (⟨5, N1, A, true, t, a, 0, c⟩, [], es t A, 0) := by
  have ht : tmB t = true := by unfold tmB; simp [h0, h1]
  have e : sealF (gs A a c) t = (⟨5, N1, A, true, t, a, 0, c⟩, 0) := by unfold sealF; rw [if_neg (show ¬ (gs A a c).se = true from Bool.false_ne_true), ht]; rfl
  have hd : doneR (gs A a c) [] (os t) 0 = (⟨5, N1, A, true, t, a, 0, c⟩, [], 0) := by
    show ((sealF (gs A a c) t).1, ([] : List ByteArray), (sealF (gs A a c) t).2) = _
    rw [e]
  unfold doR; rw [hd]; rfl
theorem open_texts {H : Type} {enc : TypeId × Value → H} {w : World} {sp : Nat → Bool} {held : Bool} {fuel : Nat} {cs : List Value} {x : DataW H × List MemPlace}
    (h : DataW.trod enc Try.prog w 0 sp held fuel 22 cs = some x) : ∃ a c, ∃ L : List ByteArray, cs = [.slice a L.length c] ∧ StrAt w.heap.size w a L ∧ (∀ s ∈ L, s.size ≤ maxLen) ∧ L.length ≤ maxLen := by
  obtain ⟨a, c, L, h1, h2, h3, h4, _⟩ := open_strs h
  exact ⟨a, c, L, h1, h2, h3, h4⟩
theorem new_N (w : World) : Calls Try.prog 20 #[.int .i64 5, .string N1] w fun e w' => e = .returned (.tuple #[.agg (flr (gs em none 0)), .int .i64 0]) ∧ Below w.heap.size w w' := by
  have e1 : newF 5 N1 = (gs em none 0, 0) := by unfold newF; rw [vd_N]; rfl
  have := new_any 5 N1 w (by decide)
  rw [e1] at this; exact this
theorem build_ox (x : ByteArray) (v : World) : (Instr.build 27 #[(0, .int .i64 1), (2, .string x)]).run Try.prog v = .ok (.agg (opr (ox x))) v := run_build v 27 _ _ (by kernel_rfl)
theorem build_os (t : Int) (v : World) : (Instr.build 27 #[(0, .int .i64 2), (3, .int .i64 t)]).run Try.prog v = .ok (.agg (opr (os t))) v := run_build v 27 _ _ (by kernel_rfl)
theorem ent28 : ∀ args w, (callFunc 28 args).run Try.prog w = .ok (.enter 28 args) w := enters_of Try.func28 (by kernel_rfl) rfl
theorem build_es (t n : Int) (D : List UInt8) (h : D.length = 32) (v : World) : (Instr.build 33 #[(0, .int .i64 2), (1, .int .i64 5), (3, .int .i64 t), (4, .int .i64 n), (5, .agg (row D))]).run Try.prog v = .ok (.agg (evr ⟨2, 5, [], t, n, D⟩)) v := by
  rcases D with _ | ⟨d0, D⟩
  · simp at h
  rcases D with _ | ⟨d1, D⟩
  · simp at h
  rcases D with _ | ⟨d2, D⟩
  · simp at h
  rcases D with _ | ⟨d3, D⟩
  · simp at h
  rcases D with _ | ⟨d4, D⟩
  · simp at h
  rcases D with _ | ⟨d5, D⟩
  · simp at h
  rcases D with _ | ⟨d6, D⟩
  · simp at h
  rcases D with _ | ⟨d7, D⟩
  · simp at h
  rcases D with _ | ⟨d8, D⟩
  · simp at h
  rcases D with _ | ⟨d9, D⟩
  · simp at h
  rcases D with _ | ⟨d10, D⟩
  · simp at h
  rcases D with _ | ⟨d11, D⟩
  · simp at h
  rcases D with _ | ⟨d12, D⟩
  · simp at h
  rcases D with _ | ⟨d13, D⟩
  · simp at h
  rcases D with _ | ⟨d14, D⟩
  · simp at h
  rcases D with _ | ⟨d15, D⟩
  · simp at h
  rcases D with _ | ⟨d16, D⟩
  · simp at h
  rcases D with _ | ⟨d17, D⟩
  · simp at h
  rcases D with _ | ⟨d18, D⟩
  · simp at h
  rcases D with _ | ⟨d19, D⟩
  · simp at h
  rcases D with _ | ⟨d20, D⟩
  · simp at h
  rcases D with _ | ⟨d21, D⟩
  · simp at h
  rcases D with _ | ⟨d22, D⟩
  · simp at h
  rcases D with _ | ⟨d23, D⟩
  · simp at h
  rcases D with _ | ⟨d24, D⟩
  · simp at h
  rcases D with _ | ⟨d25, D⟩
  · simp at h
  rcases D with _ | ⟨d26, D⟩
  · simp at h
  rcases D with _ | ⟨d27, D⟩
  · simp at h
  rcases D with _ | ⟨d28, D⟩
  · simp at h
  rcases D with _ | ⟨d29, D⟩
  · simp at h
  rcases D with _ | ⟨d30, D⟩
  · simp at h
  rcases D with _ | ⟨d31, D⟩
  · simp at h
  rcases D with _ | ⟨d32, D⟩
  · exact run_build v 33 _ _ (by kernel_rfl)
  · simp at h
theorem index22 (b o n c k : Nat) (h : k < n) (w : World) : (Instr.indexAt 22 (.slice (some ⟨b, o, none⟩) n c) (.int .i64 (k : Int))).run Try.prog w = .ok (.pointer (some ⟨b, o + k, none⟩)) w := by
  rw [run_indexAt_slice (P := Try.prog) w 22 ⟨b, o, none⟩ n c .i64 (k : Int) (by kernel_rfl)]
  have e1 : Try.prog.elem 22 = 9 := by kernel_rfl
  simp [e1, Try.sizeOf9, h, Addr.add_mid]
theorem x_build (t : TypeId) (i j : Nat) (x y : Operand) {a : Act} {o : Oper} {w : World} (ho : o.op = .build t #[(i, x), (j, y)]) (u u' v : Value) (hx : a.eval x = u) (hy : a.eval y = u') (hv : (Instr.build t #[(i, u), (j, u')]).run Try.prog w = .ok v w) : (execOp a.eval o).run Try.prog w = .ok (.value v) w := by
  unfold execOp
  simp only [ho, List.map_toArray, List.map_cons, List.map_nil, hx, hy, Sem.run_bind, hv, Result.andThen_ok, Sem.run_pure]

set_option maxHeartbeats 8000000 in
set_option maxRecDepth 100000 in
theorem walk (l : List ByteArray) (p1 : Option Addr) (c1 : Nat) (t : Int) (w : World) (hE : StrAt w.heap.size w p1 l) (hS : ∀ s ∈ l, s.size ≤ maxLen) (hm : l.length ≤ maxLen) (wt : (Lit.int .i64 t).wf = true) :
    Calls Try.prog 6 #[.slice p1 l.length c1, .int .i64 t] w fun e w' => e = .returned (.bool true) ∧ Below w.heap.size w w' := by
  have hz := zero27
  have EE := Lib.hid hE
  unfold maxLen at hm
  clear hE hS wt
  go_enter Try.func6, Try.ntmps6
  go_wp2_with fail
  refine (works_any _).mono ?_
  rintro e v1 ⟨rfl, hb⟩
  have K1 := Lib.hid ((KW.start w).past hb)
  clear hb
  by_cases h20 : 20 < l.length
  · have t1 : decide ((20 : Int) < (l.length : Int)) = true := decide_eq_true (by omega)
    have t2 : (20 : Int) < (l.length : Int) := by omega
    clear hm h20
    generalize l.length = n2 at *
    go_wp2_with fail
    go_ret
    exact ⟨rfl, K1.out.bel⟩
  have t1 : decide ((20 : Int) < (l.length : Int)) = false := decide_eq_false (by omega)
  have t2 : ¬ (20 : Int) < (l.length : Int) := by omega
  have h20' : l.length ≤ 20 := by omega
  clear h20 hm
  by_cases h0 : t < 0
  · have t3 : decide (t < 0) = true := decide_eq_true h0
    go_wp2_with fail
    go_ret
    exact ⟨rfl, K1.out.bel⟩
  have t3 : decide (t < 0) = false := decide_eq_false h0
  by_cases h1 : 1099511627776 < t
  · have t4 : decide (1099511627776 < t) = true := decide_eq_true h1
    go_wp2_with fail
    go_ret
    exact ⟨rfl, K1.out.bel⟩
  have t4 : decide (1099511627776 < t) = false := decide_eq_false h1
  have ht := Lib.hid (And.intro (show 0 ≤ t by omega) (show t ≤ 1099511627776 by omega))
  clear h0 h1
  go_wp2_with fail
  refine (new_N _).mono ?_
  rintro e v2 ⟨rfl, hb⟩
  have K2 := Lib.hid (K1.out.past hb)
  have hn2 : Hid ((v2.alloc (.cells (flr fl0) 24)).heap[v2.heap.size]? = some (.cells (flr fl0) 24)) := Lib.hid (by rw [heap_alloc_if, if_pos rfl])
  have hBf := Lib.hid K2.out.size
  have st : Hid (FV w v2.heap.size (gs em none 0) [] ((v2.alloc (.cells (flr fl0) 24)).setRow v2.heap.size (flr (gs em none 0)))) := Lib.hid ⟨(K2.out.new (.cells (flr fl0) 24)).row 0 rfl K2.out.size (flr (gs em none 0)), .inl rfl, rfl⟩
  clear hb K1 K2
  go_wp2_with (refine wpList_store_row (by rfl) 24 (.tmp 6) (.tmp 33) rfl _ (flr (gs em none 0)) rfl rfl 24 _ hn2.out (row27 _) (flr_same _ _) (flr_one _) ?_)
  clear t1 t2 t3 t4 hn2
  revert st
  generalize (v2.alloc (.cells (flr fl0) 24)).setRow v2.heap.size (flr (gs em none 0)) = V
  generalize v2.heap.size = bf at *
  intro st
  go_loopw [8, 9] (fun al j wr => ∃ (k : Nat) (A : ByteArray) (a : Option Addr) (c : Nat), k ≤ l.length ∧ j = .int .i64 (k : Int) ∧ al = .string A ∧ Hid (FV w bf (gs A a c) [] wr) ∧ Hid (A.size ≤ 600)) (fun _ j _ => l.length - (intOf j).toNat)
  case atStart => exact ⟨0, em, none, 0, Nat.zero_le _, rfl, rfl, st, Lib.hid (by decide)⟩
  case round =>
    obtain ⟨k, A, a, c, hk, rfl, rfl, S, hA6⟩ := hrel
    rename_i wr
    by_cases hlt : k < l.length
    · have hlt' : (k : Int) < (l.length : Int) := by omega
      have hlt2 : decide (k < l.length) = true := by simpa using hlt
      rcases EE.out with h0 | ⟨b1, o1, rfl, l1, hc1⟩
      · rw [h0] at hlt; simp at hlt
      have hR := Lib.hid (fun (u : World) (hu : Below w.heap.size w u) => (hu.cell (p := ⟨b1, o1 + k, none⟩) l1).trans (hc1 k hlt))
      clear hc1
      generalize l[k] = x at *
      have q1 := hR.out wr S.out.kw.bel
      by_cases h7 : 700 < x.size
      · have s1 : decide ((700 : Int) < (x.size : Int)) = true := decide_eq_true (by omega)
        have s2 : (700 : Int) < (x.size : Int) := by omega
        go_wp2_with fail
        go_ret
        exact ⟨rfl, S.out.kw.bel⟩
      have s1 : decide ((700 : Int) < (x.size : Int)) = false := decide_eq_false (by omega)
      have s2 : ¬ (700 : Int) < (x.size : Int) := by omega
      have hx7 := Lib.hid (show x.size ≤ 700 by omega)
      go_upto_region 13 with fail
      clear s1 s2 q1 h7
      have hdo := Lib.hid (do_ox A x a c)
      have hcl := Lib.hid (fun (u : World) (hu : FV w bf (gs A a c) [] u) (hN : wr.heap.size ≤ u.heap.size) => do_calls wr.heap.size (gs A a c) (ox x) 0 [] u hN hu.at_ hu.n (by simp) (by simp) (by show A.size ≤ 4000; have := hA6.out; omega) (by show x.size ≤ 1099511627776; have := hx7.out; omega))
      have rl := Lib.hid (fun (u : World) (hu : u.cell? ⟨b1, o1 + k, none⟩ = some (.string x)) => loadCell 9 b1 (o1 + k) u _ Try.isAgg9 hu)
      refine wp_region_do (P := Try.prog) 6 [.agg (flr (gs A a c)), .slice (some ⟨b1, o1, none⟩) l.length c1, .int .i64 (k : Int), .pointer (some ⟨b1, o1 + k, none⟩), .string x, .agg (opr (ox x))] 12 _ _ #[.agg (flr (gs A a c)), .agg (opr (ox x)), .int .i64 0] 55 48 56 57 58 10 11 12 24 33 (flr fl0) (evr ev0) (DoΦ wr.heap.size (doR (gs A a c) [] (ox x) 0)) (by kernel_rfl) (by kernel_rfl) rfl rfl (DoΦ.keep _ _) ?head _ _ _ _ _ _ _ _ _ _ rfl rfl rfl rfl rfl rfl rfl rfl rfl rfl rfl rfl rfl rfl rfl rfl rfl rfl rfl rfl rfl rfl rfl rfl rfl rfl rfl rfl rfl rfl (by kernel_rfl) (by kernel_rfl) (by kernel_rfl) (by kernel_rfl) (by kernel_rfl) (by kernel_rfl) (by kernel_rfl) (by kernel_rfl) (by kernel_rfl) ent12 ?args (fun u hB => hcl.out u (S.out.past hB) hB.size) zero27 zero33 ?fin
      case head =>
        intro j oj vj ho hv ac u hk hb hB
        have hu := S.out.past hB
        match j, ho, hv with
        | 0, ho, hv =>
          obtain rfl := Option.some.inj ho
          obtain rfl := Option.some.inj hv
          exact x_load_row 24 (.tmp 6) rfl bf (eval_tmp ((hb 6 (by kernel_rfl)).trans rfl)) 24 (flr (gs A a c)) _ (hu.kw.at 0 rfl) Try.underlying24 rfl (row27 _)
        | 1, ho, hv =>
          obtain rfl := Option.some.inj ho
          obtain rfl := Option.some.inj hv
          exact x_move (.tmp 0) (.inl rfl) _ (eval_tmp ((hb 0 (by kernel_rfl)).trans rfl))
        | 2, ho, hv =>
          obtain rfl := Option.some.inj ho
          obtain rfl := Option.some.inj hv
          exact x_move (.tmp 9) (.inl rfl) _ (eval_tmp ((hb 9 (by kernel_rfl)).trans rfl))
        | 3, ho, hv =>
          obtain rfl := Option.some.inj ho
          obtain rfl := Option.some.inj hv
          exact x_index 22 (.tmp 50) (.tmp 51) rfl _ _ _ (eval_tmp (hk 1 _ 50 _ (by kernel_rfl) rfl rfl rfl)) (eval_tmp (hk 2 _ 51 _ (by kernel_rfl) rfl rfl rfl)) (index22 b1 o1 l.length c1 k hlt u)
        | 4, ho, hv =>
          obtain rfl := Option.some.inj ho
          obtain rfl := Option.some.inj hv
          exact x_load 9 (.tmp 52) rfl _ _ (eval_tmp (hk 3 _ 52 _ (by kernel_rfl) rfl rfl rfl)) (rl.out u (hR.out u hu.kw.bel))
        | 5, ho, hv =>
          obtain rfl := Option.some.inj ho
          obtain rfl := Option.some.inj hv
          exact x_build 27 0 2 (.const (.int .i64 1)) (.tmp 53) rfl _ _ _ rfl (eval_tmp (hk 4 _ 53 _ (by kernel_rfl) rfl rfl rfl)) (build_ox x u)
        | j + 6, ho, hv => simp at hv
      case args =>
        intro ac hk hb
        have e1 := eval_tmp (hk 0 _ 49 _ (by kernel_rfl) rfl rfl rfl)
        have e2 := eval_tmp (hk 5 _ 54 _ (by kernel_rfl) rfl rfl rfl)
        simp only [List.map_toArray, List.map_cons, List.map_nil, e1, e2]
        rfl
      case fin =>
        rintro x1 y1 z1 lo hi bA bB u hB ⟨a', c', rfl, rfl, rfl, hfr, hlo⟩ hhi hA hBb nA nB nab aA aB
        have S4 := Lib.hid (S.out.past hB)
        have hs3 := Lib.hid (S.out.kw.lt 0 rfl)
        have KK := Lib.hid (((S4.out.kw.know bA _ hA (by have := hs3.out; simp; omega)).know bB _ hBb (by have := hs3.out; simp; omega)))
        have r1 := hR.out u S4.out.kw.bel
        simp only [putAll, List.cons_append, List.nil_append, List.getD_cons_zero, List.getD_cons_succ, Nat.zero_add, Nat.reduceAdd]
        simp only [Act.put, List.setIfInBounds_toArray, List.set_cons_zero, List.set_cons_succ]
        clear hfr hA hBb hB hcl nA nB nab aA aB hlo hhi S rl
        have a6 := hA6.out
        have x7 := hx7.out
        have wr : IntKind.i64.wrap ((A.size : Int) + (x.size : Int)) = ((A.size + x.size : Nat) : Int) := by rw [Int.natCast_add]; exact IntWalk.i64_in _ (by omega)
        clear a6 x7
        have hadd : Hid (∀ u : World, (do pure (Next.value (← binOp .add 3 (.int .i64 (A.size : Int)) (.int .i64 (x.size : Int)))) : Sem Next).run Try.prog u = .ok (.value (.int .i64 ((A.size + x.size : Nat) : Int))) u) := Lib.hid (fun u => by simp [binOp, go_sem, wr])
        rcases hdo.out with ⟨x0, e⟩ | ⟨x0, xs, e⟩ | ⟨x0, xs, e⟩
        · rw [e] at KK ⊢
          dsimp only at KK ⊢
          have tE : Hid ((!(x.toList == (⟨#[]⟩ : ByteArray).toList)) = false) := Lib.hid (by rw [show (⟨#[]⟩ : ByteArray).toList = [] by rw [ByteArray.toList_eq], nil_beq]; simpa using x0)
          clear e x0 hdo wr 
          go_upto_region 14 with fail
          refine wp_region_class (KL w bf bA bB _ _ _) (by kernel_rfl) (by kernel_rfl) KK.out.drew ?_
          refine WE.out ?_
          refine we_move (by rfl) _ (.inl rfl) (.int .i64 1) rfl ?_
          simp only [Act.put, List.setIfInBounds_toArray, List.set_cons_zero, List.set_cons_succ]
          refine we_ieq (by rfl) _ _ _ _ rfl .i64 1 0 rfl rfl false rfl ?_
          simp only [Act.put, List.setIfInBounds_toArray, List.set_cons_zero, List.set_cons_succ]
          refine we_move (by rfl) _ (.inl rfl) (.slice (some ⟨b1, o1, none⟩) l.length c1) rfl ?_
          simp only [Act.put, List.setIfInBounds_toArray, List.set_cons_zero, List.set_cons_succ]
          refine we_move (by rfl) _ (.inl rfl) (.int .i64 (k : Int)) rfl ?_
          simp only [Act.put, List.setIfInBounds_toArray, List.set_cons_zero, List.set_cons_succ]
          refine we_index (by rfl) 22 _ _ rfl _ _ rfl rfl _ (fun u => index22 b1 o1 l.length c1 k hlt u) ?_
          simp only [Act.put, List.setIfInBounds_toArray, List.set_cons_zero, List.set_cons_succ]
          refine we_cell (by rfl) 9 _ rfl b1 (o1 + k) rfl Try.isAgg9 (.string x) (fun u hu => hR.out u hu.bel) ?_
          simp only [Act.put, List.setIfInBounds_toArray, List.set_cons_zero, List.set_cons_succ]
          refine we_sne (by rfl) _ _ _ _ rfl x ⟨#[]⟩ rfl rfl false tE.out ?_
          simp only [Act.put, List.setIfInBounds_toArray, List.set_cons_zero, List.set_cons_succ]
          refine we_move (by rfl) _ (.inl rfl) (.bool false) rfl ?_
          simp only [Act.put, List.setIfInBounds_toArray, List.set_cons_zero, List.set_cons_succ]
          refine we_skip (by rfl) ?_
          simp only [Act.put, List.setIfInBounds_toArray, List.set_cons_zero, List.set_cons_succ]
          refine we_skip (by rfl) ?_
          simp only [Act.put, List.setIfInBounds_toArray, List.set_cons_zero, List.set_cons_succ]
          refine we_skip (by rfl) ?_
          simp only [Act.put, List.setIfInBounds_toArray, List.set_cons_zero, List.set_cons_succ]
          refine we_skip (by rfl) ?_
          simp only [Act.put, List.setIfInBounds_toArray, List.set_cons_zero, List.set_cons_succ]
          refine we_skip (by rfl) ?_
          simp only [Act.put, List.setIfInBounds_toArray, List.set_cons_zero, List.set_cons_succ]
          refine we_skip (by rfl) ?_
          simp only [Act.put, List.setIfInBounds_toArray, List.set_cons_zero, List.set_cons_succ]
          refine we_skip (by rfl) ?_
          simp only [Act.put, List.setIfInBounds_toArray, List.set_cons_zero, List.set_cons_succ]
          refine we_skip (by rfl) ?_
          simp only [Act.put, List.setIfInBounds_toArray, List.set_cons_zero, List.set_cons_succ]
          refine we_skip (by rfl) ?_
          simp only [Act.put, List.setIfInBounds_toArray, List.set_cons_zero, List.set_cons_succ]
          refine we_pick (by rfl) _ _ _ rfl false rfl (.bool false) rfl ?_
          simp only [Act.put, List.setIfInBounds_toArray, List.set_cons_zero, List.set_cons_succ]
          refine we_bne (by rfl) _ _ _ _ rfl false false rfl rfl Try.underlying4 false rfl ?_
          simp only [Act.put, List.setIfInBounds_toArray, List.set_cons_zero, List.set_cons_succ]
          refine we_move (by rfl) _ (.inl rfl) (.bool false) rfl ?_
          simp only [Act.put, List.setIfInBounds_toArray, List.set_cons_zero, List.set_cons_succ]
          refine we_move (by rfl) _ (.inl rfl) (.int .i64 1) rfl ?_
          simp only [Act.put, List.setIfInBounds_toArray, List.set_cons_zero, List.set_cons_succ]
          refine we_ieq (by rfl) _ _ _ _ rfl .i64 1 0 rfl rfl false rfl ?_
          simp only [Act.put, List.setIfInBounds_toArray, List.set_cons_zero, List.set_cons_succ]
          refine we_move (by rfl) _ (.inl rfl) (.bool false) rfl ?_
          simp only [Act.put, List.setIfInBounds_toArray, List.set_cons_zero, List.set_cons_succ]
          refine we_skip (by rfl) ?_
          simp only [Act.put, List.setIfInBounds_toArray, List.set_cons_zero, List.set_cons_succ]
          refine we_skip (by rfl) ?_
          simp only [Act.put, List.setIfInBounds_toArray, List.set_cons_zero, List.set_cons_succ]
          refine we_skip (by rfl) ?_
          simp only [Act.put, List.setIfInBounds_toArray, List.set_cons_zero, List.set_cons_succ]
          refine we_skip (by rfl) ?_
          simp only [Act.put, List.setIfInBounds_toArray, List.set_cons_zero, List.set_cons_succ]
          refine we_skip (by rfl) ?_
          simp only [Act.put, List.setIfInBounds_toArray, List.set_cons_zero, List.set_cons_succ]
          refine we_skip (by rfl) ?_
          simp only [Act.put, List.setIfInBounds_toArray, List.set_cons_zero, List.set_cons_succ]
          refine we_skip (by rfl) ?_
          simp only [Act.put, List.setIfInBounds_toArray, List.set_cons_zero, List.set_cons_succ]
          refine we_skip (by rfl) ?_
          simp only [Act.put, List.setIfInBounds_toArray, List.set_cons_zero, List.set_cons_succ]
          refine we_pick (by rfl) _ _ _ rfl false rfl (.bool false) rfl ?_
          simp only [Act.put, List.setIfInBounds_toArray, List.set_cons_zero, List.set_cons_succ]
          refine we_pick (by rfl) _ _ _ rfl false rfl (.bool false) rfl ?_
          simp only [Act.put, List.setIfInBounds_toArray, List.set_cons_zero, List.set_cons_succ]
          refine we_nil ?_
          intro u2 hu2
          have K6 := Lib.hid hu2
          clear hu2 KK
          have S5 : Hid (FV w bf (gs A a c) [] u2) := Lib.hid ⟨K6.out.drop.drop, .inl rfl, rfl⟩
          clear S4
          go_wp2_with fail
          go_roundw
          case rel => exact ⟨k + 1, A, a, c, by omega, by go_num, rfl, S5, hA6⟩
          case measure => simp [intOf]; omega
        · rw [e] at KK ⊢
          dsimp only at KK ⊢
          have tE : Hid ((!(x.toList == (⟨#[]⟩ : ByteArray).toList)) = true) := Lib.hid (by rw [show (⟨#[]⟩ : ByteArray).toList = [] by rw [ByteArray.toList_eq], nil_beq]; simpa using x0)
          have t1 : decide (((A.size + x.size : Nat) : Int) ≤ 600) = false := decide_eq_false (by omega)
          clear e x0 hdo wr xs
          go_upto_region 14 with fail
          refine wp_region_class (KL w bf bA bB _ _ _) (by kernel_rfl) (by kernel_rfl) KK.out.drew ?_
          refine WE.out ?_
          refine we_move (by rfl) _ (.inl rfl) (.int .i64 10) rfl ?_
          simp only [Act.put, List.setIfInBounds_toArray, List.set_cons_zero, List.set_cons_succ]
          refine we_ieq (by rfl) _ _ _ _ rfl .i64 10 0 rfl rfl false rfl ?_
          simp only [Act.put, List.setIfInBounds_toArray, List.set_cons_zero, List.set_cons_succ]
          refine we_move (by rfl) _ (.inl rfl) (.slice (some ⟨b1, o1, none⟩) l.length c1) rfl ?_
          simp only [Act.put, List.setIfInBounds_toArray, List.set_cons_zero, List.set_cons_succ]
          refine we_move (by rfl) _ (.inl rfl) (.int .i64 (k : Int)) rfl ?_
          simp only [Act.put, List.setIfInBounds_toArray, List.set_cons_zero, List.set_cons_succ]
          refine we_index (by rfl) 22 _ _ rfl _ _ rfl rfl _ (fun u => index22 b1 o1 l.length c1 k hlt u) ?_
          simp only [Act.put, List.setIfInBounds_toArray, List.set_cons_zero, List.set_cons_succ]
          refine we_cell (by rfl) 9 _ rfl b1 (o1 + k) rfl Try.isAgg9 (.string x) (fun u hu => hR.out u hu.bel) ?_
          simp only [Act.put, List.setIfInBounds_toArray, List.set_cons_zero, List.set_cons_succ]
          refine we_sne (by rfl) _ _ _ _ rfl x ⟨#[]⟩ rfl rfl true tE.out ?_
          simp only [Act.put, List.setIfInBounds_toArray, List.set_cons_zero, List.set_cons_succ]
          refine we_move (by rfl) _ (.inl rfl) (.bool true) rfl ?_
          simp only [Act.put, List.setIfInBounds_toArray, List.set_cons_zero, List.set_cons_succ]
          refine we_move (by rfl) _ (.inl rfl) (.string A) rfl ?_
          simp only [Act.put, List.setIfInBounds_toArray, List.set_cons_zero, List.set_cons_succ]
          refine we_len (by rfl) 9 _ rfl A rfl Try.underlying9 ?_
          simp only [Act.put, List.setIfInBounds_toArray, List.set_cons_zero, List.set_cons_succ]
          refine we_move (by rfl) _ (.inl rfl) (.slice (some ⟨b1, o1, none⟩) l.length c1) rfl ?_
          simp only [Act.put, List.setIfInBounds_toArray, List.set_cons_zero, List.set_cons_succ]
          refine we_move (by rfl) _ (.inl rfl) (.int .i64 (k : Int)) rfl ?_
          simp only [Act.put, List.setIfInBounds_toArray, List.set_cons_zero, List.set_cons_succ]
          refine we_index (by rfl) 22 _ _ rfl _ _ rfl rfl _ (fun u => index22 b1 o1 l.length c1 k hlt u) ?_
          simp only [Act.put, List.setIfInBounds_toArray, List.set_cons_zero, List.set_cons_succ]
          refine we_cell (by rfl) 9 _ rfl b1 (o1 + k) rfl Try.isAgg9 (.string x) (fun u hu => hR.out u hu.bel) ?_
          simp only [Act.put, List.setIfInBounds_toArray, List.set_cons_zero, List.set_cons_succ]
          refine we_len (by rfl) 9 _ rfl x rfl Try.underlying9 ?_
          simp only [Act.put, List.setIfInBounds_toArray, List.set_cons_zero, List.set_cons_succ]
          refine we_val (by rfl) (.int .i64 ((A.size + x.size : Nat) : Int)) (fun u _ => hadd.out u) ?_
          simp only [Act.put, List.setIfInBounds_toArray, List.set_cons_zero, List.set_cons_succ]
          refine we_icmp (by rfl) .leq _ _ _ _ rfl .i64 ((A.size + x.size : Nat) : Int) 600 rfl rfl false t1 ?_
          simp only [Act.put, List.setIfInBounds_toArray, List.set_cons_zero, List.set_cons_succ]
          refine we_pick (by rfl) _ _ _ rfl true rfl (.bool false) rfl ?_
          simp only [Act.put, List.setIfInBounds_toArray, List.set_cons_zero, List.set_cons_succ]
          refine we_bne (by rfl) _ _ _ _ rfl false false rfl rfl Try.underlying4 false rfl ?_
          simp only [Act.put, List.setIfInBounds_toArray, List.set_cons_zero, List.set_cons_succ]
          refine we_move (by rfl) _ (.inl rfl) (.bool false) rfl ?_
          simp only [Act.put, List.setIfInBounds_toArray, List.set_cons_zero, List.set_cons_succ]
          refine we_move (by rfl) _ (.inl rfl) (.int .i64 10) rfl ?_
          simp only [Act.put, List.setIfInBounds_toArray, List.set_cons_zero, List.set_cons_succ]
          refine we_ieq (by rfl) _ _ _ _ rfl .i64 10 0 rfl rfl false rfl ?_
          simp only [Act.put, List.setIfInBounds_toArray, List.set_cons_zero, List.set_cons_succ]
          refine we_move (by rfl) _ (.inl rfl) (.bool false) rfl ?_
          simp only [Act.put, List.setIfInBounds_toArray, List.set_cons_zero, List.set_cons_succ]
          refine we_skip (by rfl) ?_
          simp only [Act.put, List.setIfInBounds_toArray, List.set_cons_zero, List.set_cons_succ]
          refine we_skip (by rfl) ?_
          simp only [Act.put, List.setIfInBounds_toArray, List.set_cons_zero, List.set_cons_succ]
          refine we_skip (by rfl) ?_
          simp only [Act.put, List.setIfInBounds_toArray, List.set_cons_zero, List.set_cons_succ]
          refine we_skip (by rfl) ?_
          simp only [Act.put, List.setIfInBounds_toArray, List.set_cons_zero, List.set_cons_succ]
          refine we_skip (by rfl) ?_
          simp only [Act.put, List.setIfInBounds_toArray, List.set_cons_zero, List.set_cons_succ]
          refine we_skip (by rfl) ?_
          simp only [Act.put, List.setIfInBounds_toArray, List.set_cons_zero, List.set_cons_succ]
          refine we_skip (by rfl) ?_
          simp only [Act.put, List.setIfInBounds_toArray, List.set_cons_zero, List.set_cons_succ]
          refine we_skip (by rfl) ?_
          simp only [Act.put, List.setIfInBounds_toArray, List.set_cons_zero, List.set_cons_succ]
          refine we_pick (by rfl) _ _ _ rfl false rfl (.bool false) rfl ?_
          simp only [Act.put, List.setIfInBounds_toArray, List.set_cons_zero, List.set_cons_succ]
          refine we_pick (by rfl) _ _ _ rfl false rfl (.bool false) rfl ?_
          simp only [Act.put, List.setIfInBounds_toArray, List.set_cons_zero, List.set_cons_succ]
          refine we_nil ?_
          intro u2 hu2
          have K6 := Lib.hid hu2
          clear hu2 KK
          have S5 : Hid (FV w bf (gs A a c) [] u2) := Lib.hid ⟨K6.out.drop.drop, .inl rfl, rfl⟩
          clear S4
          go_wp2_with fail
          go_roundw
          case rel => exact ⟨k + 1, A, a, c, by omega, by go_num, rfl, S5, hA6⟩
          case measure => simp [intOf]; omega
        · rw [e] at KK ⊢
          dsimp only at KK ⊢
          have tE : Hid ((!(x.toList == (⟨#[]⟩ : ByteArray).toList)) = true) := Lib.hid (by rw [show (⟨#[]⟩ : ByteArray).toList = [] by rw [ByteArray.toList_eq], nil_beq]; simpa using x0)
          have t1 : decide (((A.size + x.size : Nat) : Int) ≤ 600) = true := decide_eq_true (by omega)
          have hA7 : Hid ((A ++ x).size ≤ 600) := Lib.hid (by rw [ByteArray.size_append]; omega)
          have hns : ¬ 9223372036854775807 < A.size + x.size := by omega
          clear e x0 hdo wr xs
          go_upto_region 14 with fail
          refine wp_region_class (KL w bf bA bB _ _ _) (by kernel_rfl) (by kernel_rfl) KK.out.drew ?_
          refine WE.out ?_
          refine we_move (by rfl) _ (.inl rfl) (.int .i64 0) rfl ?_
          simp only [Act.put, List.setIfInBounds_toArray, List.set_cons_zero, List.set_cons_succ]
          refine we_ieq (by rfl) _ _ _ _ rfl .i64 0 0 rfl rfl true rfl ?_
          simp only [Act.put, List.setIfInBounds_toArray, List.set_cons_zero, List.set_cons_succ]
          refine we_move (by rfl) _ (.inl rfl) (.slice (some ⟨b1, o1, none⟩) l.length c1) rfl ?_
          simp only [Act.put, List.setIfInBounds_toArray, List.set_cons_zero, List.set_cons_succ]
          refine we_move (by rfl) _ (.inl rfl) (.int .i64 (k : Int)) rfl ?_
          simp only [Act.put, List.setIfInBounds_toArray, List.set_cons_zero, List.set_cons_succ]
          refine we_index (by rfl) 22 _ _ rfl _ _ rfl rfl _ (fun u => index22 b1 o1 l.length c1 k hlt u) ?_
          simp only [Act.put, List.setIfInBounds_toArray, List.set_cons_zero, List.set_cons_succ]
          refine we_cell (by rfl) 9 _ rfl b1 (o1 + k) rfl Try.isAgg9 (.string x) (fun u hu => hR.out u hu.bel) ?_
          simp only [Act.put, List.setIfInBounds_toArray, List.set_cons_zero, List.set_cons_succ]
          refine we_sne (by rfl) _ _ _ _ rfl x ⟨#[]⟩ rfl rfl true tE.out ?_
          simp only [Act.put, List.setIfInBounds_toArray, List.set_cons_zero, List.set_cons_succ]
          refine we_move (by rfl) _ (.inl rfl) (.bool true) rfl ?_
          simp only [Act.put, List.setIfInBounds_toArray, List.set_cons_zero, List.set_cons_succ]
          refine we_move (by rfl) _ (.inl rfl) (.string A) rfl ?_
          simp only [Act.put, List.setIfInBounds_toArray, List.set_cons_zero, List.set_cons_succ]
          refine we_len (by rfl) 9 _ rfl A rfl Try.underlying9 ?_
          simp only [Act.put, List.setIfInBounds_toArray, List.set_cons_zero, List.set_cons_succ]
          refine we_move (by rfl) _ (.inl rfl) (.slice (some ⟨b1, o1, none⟩) l.length c1) rfl ?_
          simp only [Act.put, List.setIfInBounds_toArray, List.set_cons_zero, List.set_cons_succ]
          refine we_move (by rfl) _ (.inl rfl) (.int .i64 (k : Int)) rfl ?_
          simp only [Act.put, List.setIfInBounds_toArray, List.set_cons_zero, List.set_cons_succ]
          refine we_index (by rfl) 22 _ _ rfl _ _ rfl rfl _ (fun u => index22 b1 o1 l.length c1 k hlt u) ?_
          simp only [Act.put, List.setIfInBounds_toArray, List.set_cons_zero, List.set_cons_succ]
          refine we_cell (by rfl) 9 _ rfl b1 (o1 + k) rfl Try.isAgg9 (.string x) (fun u hu => hR.out u hu.bel) ?_
          simp only [Act.put, List.setIfInBounds_toArray, List.set_cons_zero, List.set_cons_succ]
          refine we_len (by rfl) 9 _ rfl x rfl Try.underlying9 ?_
          simp only [Act.put, List.setIfInBounds_toArray, List.set_cons_zero, List.set_cons_succ]
          refine we_val (by rfl) (.int .i64 ((A.size + x.size : Nat) : Int)) (fun u _ => hadd.out u) ?_
          simp only [Act.put, List.setIfInBounds_toArray, List.set_cons_zero, List.set_cons_succ]
          refine we_icmp (by rfl) .leq _ _ _ _ rfl .i64 ((A.size + x.size : Nat) : Int) 600 rfl rfl true t1 ?_
          simp only [Act.put, List.setIfInBounds_toArray, List.set_cons_zero, List.set_cons_succ]
          refine we_pick (by rfl) _ _ _ rfl true rfl (.bool true) rfl ?_
          simp only [Act.put, List.setIfInBounds_toArray, List.set_cons_zero, List.set_cons_succ]
          refine we_bne (by rfl) _ _ _ _ rfl true true rfl rfl Try.underlying4 false rfl ?_
          simp only [Act.put, List.setIfInBounds_toArray, List.set_cons_zero, List.set_cons_succ]
          refine we_move (by rfl) _ (.inl rfl) (.bool false) rfl ?_
          simp only [Act.put, List.setIfInBounds_toArray, List.set_cons_zero, List.set_cons_succ]
          refine we_move (by rfl) _ (.inl rfl) (.int .i64 0) rfl ?_
          simp only [Act.put, List.setIfInBounds_toArray, List.set_cons_zero, List.set_cons_succ]
          refine we_ieq (by rfl) _ _ _ _ rfl .i64 0 0 rfl rfl true rfl ?_
          simp only [Act.put, List.setIfInBounds_toArray, List.set_cons_zero, List.set_cons_succ]
          refine we_move (by rfl) _ (.inl rfl) (.bool true) rfl ?_
          simp only [Act.put, List.setIfInBounds_toArray, List.set_cons_zero, List.set_cons_succ]
          refine we_val (by rfl) (.pointer (some ⟨bB, 4, none⟩)) (fun u _ => run_val (field33 bB u)) ?_
          simp only [Act.put, List.setIfInBounds_toArray, List.set_cons_zero, List.set_cons_succ]
          refine we_cell (by rfl) 3 _ rfl bB 4 rfl Try.isAgg3 (.int .i64 (x.size : Int)) (fun u hu => hu.cell 0 rfl 4 (evr4 (ea x))) ?_
          simp only [Act.put, List.setIfInBounds_toArray, List.set_cons_zero, List.set_cons_succ]
          refine we_move (by rfl) _ (.inl rfl) (.slice (some ⟨b1, o1, none⟩) l.length c1) rfl ?_
          simp only [Act.put, List.setIfInBounds_toArray, List.set_cons_zero, List.set_cons_succ]
          refine we_move (by rfl) _ (.inl rfl) (.int .i64 (k : Int)) rfl ?_
          simp only [Act.put, List.setIfInBounds_toArray, List.set_cons_zero, List.set_cons_succ]
          refine we_index (by rfl) 22 _ _ rfl _ _ rfl rfl _ (fun u => index22 b1 o1 l.length c1 k hlt u) ?_
          simp only [Act.put, List.setIfInBounds_toArray, List.set_cons_zero, List.set_cons_succ]
          refine we_cell (by rfl) 9 _ rfl b1 (o1 + k) rfl Try.isAgg9 (.string x) (fun u hu => hR.out u hu.bel) ?_
          simp only [Act.put, List.setIfInBounds_toArray, List.set_cons_zero, List.set_cons_succ]
          refine we_len (by rfl) 9 _ rfl x rfl Try.underlying9 ?_
          simp only [Act.put, List.setIfInBounds_toArray, List.set_cons_zero, List.set_cons_succ]
          refine we_icmp (by rfl) .neq _ _ _ _ rfl .i64 (x.size : Int) (x.size : Int) rfl rfl false (by simp) ?_
          simp only [Act.put, List.setIfInBounds_toArray, List.set_cons_zero, List.set_cons_succ]
          refine we_pick (by rfl) _ _ _ rfl true rfl (.bool false) rfl ?_
          simp only [Act.put, List.setIfInBounds_toArray, List.set_cons_zero, List.set_cons_succ]
          refine we_pick (by rfl) _ _ _ rfl false rfl (.bool false) rfl ?_
          simp only [Act.put, List.setIfInBounds_toArray, List.set_cons_zero, List.set_cons_succ]
          refine we_nil ?_
          intro u2 hu2
          have K6 := Lib.hid hu2
          clear hu2 KK
          have r2 := hR.out u2 K6.out.bel
          have S5 : Hid (FV w bf (gs (A ++ x) a' c') [] (u2.setRow bf (flr (gs (A ++ x) a' c')))) := Lib.hid ⟨(K6.out.drop.drop).row 0 rfl hBf.out _, .inl rfl, rfl⟩
          clear S4 r1
          go_wp2_with (first
            | (refine wpList_load_row (by rfl) 24 (.tmp 10) rfl _ rfl 24 (flr (gs (A ++ x) a' c')) _ (K6.out.at 1 rfl) Try.underlying24 rfl (row27 _) ?_)
            | (refine wpList_store_row (by rfl) 24 (.tmp 6) (.tmp 100) rfl _ (flr (gs (A ++ x) a' c')) rfl rfl 24 _ (K6.out.at 2 rfl) (row27 _) (flr_same _ _) (flr_one _) ?_))
          go_roundw
          case rel => exact ⟨k + 1, A ++ x, a', c', by omega, by go_num, rfl, S5, hA7⟩
          case measure => simp [intOf]; omega
    · obtain rfl : k = l.length := by omega
      have hlt' : ¬ (l.length : Int) < (l.length : Int) := by omega
      have hlt2 : decide (l.length < l.length) = false := by simp
      have hdo := do_os A t a c ht.out.1 ht.out.2
      have cd := Lib.hid (fun (v : World) (hv : FV w bf (gs A a c) [] v) => do_any (gs A a c) (os t) 0 [] v hv.at_ hv.n (by simp) (by simp) (by show A.size ≤ 4000; have := hA6.out; omega) (show em.size ≤ 1099511627776 by decide))
      rw [hdo] at cd
      have hD := Lib.hid (sha_len A.data.toList)
      have cof := Lib.hid (fun v => sh.of_any A (by have := hA6.out; omega) v)
      have hEs : Hid (es t A = ⟨2, 5, [], t, (A.size : Int), sh.sha A.data.toList⟩) := Lib.hid rfl
      generalize sh.sha A.data.toList = D at *
      have hEl : Hid ((es t A).sum.length = 32) := Lib.hid (by rw [hEs.out]; exact hD.out)
      have bes := Lib.hid (fun v => build_es t (A.size : Int) D hD.out v)
      rw [← hEs.out] at bes
      have eqE : Hid (∀ v, (Op.equalIn 10000 33 (.agg (evr (es t A))) (.agg (evr (es t A)))).run Try.prog v = .ok true v) := Lib.hid (fun v => by rw [eql_ev _ _ hEl.out hEl.out v, (evB_iff _ _).2 rfl])
      clear hdo hEs
      generalize es t A = E at *
      have bo := build_os t
      have hz := zero27
      have hz3 := zero33
      go_wp2_with (refine wpList_load_row (by rfl) 24 (.tmp 6) rfl _ rfl 24 _ _ (S.out.kw.at 0 rfl) Try.underlying24 rfl (row27 _) ?_)
      refine (cd.out _ S.out).mono ?_
      rintro e v3 ⟨a2, c2, rfl, _, hb⟩
      have K4 := Lib.hid (S.out.kw.past hb)
      have hB2 := Lib.hid K4.out.size
      have K5 := Lib.hid ((K4.out.new (.cells (flr fl0) 24)).new (.cells (evr ev0) 33))
      rw [World.size_alloc] at K5
      have K6 := Lib.hid (K5.out.row 1 rfl hB2.out (flr ⟨5, N1, A, true, t, a2, 0, c2⟩))
      have K7 := Lib.hid (K6.out.row 0 rfl (Nat.le_succ_of_le hB2.out) (evr E))
      clear hb bo cd
      go_upto_region 20 with (first
        | (refine wpList_store_row (by rfl) 24 (.tmp 13) (.tmp 106) rfl _ (flr ⟨5, N1, A, true, t, a2, 0, c2⟩) rfl rfl 24 _ (K5.out.at 1 rfl) (row27 _) (flr_same _ _) (flr_one _) ?_)
        | (refine wpList_store_row (by rfl) 33 (.tmp 14) (.tmp 107) rfl _ (evr E) rfl rfl 33 _ (K6.out.at 0 rfl) (row33 _ hEl.out) (evr_same _ _ z32_len hEl.out) (evr_one _) ?_))
      revert K7
      clear K4 K5 K6 hB2
      generalize v3.heap.size = b3
      intro K7
      refine wp_region_class (KL w bf b3 (b3 + 1) (gs A a c) ⟨5, N1, A, true, t, a2, 0, c2⟩ E) (by kernel_rfl) (by kernel_rfl) K7.out.drew ?_
      refine wpQuiet_move (by rfl) _ (.inl rfl) (.bool true) rfl ?_
      simp only [Act.put, List.setIfInBounds_toArray, List.set_cons_zero, List.set_cons_succ]
      refine wpQuiet_move (by rfl) _ (.inl rfl) (.bool true) rfl ?_
      simp only [Act.put, List.setIfInBounds_toArray, List.set_cons_zero, List.set_cons_succ]
      refine wpQuiet_move (by rfl) _ (.inl rfl) (.int .i64 0) rfl ?_
      simp only [Act.put, List.setIfInBounds_toArray, List.set_cons_zero, List.set_cons_succ]
      refine wpQuiet_ieq (by rfl) _ _ _ _ rfl .i64 0 0 rfl rfl true rfl ?_
      simp only [Act.put, List.setIfInBounds_toArray, List.set_cons_zero, List.set_cons_succ]
      refine wpQuiet_pick (by rfl) _ _ _ rfl true rfl (.bool true) rfl ?_
      simp only [Act.put, List.setIfInBounds_toArray, List.set_cons_zero, List.set_cons_succ]
      refine wpQuiet_move (by rfl) _ (.inl rfl) (.bool true) rfl ?_
      simp only [Act.put, List.setIfInBounds_toArray, List.set_cons_zero, List.set_cons_succ]
      refine wpQuiet_field (by rfl) 2 _ rfl b3 rfl (by decide) ?_
      simp only [Act.put, List.setIfInBounds_toArray, List.set_cons_zero, List.set_cons_succ]
      refine wpQuiet_cell (by rfl) 9 _ rfl b3 2 rfl Try.isAgg9 (.string A) (fun u hu => hu.cell 1 rfl 2 rfl) ?_
      simp only [Act.put, List.setIfInBounds_toArray, List.set_cons_zero, List.set_cons_succ]
      refine wpQuiet_move (by rfl) _ (.inl rfl) (.string A) rfl ?_
      simp only [Act.put, List.setIfInBounds_toArray, List.set_cons_zero, List.set_cons_succ]
      refine wpQuiet_seq (by rfl) _ _ _ _ rfl A A rfl rfl true (by simp) ?_
      simp only [Act.put, List.setIfInBounds_toArray, List.set_cons_zero, List.set_cons_succ]
      refine wpQuiet_pick (by rfl) _ _ _ rfl true rfl (.bool true) rfl ?_
      simp only [Act.put, List.setIfInBounds_toArray, List.set_cons_zero, List.set_cons_succ]
      refine wpQuiet_move (by rfl) _ (.inl rfl) (.bool true) rfl ?_
      simp only [Act.put, List.setIfInBounds_toArray, List.set_cons_zero, List.set_cons_succ]
      refine wpQuiet_load (by rfl) 33 (.tmp 14) rfl _ rfl 33 (evr E) _ (fun u hu => hu.at 0 rfl) Try.underlying33 rfl (row33 _ hEl.out) ?_
      simp only [Act.put, List.setIfInBounds_toArray, List.set_cons_zero, List.set_cons_succ]
      refine wpQuiet_move (by rfl) _ (.inl rfl) (.int .i64 t) rfl ?_
      simp only [Act.put, List.setIfInBounds_toArray, List.set_cons_zero, List.set_cons_succ]
      refine wpQuiet_move (by rfl) _ (.inl rfl) (.string A) rfl ?_
      simp only [Act.put, List.setIfInBounds_toArray, List.set_cons_zero, List.set_cons_succ]
      refine wpQuiet_len (by rfl) 9 _ rfl A rfl Try.underlying9 ?_
      simp only [Act.put, List.setIfInBounds_toArray, List.set_cons_zero, List.set_cons_succ]
      refine wpQuiet_move (by rfl) _ (.inl rfl) (.string A) rfl ?_
      simp only [Act.put, List.setIfInBounds_toArray, List.set_cons_zero, List.set_cons_succ]
      refine wpQuiet_call1 (by rfl) 28 (.tmp 125) _ rfl ent28 (.string A) rfl (.agg (row D)) (fun u hu => (cof.out u).mono (fun e u' he => ⟨he.1, hu.past he.2⟩)) ?_
      simp only [Act.put, List.setIfInBounds_toArray, List.set_cons_zero, List.set_cons_succ]
      refine wpQuiet_val (by rfl) (.agg (evr E)) (fun u _ => by unfold execOp; simp only [List.map_toArray, List.map_cons, List.map_nil]; exact run_val (bes.out u)) ?_
      simp only [Act.put, List.setIfInBounds_toArray, List.set_cons_zero, List.set_cons_succ]
      refine wpQuiet_deq (by rfl) _ _ _ _ rfl (evr E) (evr E) rfl rfl (by kernel_rfl) true eqE.out ?_
      simp only [Act.put, List.setIfInBounds_toArray, List.set_cons_zero, List.set_cons_succ]
      refine wpQuiet_pick (by rfl) _ _ _ rfl true rfl (.bool true) rfl ?_
      simp only [Act.put, List.setIfInBounds_toArray, List.set_cons_zero, List.set_cons_succ]
      refine wpQuiet_move (by rfl) _ (.inr rfl) (.bool true) rfl ?_
      simp only [Act.put, List.setIfInBounds_toArray, List.set_cons_zero, List.set_cons_succ]
      refine wpQuiet_nil ?_
      intro x hx
      go_wp2_with fail
      go_ret
      exact ⟨rfl, hx.bel⟩


set_option maxRecDepth 100000 in
theorem lifted (os : Os) (started : os.Started) (H : Type) (enc : TypeId × Value → H) :
    ReturnsInHanded {} Try.checked os 6 .any (Rows.fileSumsSpec.pre6 enc Try.prog Try.f6 Rows.fileSumsRow.domain false) (Rows.fileSumsSpec.post enc Try.prog Try.f6 false true false false) := by
  refine returnsInHanded_of_change (C := Try.checked) own started (by kernel_rfl) Try.func6
    (ChangeSpec.witness6 (enc := enc) (C := Try.checked) false ⟨#[], #[.slice none 0 0, .int .i64 0], []⟩ 8 (by kernel_rfl) (by kernel_rfl) (by kernel_rfl) (by kernel_rfl)) ?_
  intro W base args ds gs before hval0 hW hcnd _
  have hval : ∀ (j : Nat) t v, Try.f6.params[j]? = some t → args[j]? = some v → Value.okWide Try.prog W .any base t v := hval0
  have hW' := hW
  obtain ⟨p, q, hA0, hV, rfl, hfz, hnd⟩ := hW
  have hA : DataW.TrodAll enc Try.prog W 0 (fun _ => true) true Try.f6.params.toList args.toList ds p := hA0
  rw [Try.params6] at hA hval
  obtain ⟨v0, vs0, d0, ds0, p0, q0, hargs, rfl, rfl, h0, r0⟩ := trodAll_cons hA
  obtain ⟨v1, vs1, d1, ds1, p1, q1, rfl, rfl, rfl, h1, r1⟩ := trodAll_cons r0
  obtain ⟨rfl, rfl, rfl⟩ := trodAll_nil r1
  obtain rfl : args = #[v0, v1] := by cases args; simp_all
  obtain ⟨rfl, rfl⟩ := trodVars_none hV
  have k0 := h0
  have lt0 : ∀ x ∈ p0, x.block < W.heap.size := by obtain ⟨m, hm⟩ := k0; exact DataW.trod_lt m _ _ _ hm
  obtain ⟨a0, len0, cap0, rfl⟩ := okWide_slice Try.underlying22 (hval 0 22 v0 rfl rfl)
  obtain ⟨fuel0, hf0⟩ := h0
  obtain ⟨a, c, L0, hcs0, E0, wf0, mx0⟩ := open_texts (cs := [Value.slice a0 len0 cap0]) hf0
  simp only [List.cons.injEq, Value.slice.injEq, and_true] at hcs0
  obtain ⟨rfl, rfl, rfl⟩ := hcs0
  obtain ⟨a1, rfl, rfl, rfl, w1⟩ := open_int Try.underlying3 (hval 1 3 v1 rfl rfl) h1
  clear hA0 hval0
  refine (walk L0 a0 cap0 a1 W E0 wf0 mx0 w1).mono fun e W' ⟨he, bel⟩ => ?_
  subst he
  exact ⟨_, rfl, _, _, _, [], _, [], hW', trodAll_mk1 (shut_bool Try.underlying4 _), (trodAll_cons_mk (Below.trod laidOut (by kernel_rfl) (of_decide_eq_true (by kernel_rfl)) k0 bel lt0) (trodAll_cons_mk (shut_int Try.underlying3 w1) trodAll_mk0)), rfl, bel.frame _, fun h => by cases h⟩

theorem over : Rows.fileSumsRow.holds Try.pinned (OpenSpec.ofChange Rows.fileSumsSpec) :=
  OpenClaim.holds_of_wide 6 Try.f6 rfl rfl rfl rfl rfl rfl rfl ⟨rfl, rfl, rfl, rfl, rfl⟩ rfl rfl rfl rfl rfl (by kernel_rfl) Try.func6 (by kernel_rfl)
    (of_decide_eq_true (by kernel_rfl)) (by unfold Func.isWrapper; first | (rw [if_pos (by decide +kernel)]; kernel_rfl) | (rw [if_neg (by decide +kernel)]; exact ⟨rfl, rfl⟩))
    (fun os started H enc _ => lifted os started H enc)

/-- The given statement. -/
theorem fileSums_proved : Rows.FileSumsSaid :=
  over
#print axioms fileSums_proved
end Go.Proofs.Ytphbkbjgjicncaa.fileSums
