/-
  Whole rows loaded and stored within a fence. No program is named here but for events.
-/
import Derived.Test.YtfilolmbppjbjaaGreatRange
import Derived.Test.YtfilolmbppjbjaaGreatHead
namespace Go.Proofs.YtfilolmbppjbjaaGreat
open Go Go.RowKit
variable {F : Fence} {n : Nat} {P : Program} {ops : Array Oper} {rest : List Oper} {o : Oper} {a : Act} {w : World} {Q : Exit → Act → World → Prop}

theorem wpListIn_exec (hg : o.guard = none) (hnc : (match o.op with | .call _ => false | .defer _ => false | _ => true) = true) (v : Value) (w' : World) (hv : (execOp a.eval o).run P w = .ok (.value v) w' ∨ ((execOp a.eval o).run P w = .ok .skip w' ∧ v = undef))
    (h : wpListIn F n P ops Q rest (a.put o.dst v) w') : wpListIn F n P ops Q (o :: rest) a w := by
  refine wpListIn_plain hg fun K hK => ⟨?_, ?_⟩
  · intro f hf
    unfold Oper.about at hf
    split at hf
    · rename_i c hc; rw [hc] at hnc; cases hnc
    · cases hf
  · rw [Oper.semAt_eq _ _ _ (fun c hc => by rw [hc] at hnc; cases hnc)]
    rcases hv with hv | ⟨hv, rfl⟩
    · rw [hv]; exact hK _ _ h
    · rw [hv]; exact hK _ _ h
theorem wpListIn_load_row (hg : o.guard = none) (ty : TypeId) (x : Operand) (ho : o.op = .load ty x) (b : Nat) (hx : a.eval x = .pointer (some ⟨b, 0, none⟩)) (t : TypeId) (c : Array Value) (d : TypeDesc) (hh : w.heap[b]? = some (.cells c t))
    (hu : P.underlying ty = some d) (hd : (match d with | .struct _ | .array _ _ => true | _ => false) = true) (hi : (P.info? ty).map (·.size) = some c.size) (h : wpListIn F n P ops Q rest (a.put o.dst (.agg c)) w) : wpListIn F n P ops Q (o :: rest) a w :=
  wpListIn_exec hg (by rw [ho]) _ w (.inl (by
    unfold execOp
    simp only [ho, hx, Instr.loadAt, Instr.sureAddr, Sem.run_bind, Sem.run_pure, Result.andThen_ok, run_loadVar_row w b t ty c (0, 0) d hh hu hd hi])) h
theorem wpListIn_store_row (hg : o.guard = none) (ty : TypeId) (x y : Operand) (ho : o.op = .store ty x y) (b : Nat) (cells : Array Value) (hx : a.eval x = .pointer (some ⟨b, 0, none⟩)) (hy : a.eval y = .agg cells) (t : TypeId) (old : Array Value)
    (hh : w.heap[b]? = some (.cells old t)) (hi : (P.info? ty).map (·.size) = some cells.size) (hs : old.size = cells.size) (h1 : cells.all (·.oneCell') = true) (h : wpListIn F n P ops Q rest (a.put o.dst undef) (w.setRow b cells)) : wpListIn F n P ops Q (o :: rest) a w :=
  wpListIn_exec hg (by rw [ho]) undef _ (.inr ⟨by
    unfold execOp
    simp only [ho, hx, hy, Instr.storeAt, Instr.sureAddr, Sem.run_bind, Sem.run_pure, Result.andThen_ok, run_storeVar_row w b t ty old cells hh hi hs h1], rfl⟩) h
theorem wpListIn_load_mid (hg : o.guard = none) (ty : TypeId) (x : Operand) (ho : o.op = .load ty x) (b k : Nat) (hx : a.eval x = .pointer (some ⟨b, k, none⟩)) (cs : List Value) (d : TypeDesc) (hc : w.rangeAt b k cs)
    (hu : P.underlying ty = some d) (hd : d.isRow = true) (hi : (P.info? ty).map (·.size) = some cs.length) (h : wpListIn F n P ops Q rest (a.put o.dst (.agg cs.toArray)) w) : wpListIn F n P ops Q (o :: rest) a w :=
  wpListIn_exec hg (by rw [ho]) _ w (.inl (by
    have := run_loadAt_mid (P := P) w b k ty cs d hc hu hd hi
    unfold execOp
    simp only [ho, hx, Sem.run_bind, Sem.run_pure, this, Result.andThen_ok])) h
theorem wpListIn_load_ev {Q : Exit → Act → World → Prop} (hg : o.guard = none) (x : Operand) (ho : o.op = .load 34 x) (b k : Nat) (hx : a.eval x = .pointer (some ⟨b, k, none⟩)) (e : Ev) (hs : e.sum.length = 32) (hr : w.rangeAt b k (evr e).toList)
    (h : wpListIn F n Tryz.prog ops Q rest (a.put o.dst (.agg (evr e))) w) : wpListIn F n Tryz.prog ops Q (o :: rest) a w := by
  refine wpListIn_load_mid hg 34 x ho b k hx (evr e).toList _ hr Tryz.underlying34 rfl (by rw [Array.length_toList, evr_size, hs]; exact info41) ?_
  rw [Array.toArray_toList]; exact h
/-- The bytes of a whole row of bytes, as a text. -/
theorem wpListIn_conv (hg : o.guard = none) (s t : TypeId) (x : Operand) (ho : o.op = .convert s t x) (u v : Value) (hx : a.eval x = u) (hv : (convert s t u).run P w = .ok v w) (h : wpListIn F n P ops Q rest (a.put o.dst v) w) : wpListIn F n P ops Q (o :: rest) a w :=
  wpListIn_exec hg (by rw [ho]) v w (.inl (by
    unfold execOp
    simp only [ho, hx, Sem.run_bind, hv, Result.andThen_ok, Sem.run_pure])) h
theorem wpListIn_slice (hg : o.guard = none) (t : TypeId) (x : Operand) (ho : o.op = .slice t x none none none) (u v : Value) (hx : a.eval x = u) (hv : (Instr.sliceAt t u none none none).run P w = .ok v w) (h : wpListIn F n P ops Q rest (a.put o.dst v) w) : wpListIn F n P ops Q (o :: rest) a w :=
  wpListIn_exec hg (by rw [ho]) v w (.inl (by
    unfold execOp
    simp only [ho, hx, Option.map_none, Sem.run_bind, hv, Result.andThen_ok, Sem.run_pure])) h
end Go.Proofs.YtfilolmbppjbjaaGreat
