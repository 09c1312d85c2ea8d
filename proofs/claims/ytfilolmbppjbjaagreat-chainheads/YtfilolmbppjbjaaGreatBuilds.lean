/-
  Slices of one digest, and of one event, that are made.
-/
import Derived.Test.YtfilolmbppjbjaaGreatCollect
namespace Go.Proofs.YtfilolmbppjbjaaGreat
open Go Go.RowKit

theorem fill_dig (d : List UInt8) (hd : d.length = 32) : Instr.fill (fun i => some (i * 32, 32)) ((Array.range (1 * 32)).map ((row zs)[· % (row zs).size]!)) [(0, .agg (row d))] = some (row d) := by
  obtain ⟨b0, b1, b2, b3, b4, b5, b6, b7, b8, b9, b10, b11, b12, b13, b14, b15, b16, b17, b18, b19, b20, b21, b22, b23, b24, b25, b26, b27, b28, b29, b30, b31, rfl⟩ := ex32 d hd
  kernel_rfl
theorem fill_ev (e : Ev) (hs : e.sum.length = 32) : Instr.fill (fun i => some (i * 37, 37)) ((Array.range (1 * 37)).map ((evr zeroE)[· % (evr zeroE).size]!)) [(0, .agg (evr e))] = some (evr e) := by
  have key : ∀ (k i t ln : Int) (nm d : List UInt8), d.length = 32 → Instr.fill (fun i => some (i * 37, 37)) ((Array.range (1 * 37)).map ((evr zeroE)[· % (evr zeroE).size]!)) [(0, .agg (evr ⟨k, i, nm, t, ln, d⟩))] = some (evr ⟨k, i, nm, t, ln, d⟩) := by
    intro k i t ln nm d hd
    obtain ⟨b0, b1, b2, b3, b4, b5, b6, b7, b8, b9, b10, b11, b12, b13, b14, b15, b16, b17, b18, b19, b20, b21, b22, b23, b24, b25, b26, b27, b28, b29, b30, b31, rfl⟩ := ex32 d hd
    kernel_rfl
  exact key e.kind e.id e.time e.len e.name e.sum hs
theorem build_dig (d : List UInt8) (hd : d.length = 32) (w : World) : (Instr.buildSlice 29 1 #[(0, .agg (row d))]).run Tryz.prog w = .ok (.slice (some ⟨w.heap.size, 0, none⟩) 1 1) (w.alloc (.cells (row d) 23)) := by
  have hf := fill_dig d hd
  have h1 : (sizeOf 23).run Tryz.prog w = .ok 32 w := Tryz.sizeOf23 w
  unfold Instr.buildSlice
  simp only [Sem.run_bind, run_underlying Tryz.underlying29, Result.andThen_ok, h1]
  simp only [show ¬ (1 * 32 > 2 ^ 24) by decide, show ¬ (1 * 32 = 0) by decide, if_false, Sem.run_bind, Sem.run_pure, Result.andThen_ok, zero26, Value.cells]
  rw [hf]
  simp [newRow, go_sem]
theorem build_ev (e : Ev) (hs : e.sum.length = 32) (w : World) : (Instr.buildSlice 24 1 #[(0, .agg (evr e))]).run Tryz.prog w = .ok (.slice (some ⟨w.heap.size, 0, none⟩) 1 1) (w.alloc (.cells (evr e) 34)) := by
  have hf := fill_ev e hs
  have h1 : (sizeOf 34).run Tryz.prog w = .ok 37 w := Tryz.sizeOf34 w
  unfold Instr.buildSlice
  simp only [Sem.run_bind, run_underlying Tryz.underlying24, Result.andThen_ok, h1]
  simp only [show ¬ (1 * 37 > 2 ^ 24) by decide, show ¬ (1 * 37 = 0) by decide, if_false, Sem.run_bind, Sem.run_pure, Result.andThen_ok, z41, Value.cells]
  rw [hf]
  simp [newRow, go_sem]
section
variable {F : Fence} {n : Nat} {P : Program} {ops : Array Oper} {rest : List Oper} {o : Oper} {a : Act} {w : World} {Q : Exit → Act → World → Prop}
theorem wpListIn_build1 (hg : o.guard = none) (t : TypeId) (x : Operand) (ho : o.op = .buildSlice t 1 #[(0, x)]) (u v : Value) (hx : a.eval x = u) (w' : World) (hv : (Instr.buildSlice t 1 #[(0, u)]).run P w = .ok v w')
    (h : wpListIn F n P ops Q rest (a.put o.dst v) w') : wpListIn F n P ops Q (o :: rest) a w :=
  wpListIn_exec hg (by rw [ho]) v w' (.inl (by
    unfold execOp
    simp only [ho, List.map_toArray, List.map_cons, List.map_nil, hx, Sem.run_bind, hv, Result.andThen_ok, Sem.run_pure])) h
theorem wpList_build1 (hg : o.guard = none) (t : TypeId) (x : Operand) (ho : o.op = .buildSlice t 1 #[(0, x)]) (u v : Value) (hx : a.eval x = u) (w' : World) (hv : (Instr.buildSlice t 1 #[(0, u)]).run P w = .ok v w')
    (h : wpList P ops Q rest (a.put o.dst v) w') : wpList P ops Q (o :: rest) a w :=
  wpList_plain hg fun _ hK => by
    unfold Oper.wp execOp
    simp only [ho, List.map_toArray, List.map_cons, List.map_nil, hx, Sem.run_bind, hv, Result.andThen_ok, Sem.run_pure]
    exact hK _ _ h
end
end Go.Proofs.YtfilolmbppjbjaaGreat
