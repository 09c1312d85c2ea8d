/-
  A whole array that is loaded under a guard. No program is named here.
-/
import Derived.Test.YtfebhemlbnpmhaaAny
namespace Go.Proofs.Ytfebhemlbnpmhaa
open Go
variable {P : Program}
theorem wpList_load_want {ops : Array Oper} {rest : List Oper} {op : Oper} {a : Act} {w : World} {Q : Exit → Act → World → Prop} (hw : Region.wanted op (yielded ops a.tmps) = true) (ty : TypeId) (x : Operand) (ho : op.op = .load ty x)
    (b : Nat) (hx : a.eval x = .pointer (some ⟨b, 0, none⟩)) (t : TypeId) (c : Array Value) (d : TypeDesc) (hg : w.heap[b]? = some (.cells c t))
    (hu : P.underlying ty = some d) (hd : (match d with | .struct _ | .array _ _ => true | _ => false) = true) (hi : (P.info? ty).map (·.size) = some c.size)
    (h : wpList P ops Q rest (a.put op.dst (.agg c)) w) : wpList P ops Q (op :: rest) a w :=
  wpList_step fun K hK => by
    rw [if_pos hw]
    exact wp_load_row ty x ho b hx t c d hg hu hd hi (hK _ _ h)
end Go.Proofs.Ytfebhemlbnpmhaa
