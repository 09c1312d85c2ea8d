/-
  The blocks of a call of the reference's Of, and what its regions do to them.
-/
import Derived.Test.YtfilolmbppjbjaaGreatGsha
import Derived.Test.YtfilolmbppjbjaaGreatSRsmall
import Derived.Test.YtfilolmbppjbjaaGreatSRpad
namespace Go.Proofs.YtfilolmbppjbjaaGreat.sh
open Go.RowKit

set_option maxRecDepth 100000 in
theorem Belo.setRow {B : Nat} {w v : World} (h : Belo B w v) {b : Nat} (hb : B ≤ b) (c : Array Value) : Belo B w (v.setRow b c) :=
  ⟨h.os, h.output, by show _ ≤ (v.heap.modify _ _).size; simpa using h.size, fun k hk => by rw [setRow_other _ _ _ _ (by omega)]; exact h.block k hk⟩
set_option maxRecDepth 100000 in
theorem Belo.drewN {B : Nat} {w v : World} (h : Belo B w v) (n : Nat) : Belo B w (v.drewN n) := ⟨h.os, h.output, h.size, h.block⟩
set_option maxRecDepth 100000 in
theorem Belo.alloc {B : Nat} {w v : World} (h : Belo B w v) (hB : B ≤ v.heap.size) (o : Obj) : Belo B w (v.alloc o) := h.trans ((belo_alloc v o).mono hB)

/-- The blocks of the call: the answer's, the sums', the keys', and those that come later. -/
structure RW (w : World) (z b3 b4 : Nat) (c3 : Array Value) (E : List (Nat × Array Value × TypeId)) (v : World) : Prop where
  bel : Belo z w v
  res : v.heap[z]? = some (.cells d0 23)
  sum : v.heap[b3]? = some (.cells c3 54)
  key : v.heap[b4]? = some (.cells (ws K0) 56)
  z3 : z < b3
  b34 : b3 < b4
  ext : ∀ x ∈ E, b4 < x.1 ∧ v.heap[x.1]? = some (.cells x.2.1 x.2.2)
section
variable {w v v' : World} {z b3 b4 b : Nat} {c3 c c' : Array Value} {t : TypeId} {E : List (Nat × Array Value × TypeId)}
set_option maxRecDepth 100000 in
theorem RW.past (h : RW w z b3 b4 c3 E v) (hb : Belo v.heap.size v v') : RW w z b3 b4 c3 E v' :=
  { h with bel := h.bel.trans (hb.mono (Nat.le_of_lt (lt_of_some h.res))), res := (hb.block _ (lt_of_some h.res)).trans h.res, sum := (hb.block _ (lt_of_some h.sum)).trans h.sum, key := (hb.block _ (lt_of_some h.key)).trans h.key, ext := fun x hx => ⟨(h.ext x hx).1, (hb.block _ (lt_of_some (h.ext x hx).2)).trans (h.ext x hx).2⟩ }
set_option maxRecDepth 100000 in
theorem RW.drewN (h : RW w z b3 b4 c3 E v) (n : Nat) : RW w z b3 b4 c3 E (v.drewN n) := { h with bel := h.bel.drewN n, res := h.res, sum := h.sum, key := h.key, ext := h.ext }
set_option maxRecDepth 100000 in
theorem RW.drew (h : RW w z b3 b4 c3 E v) : RW w z b3 b4 c3 E v.drew := h.drewN 1
set_option maxRecDepth 100000 in
theorem RW.push (h : RW w z b3 b4 c3 E v) (c : Array Value) (t : TypeId) : RW w z b3 b4 c3 ((v.heap.size, c, t) :: E) (v.alloc (.cells c t)) := by
  have h' := h.past (belo_alloc v (.cells c t))
  refine { h' with ext := fun x hx => ?_ }
  rcases List.mem_cons.1 hx with rfl | hx
  · exact ⟨lt_of_some h.key, by rw [heap_alloc_if, if_pos rfl]⟩
  · exact h'.ext x hx
set_option maxRecDepth 100000 in
theorem RW.tail {x : Nat × Array Value × TypeId} (h : RW w z b3 b4 c3 (x :: E) v) : RW w z b3 b4 c3 E v := { h with ext := fun y hy => h.ext y (List.mem_cons_of_mem _ hy) }
set_option maxRecDepth 100000 in
theorem RW.top (h : RW w z b3 b4 c3 ((b, c, t) :: E) v) : v.heap[b]? = some (.cells c t) := (h.ext (b, c, t) (List.mem_cons_self ..)).2
set_option maxRecDepth 100000 in
theorem RW.rowTop (h : RW w z b3 b4 c3 ((b, c, t) :: E) v) (hn : ∀ x ∈ E, x.1 ≠ b) (c' : Array Value) : RW w z b3 b4 c3 ((b, c', t) :: E) (v.setRow b c') := by
  have hb := (h.ext (b, c, t) (List.mem_cons_self ..)).1
  have h1 := h.z3
  have h2 := h.b34
  simp only at hb
  refine { h with bel := h.bel.setRow (by omega) _, res := by rw [setRow_other _ _ _ _ (by omega)]; exact h.res, sum := by rw [setRow_other _ _ _ _ (by omega)]; exact h.sum, key := by rw [setRow_other _ _ _ _ (by omega)]; exact h.key, ext := fun x hx => ?_ }
  rcases List.mem_cons.1 hx with rfl | hx
  · exact ⟨hb, setRow_heap _ _ _ _ _ _ h.top⟩
  · exact ⟨(h.tail.ext x hx).1, by rw [setRow_other _ _ _ _ (hn x hx)]; exact (h.tail.ext x hx).2⟩
set_option maxRecDepth 100000 in
theorem RW.setTop (h : RW w z b3 b4 c3 ((b, c, t) :: E) v) (hn : ∀ x ∈ E, x.1 ≠ b) (k : Nat) (x : Value) : RW w z b3 b4 c3 ((b, c.setIfInBounds k x, t) :: E) (v.setCell ⟨b, k, none⟩ x) := by
  rw [setCell_eq_setRow _ _ _ _ _ _ _ h.top]
  exact h.rowTop hn _
set_option maxRecDepth 100000 in
theorem RW.set3 (h : RW w z b3 b4 c3 E v) (k : Nat) (x : Value) : RW w z b3 b4 (c3.setIfInBounds k x) E (v.setCell ⟨b3, k, none⟩ x) := by
  rw [setCell_eq_setRow _ _ _ _ _ _ _ h.sum]
  have h1 := h.z3
  have h2 := h.b34
  refine { h with bel := h.bel.setRow (by omega) _, res := by rw [setRow_other _ _ _ _ (by omega)]; exact h.res, sum := setRow_heap _ _ _ _ _ _ h.sum, key := by rw [setRow_other _ _ _ _ (by omega)]; exact h.key, ext := fun y hy => ?_ }
  have := (h.ext y hy).1
  exact ⟨this, by rw [setRow_other _ _ _ _ (by omega)]; exact (h.ext y hy).2⟩
set_option maxRecDepth 100000 in
theorem RW.atTop (h : RW w z b3 b4 c3 ((b, c, t) :: E) v) (k : Nat) {x : Value} (hx : c[k]? = some x) : v.cell? ⟨b, k, none⟩ = some x := by
  rw [cell_of_row v b k _ _ _ h.top]; exact hx
set_option maxRecDepth 100000 in
theorem RW.at3 (h : RW w z b3 b4 c3 E v) (k : Nat) {x : Value} (hx : c3[k]? = some x) : v.cell? ⟨b3, k, none⟩ = some x := by
  rw [cell_of_row v b3 k _ _ _ h.sum]; exact hx
set_option maxRecDepth 100000 in
theorem RW.at4 (h : RW w z b3 b4 c3 E v) (k : Nat) (hk : k < 64) : v.cell? ⟨b4, k, none⟩ = some (.int .u32 (V (K0.getD k 0#32))) := by
  rw [cell_of_row v b4 k _ _ _ h.key]; exact ws_at K0 k hk
set_option maxRecDepth 100000 in
theorem RW.frTop (h : RW w z b3 b4 c3 ((b, c, t) :: E) v) (k : Nat) : v.frozen? ⟨b, k, none⟩ = false := frozen_row h.top k
set_option maxRecDepth 100000 in
theorem RW.fr3 (h : RW w z b3 b4 c3 E v) (k : Nat) : v.frozen? ⟨b3, k, none⟩ = false := frozen_row h.sum k
end

set_option maxRecDepth 100000 in
theorem addByte (x : BitVec 32) (b : UInt8) : (V x * 256 + (b.toNat : Int)) % (4294967296 : Int) = V ((x <<< (8 : Nat)) ||| byte b) := by
  have := x.isLt
  have hb := b.toNat_lt
  have hz : (x <<< (8 : Nat)) &&& byte b = 0#32 := by
    apply BitVec.eq_of_getLsbD_eq
    intro i hi
    rw [BitVec.getLsbD_and, BitVec.getLsbD_shiftLeft, BitVec.getLsbD_zero]
    unfold byte
    rw [BitVec.getLsbD_ofNat]
    by_cases h8 : i < 8
    · simp [h8]
    · rw [Nat.testBit_lt_two_pow (Nat.lt_of_lt_of_le hb (by show 2 ^ 8 ≤ 2 ^ i; exact Nat.pow_le_pow_right (by decide) (by omega)))]; simp
  rw [← BitVec.add_eq_or_of_and_eq_zero _ _ hz]
  unfold V byte
  rw [BitVec.toNat_add, BitVec.toNat_shiftLeft, BitVec.toNat_ofNat, Nat.shiftLeft_eq]
  omega
set_option maxRecDepth 100000 in
theorem wcells_set0 (l : List (BitVec 32)) (h : l.length < 64) : wcells l = wcells (l ++ [0#32]) := (wcells_snoc l h).symm
end Go.Proofs.YtfilolmbppjbjaaGreat.sh
