/-
  Rows of bytes as the cells of a block, digests by value, whole arrays loaded and stored, what stays of a world: plain facts at this program.
-/
import Derived.Test.YtgaggncepknafaaRows
import Derived.Test.YtgaggncepknafaaNums
import Derived.Deep.MidRow
import Derived.Deep.WholeRow
import Derived.Deep.Upon
import Derived.Laws.CopyOwn
import Derived.Laws.AppendOwn
import Derived.Laws.AppendOwnNone
import Derived.Laws.StructEq
import Derived.ChangeKeysEq
import Derived.Below
import Derived.Tactics
import Derived.ProofKit
import Derived.OpenShut
import Derived.ChangeSlices
import Derived.Lib.Strings
import Derived.Lib.Hide
import Derived.WalkKit
import Derived.BigQuiet
import Derived.Deep.QuietTactic
namespace Go.Proofs.Ytgaggncepknafaa
open Go Go.RowKit

def li (s : ByteArray) : List UInt8 := s.data.toList
theorem li_len (s : ByteArray) : (li s).length = s.size := by simp [li]
theorem li_mk (l : List UInt8) : li ⟨l.toArray⟩ = l := by simp [li]
theorem mk_li (s : ByteArray) : (⟨(li s).toArray⟩ : ByteArray) = s := by cases s; simp [li]
theorem li_inj {s t : ByteArray} (h : li s = li t) : s = t := by rw [← mk_li s, ← mk_li t, h]
theorem li_app (a b : ByteArray) : li (a ++ b) = li a ++ li b := by unfold li; rw [ByteArray.data_append]; simp
theorem mk_size (l : List UInt8) : (⟨l.toArray⟩ : ByteArray).size = l.length := by simp [ByteArray.size]
theorem mk_app (a b : List UInt8) : (⟨a.toArray⟩ : ByteArray) ++ ⟨b.toArray⟩ = ⟨(a ++ b).toArray⟩ := li_inj (by rw [li_app, li_mk, li_mk, li_mk])
theorem toList_li (a : ByteArray) : a.toList = li a := by
  have : a = ⟨a.data.toList.toArray⟩ := by simp
  rw [this]; exact ByteArray.toList_mk _
def row (l : List UInt8) : Array Value := (l.map fun b => Value.int .u8 (b.toNat : Int)).toArray
theorem row_size (l : List UInt8) : (row l).size = l.length := by simp [row]
theorem row_at (l : List UInt8) (j : Nat) (h : j < l.length) : (row l)[j]? = some (.int .u8 ((l.getD j 0).toNat : Int)) := by
  unfold row; simp [h]
theorem row_set (l : List UInt8) (k : Nat) (b : UInt8) : (row l).setIfInBounds k (.int .u8 (b.toNat : Int)) = row (l.set k b) := by
  unfold row; simp [List.map_set]
/-- A row, and what is not there yet. -/
def pz {α : Type} (z : α) (n : Nat) (l : List α) : List α := l ++ List.replicate (n - l.length) z
theorem pz_length {α : Type} (z : α) (n : Nat) (l : List α) (h : l.length ≤ n) : (pz z n l).length = n := by
  simp [pz]; omega
theorem pz_getD {α : Type} (z : α) (n : Nat) (l : List α) (i : Nat) : (pz z n l).getD i z = l.getD i z := by
  unfold pz
  rw [List.getD_eq_getElem?_getD, List.getD_eq_getElem?_getD]
  by_cases h : i < l.length
  · rw [List.getElem?_append_left h]
  · rw [List.getElem?_append_right (by omega), List.getElem?_eq_none (l := l) (by omega)]
    by_cases h2 : i - l.length < n - l.length
    · rw [List.getElem?_replicate, if_pos h2]; rfl
    · rw [List.getElem?_replicate, if_neg h2]
theorem pz_set {α : Type} (z : α) (n : Nat) (l : List α) (x : α) (h : l.length < n) : (pz z n l).set l.length x = pz z n (l ++ [x]) := by
  unfold pz
  rw [List.set_append_right _ _ (Nat.le_refl _), Nat.sub_self]
  obtain ⟨m, hm⟩ : ∃ m, n - l.length = m + 1 := ⟨n - l.length - 1, by omega⟩
  rw [hm, List.replicate_succ, List.set_cons_zero, show n - (l ++ [x]).length = m by simp; omega]
  simp
theorem pz_zero {α : Type} (z : α) (n : Nat) (l : List α) (h : l.length < n) : pz z n (l ++ [z]) = pz z n l := by
  unfold pz
  obtain ⟨m, hm⟩ : ∃ m, n - l.length = m + 1 := ⟨n - l.length - 1, by omega⟩
  rw [hm, List.replicate_succ, show n - (l ++ [z]).length = m by simp; omega]
  simp
theorem pz_full {α : Type} (z : α) (n : Nat) (l : List α) (h : l.length = n) : pz z n l = l := by
  unfold pz; rw [h]; simp
theorem take_snocD {α : Type} (z : α) (l : List α) (k : Nat) (h : k < l.length) : l.take (k + 1) = l.take k ++ [l.getD k z] := by
  rw [List.take_succ_eq_append_getElem h, List.getD_eq_getElem?_getD, List.getElem?_eq_getElem h]; rfl

section
variable {P : Program}

theorem wpList_load_row {ops : Array Oper} {rest : List Oper} {op : Oper} {a : Act} {w : World} {Q : Exit → Act → World → Prop} (hgd : op.guard = none) (ty : TypeId) (x : Operand) (ho : op.op = .load ty x)
    (b : Nat) (hx : a.eval x = .pointer (some ⟨b, 0, none⟩)) (t : TypeId) (c : Array Value) (d : TypeDesc) (hg : w.heap[b]? = some (.cells c t))
    (hu : P.underlying ty = some d) (hd : (match d with | .struct _ | .array _ _ => true | _ => false) = true) (hi : (P.info? ty).map (·.size) = some c.size)
    (h : wpList P ops Q rest (a.put op.dst (.agg c)) w) : wpList P ops Q (op :: rest) a w :=
  wpList_plain hgd fun _ hK => by
    unfold Oper.wp execOp
    simp only [ho, hx, Instr.loadAt, Instr.sureAddr, Sem.run_bind, Sem.run_pure, Result.andThen_ok, run_loadVar_row w b t ty c (0, 0) d hg hu hd hi]
    exact hK _ _ h

theorem wpList_store_row {ops : Array Oper} {rest : List Oper} {op : Oper} {a : Act} {w : World} {Q : Exit → Act → World → Prop} (hgd : op.guard = none) (ty : TypeId) (x y : Operand) (ho : op.op = .store ty x y)
    (b : Nat) (cells : Array Value) (hx : a.eval x = .pointer (some ⟨b, 0, none⟩)) (hy : a.eval y = .agg cells) (t : TypeId) (old : Array Value)
    (hg : w.heap[b]? = some (.cells old t)) (hi : (P.info? ty).map (·.size) = some cells.size) (hs : old.size = cells.size) (h1 : cells.all (·.oneCell') = true)
    (h : wpList P ops Q rest (a.put op.dst undef) (w.setRow b cells)) : wpList P ops Q (op :: rest) a w :=
  wpList_plain hgd fun _ hK => by
    unfold Oper.wp execOp
    simp only [ho, hx, hy, Instr.storeAt, Instr.sureAddr, Sem.run_bind, Sem.run_pure, Result.andThen_ok, run_storeVar_row w b t ty old cells hg hi hs h1]
    exact hK _ _ h

theorem results_row {fn : Func} {p : Tmp} {ty : TypeId} (h : fn.results = #[.cell p ty]) (tmps : Array Value) (b : Nat) (hp : tmps.getD p undef = .pointer (some ⟨b, 0, none⟩)) (w : World) (t : TypeId) (c : Array Value) (d : TypeDesc)
    (hg : w.heap[b]? = some (.cells c t)) (hu : P.underlying ty = some d) (hd : (match d with | .struct _ | .array _ _ => true | _ => false) = true) (hi : (P.info? ty).map (·.size) = some c.size) :
    (results fn tmps).run P w = .ok (.agg c) w := by
  have := run_loadVar_row (P := P) w b t ty c (0, 0) d hg hu hd hi
  simp only [results, h]
  have hp' : tmps[p]?.getD undef = .pointer (some ⟨b, 0, none⟩) := by simpa using hp
  simp [hp', this, asAddr]

/-- The end of a call whose one result is a whole array in a block. -/
theorem bodyPost_row {fn : Func} {R : Ending → World → Prop} {a : Act} {w : World} (p : Tmp) (ty : TypeId) (h : fn.results = #[.cell p ty]) (b : Nat) (hp : a.tmps.getD p undef = .pointer (some ⟨b, 0, none⟩)) (t : TypeId) (c : Array Value) (d : TypeDesc)
    (hg : w.heap[b]? = some (.cells c t)) (hu : P.underlying ty = some d) (hd : (match d with | .struct _ | .array _ _ => true | _ => false) = true) (hi : (P.info? ty).map (·.size) = some c.size)
    (hdf : a.defers = []) (hR : R (.returned (.agg c)) w) : bodyPost P fn R .ret a w :=
  bodyPost_ret (results_row h a.tmps b hp w t c d hg hu hd hi) hdf hR

/-- A cell of an array that is a value. -/
theorem run_index_row (t e : TypeId) (n : Nat) (cs : Array Value) (i : Nat) (v : Value) (hu : P.underlying t = some (.array n e)) (ha : ∀ w, (isAgg e).run P w = .ok false w) (hs : ∀ w, (sizeOf e).run P w = .ok 1 w)
    (hi : i < n) (hv : cs[i]? = some v) (w : World) : (Instr.index t (.agg cs) (.int .i64 (i : Int))).run P w = .ok v w := by
  unfold Instr.index
  simp only [Sem.run_bind, asIntOf, Sem.run_pure, Result.andThen_ok, run_underlying hu w]
  rw [if_pos ⟨by omega, by omega⟩]
  simp only [Sem.run_bind, hs, Result.andThen_ok, part, ha]
  simp [hv]

theorem heap_alloc_if (w : World) (o : Obj) (k : Nat) : (w.alloc o).heap[k]? = if k = w.heap.size then some o else w.heap[k]? := by
  show (w.heap.push o)[k]? = _
  rw [Array.getElem?_push]

end
theorem lt_of_some {v : World} {b : Nat} {o : Obj} (h : v.heap[b]? = some o) : b < v.heap.size := (Array.getElem?_eq_some_iff.1 h).1
theorem frozen_row {w : World} {z : Nat} {c : Array Value} {t : TypeId} (h : w.heap[z]? = some (.cells c t)) (j : Nat) : w.frozen? ⟨z, j, none⟩ = false := frozen_of_row w z j c t h
theorem row_one (l : List UInt8) : (row l).all (·.oneCell') = true := by
  unfold row; simp [Value.oneCell']
/-- Nothing old has turned, below a block: 'Below' without the tape. -/
structure Belo (B : Nat) (w w' : World) : Prop where
  os : w'.os = w.os
  output : w'.output = w.output
  size : w.heap.size ≤ w'.heap.size
  block : ∀ k, k < B → w'.heap[k]? = w.heap[k]?
theorem Belo.of {B : Nat} {w w' : World} (h : Below B w w') : Belo B w w' := ⟨h.os, h.output, h.size, h.block⟩
theorem Belo.refl (B : Nat) (w : World) : Belo B w w := ⟨rfl, rfl, Nat.le_refl _, fun _ _ => rfl⟩
theorem Belo.trans {B : Nat} {a b c : World} (h : Belo B a b) (k : Belo B b c) : Belo B a c :=
  ⟨k.os.trans h.os, k.output.trans h.output, Nat.le_trans h.size k.size, fun i hi => (k.block i hi).trans (h.block i hi)⟩
theorem Belo.mono {B B' : Nat} {w w' : World} (h : Belo B w w') (hB : B' ≤ B) : Belo B' w w' := ⟨h.os, h.output, h.size, fun k hk => h.block k (Nat.lt_of_lt_of_le hk hB)⟩
theorem Belo.frame {W w' : World} (h : Belo W.heap.size W w') (may : MemPlace → Prop) : W.keptBut w' may := by
  refine ⟨h.os, h.output, fun i hi => ?_⟩
  rw [h.block i hi]
  split <;> simp_all

def byteL (l : List UInt8) : List Value := l.map fun b => Value.int .u8 (b.toNat : Int)
theorem byteL_length (l : List UInt8) : (byteL l).length = l.length := by simp [byteL]
theorem byteL_append (l m : List UInt8) : byteL (l ++ m) = byteL l ++ byteL m := by simp [byteL]
theorem byteL_one (l : List UInt8) : ∀ u ∈ byteL l, u.oneCell' = true := by
  intro u hu; unfold byteL at hu; rw [List.mem_map] at hu; obtain ⟨b, _, rfl⟩ := hu; rfl
theorem byteL_at (l : List UInt8) (j : Nat) : (byteL l)[j]? = l[j]?.map fun b => Value.int .u8 (b.toNat : Int) := by simp [byteL]

theorem conv_bytes (s : ByteArray) (hs : s.size ≤ 4000) (w : World) : ∃ C W, (convert 9 39 (.string s)).run Try.prog w = .ok (.slice (some ⟨w.heap.size, 0, none⟩) s.size C) W ∧
    Came W 1 (some ⟨w.heap.size, 0, none⟩) w.heap.size 0 s.size C (byteL s.data.toList) ∧ C ≤ maxLen ∧ Belo w.heap.size w W ∧ W.heap.size = w.heap.size + 1 := by
  have hr := run_bytes_of_string (P := Try.prog) w 9 39 5 s Try.underlying9 Try.underlying39 Try.underlying5
  have hge := grownCap_ge w s.size 0 5
  have hle := grownCap_le_maxLen w s.size 0 5 (by unfold maxLen; omega)
  generalize grownCap w s.size 0 5 = C at hr hge hle
  refine ⟨C, _, hr, ?_, hle, ?_, by simp⟩
  · have hbs : (bytesRow s C).size = C := by simp [bytesRow]; omega
    have hg : (w.drew.alloc (.cells (bytesRow s C) 5 ((bytesRow s C).size, (bytesRow s C).size + 1))).heap[w.heap.size]? = some (.cells (bytesRow s C) 5 ((bytesRow s C).size, (bytesRow s C).size + 1)) := by
      rw [heap_alloc_if, if_pos (by simp)]
    refine ⟨hge, fun _ => rfl, fun _ => by simp, by rw [byteL_length]; simp, fun j u hu => ?_, fun j hj => ?_⟩
    · rw [Nat.zero_add, cell_of_row _ _ j _ _ _ hg]
      rw [byteL_at] at hu
      have hj : j < s.size := by
        cases h : s.data.toList[j]? with
        | none => rw [h] at hu; cases hu
        | some b => have := (List.getElem?_eq_some_iff.1 h).1; simpa using this
      unfold bytesRow
      rw [Array.getElem?_append_left (by simpa using hj), Array.getElem?_map, ← hu]
      simp
    · rw [Nat.zero_add, Nat.mul_one]
      rw [Nat.mul_one] at hj
      constructor
      · rw [cell_of_row _ _ _ _ _ _ hg, Array.getElem?_eq_getElem (by omega)]; rfl
      · unfold World.frozen?
        rw [hg]
        simp [hbs]
        omega
  · exact Belo.of ((Below.refl _ _).drew.alloc (by simp) _)

theorem info5 : (Try.prog.info? 5).map (fun i => (i.zero, i.size, i.bytes)) = some (some (.int .u8 0), 1, 1) := by kernel_rfl
theorem info5' : ∃ i, Try.prog.info? 5 = some i ∧ i.zero = some (.int .u8 0) ∧ i.size = 1 ∧ i.bytes = 1 := by
  have h := info5
  cases hq : Try.prog.info? 5 with
  | none => rw [hq] at h; cases h
  | some i =>
    rw [hq] at h
    simp only [Option.map_some, Option.some.injEq, Prod.mk.injEq] at h
    exact ⟨i, rfl, h.1, h.2.1, h.2.2⟩
theorem src_one (x : UInt8) (w : World) : Src Try.prog 1 39 (.slice (some ⟨w.heap.size, 0, none⟩) 1 1) 1 (byteL [x]) (w.alloc (.cells #[.int .u8 (x.toNat : Int)] 5)) :=
  Src.ofSlice _ Try.underlying39 _ 1 1 _ rfl (fun j u hu => by
    have hj : j = 0 := by
      have := (List.getElem?_eq_some_iff.1 hu).1
      simp [byteL] at this; omega
    subst hj
    have e : (⟨w.heap.size, 0, none⟩ : Addr).add 0 = ⟨w.heap.size, 0, none⟩ := by unfold Addr.add; split <;> simp_all
    rw [e, cell_of_row _ _ 0 _ _ _ (by rw [heap_alloc_if, if_pos rfl])]
    exact hu) (byteL_one _)

theorem belo_alloc (w : World) (o : Obj) : Belo w.heap.size w (w.alloc o) := Belo.of ((Below.refl _ _).alloc (Nat.le_refl _) _)
theorem Belo.setRow {B : Nat} {w v : World} (h : Belo B w v) {b : Nat} (hb : B ≤ b) (c : Array Value) : Belo B w (v.setRow b c) :=
  ⟨h.os, h.output, by show _ ≤ (v.heap.modify _ _).size; simpa using h.size, fun k hk => by rw [setRow_other _ _ _ _ (by omega)]; exact h.block k hk⟩
theorem Belo.drewN {B : Nat} {w v : World} (h : Belo B w v) (n : Nat) : Belo B w (v.drewN n) := ⟨h.os, h.output, h.size, h.block⟩
theorem Belo.alloc {B : Nat} {w v : World} (h : Belo B w v) (hB : B ≤ v.heap.size) (o : Obj) : Belo B w (v.alloc o) := h.trans ((belo_alloc v o).mono hB)

theorem conv_row (v : World) (b n : Nat) (t : TypeId) (l : List UInt8) (hn : l.length = n) (h : v.heap[b]? = some (.cells (row l) t)) :
    (convert 39 9 (.slice (some ⟨b, 0, none⟩) n n)).run Try.prog v = .ok (.string ⟨l.toArray⟩) v := by
  subst hn
  refine run_convert_bytes_back (P := Try.prog) v 39 9 5 ⟨b, 0, none⟩ _ l Try.underlying39 Try.underlying5 Try.underlying9 (fun j hj => ?_)
  have e : (⟨b, 0, none⟩ : Addr).add j = ⟨b, j, none⟩ := by unfold Addr.add; split <;> simp_all
  rw [e, cell_of_row v _ j _ _ _ h, row_at _ _ hj, List.getD_eq_getElem?_getD, List.getElem?_eq_getElem hj]; rfl

theorem part5 (x : List UInt8) (i : Nat) (h : i < x.length) (w : World) : (part 5 (row x) i).run Try.prog w = .ok (.int .u8 ((x.getD i 0).toNat : Int)) w := by
  unfold part
  simp only [Sem.run_bind, Try.isAgg5, Result.andThen_ok]
  rw [row_at x i h]; rfl
theorem items5 (d : Nat) (x y : List UInt8) (w : World) : ∀ is : List Nat, (∀ i ∈ is, i < x.length ∧ i < y.length) → (Op.eqItems (d + 1) 5 1 (row x) (row y) is).run Try.prog w = .ok (is.all fun i => x.getD i 0 == y.getD i 0) w
  | [], _ => rfl
  | i :: is, h => by
    have ih := items5 d x y w is (fun j hj => h j (List.mem_cons_of_mem _ hj))
    obtain ⟨h1, h2⟩ := h i List.mem_cons_self
    have he := run_equalIn_int (P := Try.prog) w d 5 .u8 .u8 ((x.getD i 0).toNat : Int) ((y.getD i 0).toNat : Int) Try.underlying5
    simp only [Op.eqItems, Sem.run_bind, Nat.mul_one, part5 x i h1, part5 y i h2, Result.andThen_ok, he]
    by_cases e : x.getD i 0 = y.getD i 0
    · have e1 : (((x.getD i 0).toNat : Int) == ((y.getD i 0).toNat : Int)) = true := by rw [e]; simp
      rw [e1, List.all_cons, e]
      simpa using ih
    · have e1 : (((x.getD i 0).toNat : Int) == ((y.getD i 0).toNat : Int)) = false := by
        rw [beq_eq_false_iff_ne]; intro h; exact e (UInt8.toNat_inj.mp (by omega))
      have e2 : (x.getD i 0 == y.getD i 0) = false := by rw [beq_eq_false_iff_ne]; exact e
      rw [e1, List.all_cons, e2]
      rfl
theorem all_eq (x y : List UInt8) (hx : x.length = 32) (hy : y.length = 32) : ((List.range 32).all fun i => x.getD i 0 == y.getD i 0) = (x == y) := by
  rw [Bool.eq_iff_iff, List.all_eq_true, beq_iff_eq]
  constructor
  · intro h
    apply List.ext_getElem (by omega)
    intro i h1 h2
    have := h i (List.mem_range.2 (by omega))
    rw [beq_iff_eq, List.getD_eq_getElem?_getD, List.getD_eq_getElem?_getD, List.getElem?_eq_getElem h1, List.getElem?_eq_getElem h2] at this
    exact this
  · intro h i _; rw [h]; simp
theorem eql_dig (x y : List UInt8) (hx : x.length = 32) (hy : y.length = 32) (w : World) : (Op.equalIn 10000 28 (.agg (row x)) (.agg (row y))).run Try.prog w = .ok (x == y) w := by
  obtain ⟨i, hi⟩ := info_of_underlying (P := Try.prog) Try.underlying5
  have := run_equalIn_array (P := Try.prog) w 9999 (row x) (row y) Try.underlying28 hi
  rw [this]
  have e : Try.prog.cellsOf 5 = 1 := by kernel_rfl
  rw [e, items5 9998 x y w _ (fun i hi => by have := List.mem_range.1 hi; omega), all_eq x y hx hy]

theorem came_nil (W : World) : Came W 1 none 0 0 0 0 [] :=
  ⟨Nat.le_refl _, fun h => absurd h (Nat.lt_irrefl _), fun h => absurd h (Nat.lt_irrefl _), rfl, fun j u h => by simp at h, fun j hj => by omega⟩
theorem nil_belo {W wr : World} {v : Value} {m r : Nat} {ks : List Value} (h : Upon W 5 1 none 0 0 0 0 [] wr v m ks r) : Belo W.heap.size W wr :=
  ⟨h.kept.1, h.kept.2.1, h.kept.size, fun i hi => h.kept.block hi (fun p ⟨j, hj, _⟩ => absurd hj (by have := h.rFit; omega))⟩

/-- The datum that 32 bytes are. -/
def digD {H : Type} (l : List UInt8) : DataW H := .agg (l.map fun b => .lit (.int .u8 (b.toNat : Int)))
def byteOf : Value → UInt8
  | .int _ n => UInt8.ofNat n.toNat
  | _ => 0
theorem cells5 : Try.prog.cellsOf 5 = 1 := by kernel_rfl
theorem cells28 : Try.prog.cellsOf 28 = 32 := by kernel_rfl
theorem take1 (l : List Value) (i : Nat) (v : Value) (h : (l.drop i).take 1 = [v]) : l[i]? = some v := by
  have := congrArg (·[0]?) h
  simpa using this

theorem open_dig {H : Type} {enc : TypeId × Value → H} {w : World} {base : Nat} {sp : Nat → Bool} {held : Bool} {r : Reach} {b0 : Nat} {v : Value} {d : DataW H} {ps : List MemPlace}
    (hval : Value.okWide Try.prog w r b0 28 v) (hd : DataW.Trod enc Try.prog w base sp held 28 v d ps) : ∃ l : List UInt8, v = .agg (row l) ∧ d = digD l ∧ ps = [] ∧ l.length = 32 := by
  unfold Value.okWide at hval
  rw [Try.underlying28] at hval
  obtain ⟨cs, rfl, hsz, _⟩ := hval
  rw [cells28] at hsz
  obtain ⟨fuel, hf⟩ := hd
  obtain ⟨xs, m, _, hx, _, hxl, hel⟩ := DataW.trod_array Try.underlying28 hf
  have each : ∀ i, i < 32 → ∃ b : UInt8, cs[i]? = some (.int .u8 (b.toNat : Int)) ∧ xs[i]? = some (.lit (.int .u8 (b.toNat : Int)), []) := fun i hi => by
    have h1 := hel i hi
    rw [List.getElem?_eq_getElem (by omega)] at h1
    obtain ⟨n, h2, h3, h4⟩ := DataW.trod_int Try.underlying5 h1
    rw [cells5, Nat.mul_one] at h2
    have h5 := take1 _ _ _ h2
    have h6 := bounds_u8 h4
    have e : ((UInt8.ofNat n.toNat).toNat : Int) = n := by rw [UInt8.toNat_ofNat']; omega
    refine ⟨UInt8.ofNat n.toNat, ?_, ?_⟩
    · rw [e]; simpa [Value.cells] using h5
    · rw [e, List.getElem?_eq_getElem (by omega), h3]
  have hc : cs = row ((List.range 32).map fun i => byteOf (cs.getD i undef)) := by
    apply Array.ext_getElem?
    intro i
    by_cases hi : i < 32
    · obtain ⟨b, h1, _⟩ := each i hi
      rw [row_at _ _ (by simpa using hi), h1, List.getD_eq_getElem?_getD, List.getElem?_map, List.getElem?_range hi]
      have : byteOf (cs.getD i undef) = b := by
        have e : cs.getD i undef = .int .u8 (b.toNat : Int) := by simp [h1]
        rw [e]; simp [byteOf]
      simp only [Option.map_some, Option.getD_some, this]
    · rw [Array.getElem?_eq_none (by omega), Array.getElem?_eq_none (by rw [row_size]; simp; omega)]
  have hxs : xs = ((List.range 32).map fun i => byteOf (cs.getD i undef)).map fun b => (.lit (.int .u8 (b.toNat : Int)), []) := by
    apply List.ext_getElem?
    intro i
    by_cases hi : i < 32
    · obtain ⟨b, h1, h2⟩ := each i hi
      have : byteOf (cs.getD i undef) = b := by
        have e : cs.getD i undef = .int .u8 (b.toNat : Int) := by simp [h1]
        rw [e]; simp [byteOf]
      rw [h2, List.getElem?_map, List.getElem?_map, List.getElem?_range hi]
      simp only [Option.map_some, this]
    · rw [List.getElem?_eq_none (by omega), List.getElem?_eq_none (by simp; omega)]
  refine ⟨(List.range 32).map fun i => byteOf (cs.getD i undef), ?_, ?_, ?_, by simp⟩
  · exact congrArg Value.agg hc
  · have := congrArg Prod.fst hx
    simp only at this
    rw [this]
    generalize ((List.range 32).map fun i => byteOf (cs.getD i undef)) = l at hxs
    rw [hxs]
    unfold digD
    simp
  · have := congrArg Prod.snd hx
    simp only at this
    rw [this, hxs]
    simp

theorem shut_dig {H : Type} {enc : TypeId × Value → H} {w : World} {base : Nat} {sp : Nat → Bool} {held : Bool} {l : List UInt8} (hl : l.length = 32) : DataW.Trod enc Try.prog w base sp held 28 (.agg (row l)) (digD l) [] := by
  refine ⟨2, ?_⟩
  show DataW.trod enc Try.prog w base sp held 2 28 (row l).toList = _
  unfold DataW.trod
  rw [Try.underlying28]
  simp only
  rw [if_pos (by rw [cells28]; simp [row, hl])]
  have : (List.range 32).mapM (fun i => DataW.trod enc Try.prog w base sp held 1 5 (((row l).toList.drop (i * Try.prog.cellsOf 5)).take (Try.prog.cellsOf 5))) = some ((List.range 32).map fun i => (.lit (.int .u8 ((l.getD i 0).toNat : Int)), [])) := by
    apply Go.ChangeShapes.mapM_range_of
    intro i hi
    rw [cells5, Nat.mul_one]
    have e : ((row l).toList.drop i).take 1 = [.int .u8 ((l.getD i 0).toNat : Int)] := by
      have h1 : i < (row l).toList.length := by simp [row]; omega
      rw [List.drop_eq_getElem_cons h1]
      simp only [List.take_succ_cons, List.take_zero]
      congr 1
      have := row_at l i (by omega)
      rw [← Array.getElem?_toList, List.getElem?_eq_getElem h1] at this
      exact Option.some.inj this
    rw [e]
    unfold DataW.trod
    rw [Try.underlying5]
    generalize l.getD i 0 = b
    have hb := b.toNat_lt
    have hw : (Lit.int .u8 (b.toNat : Int)).wf = true := by
      simp [Lit.wf, IntKind.min, IntKind.max, IntKind.signed, IntKind.bits]; omega
    simp only [hw, and_self, if_true]
  rw [this]
  simp only [Option.map_some]
  unfold digD
  congr 2
  · rw [List.map_map]
    congr 1
    apply List.ext_getElem?
    intro i
    by_cases hi : i < 32
    · rw [List.getElem?_map, List.getElem?_map, List.getElem?_range hi, List.getElem?_eq_getElem (by omega)]
      simp only [Option.map_some, Function.comp]
      rw [List.getD_eq_getElem?_getD, List.getElem?_eq_getElem (by omega)]; rfl
    · rw [List.getElem?_eq_none (by simp; omega), List.getElem?_eq_none (by simp; omega)]
end Go.Proofs.Ytgaggncepknafaa
