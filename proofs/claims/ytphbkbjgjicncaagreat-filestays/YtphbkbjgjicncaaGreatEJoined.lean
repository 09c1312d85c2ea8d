/-
  What 'joined' returns: the event of which these are the parts.
-/
import Derived.Test.YtphbkbjgjicncaaGreatEPartsC
namespace Go.Proofs.YtphbkbjgjicncaaGreat.ev
open Go Go.RowKit
set_option linter.unusedVariables false


def byteL (l : List UInt8) : List Value := l.map fun b => Value.int .u8 (b.toNat : Int)
def zs : List UInt8 := List.replicate 32 0
theorem row_list (l : List UInt8) : row l = (byteL l).toArray := rfl
def zeroE : Ev := ⟨0, 0, [], 0, 0, zs⟩
def jOne (e : Ev) : Pt → Ev
  | .kind n => { e with kind := n }
  | .id n => { e with id := n }
  | .label l => { e with name := l }
  | .moment n => { e with time := n }
  | .added n => { e with len := n }
  | .length n => { e with len := n }
  | .sum d => { e with sum := d }
def jn (l : List Pt) : Ev := l.foldl jOne zeroE
theorem jn_snoc (l : List Pt) (p : Pt) : jn (l ++ [p]) = jOne (jn l) p := by unfold jn; rw [List.foldl_append]; rfl
/-- A sum has 32 bytes. -/
def Pt.fine : Pt → Prop
  | .sum d => d.length = 32
  | _ => True
theorem jOne_sum (e : Ev) (h : e.sum.length = 32) (p : Pt) (hp : p.fine) : (jOne e p).sum.length = 32 := by
  cases p <;> first | exact h | exact hp
theorem jn_sum (l : List Pt) (h : ∀ p ∈ l, p.fine) : (jn l).sum.length = 32 := by
  unfold jn
  have : ∀ (l : List Pt) (e : Ev), e.sum.length = 32 → (∀ p ∈ l, p.fine) → (l.foldl jOne e).sum.length = 32 := by
    intro l
    induction l with
    | nil => intro e h _; exact h
    | cons p l ih => intro e h hl; exact ih _ (jOne_sum e h p (hl p (by simp))) (fun q hq => hl q (by simp [hq]))
  exact this l zeroE rfl h
theorem pts_at (l : List Pt) (k : Nat) (h : k < l.length) : (pts l)[k]? = some (l[k]).enc := by simp [pts, h]

theorem evr_list (e : Ev) : evr e = (Value.int .i64 e.kind :: .int .i64 e.id :: .string ⟨e.name.toArray⟩ :: .int .i64 e.time :: .int .i64 e.len :: byteL e.sum).toArray := by
  unfold evr row sh.row byteL; simp
theorem evr_name (e : Ev) (l : List UInt8) : (evr e).setIfInBounds 2 (.string ⟨l.toArray⟩) = evr { e with name := l } := by rw [evr_list, evr_list]; simp
theorem evr_sum (e : Ev) (h : e.sum.length = 32) (d : List UInt8) (hd : d.length = 32) : ((evr e).toList.take 5 ++ (row d).toList ++ (evr e).toList.drop (5 + (row d).toList.length)).toArray = evr { e with sum := d } := by
  rw [evr_list, evr_list]
  have h1 : (row d).toList.length = 32 := by simp [sh.row, hd]
  rw [h1]
  simp [sh.row, byteL, h]
theorem zero41 : evr zeroE = #[Value.int .i64 0, .int .i64 0, .string ⟨#[]⟩, .int .i64 0, .int .i64 0, .int .u8 0, .int .u8 0, .int .u8 0, .int .u8 0, .int .u8 0, .int .u8 0, .int .u8 0, .int .u8 0, .int .u8 0, .int .u8 0, .int .u8 0, .int .u8 0, .int .u8 0, .int .u8 0, .int .u8 0, .int .u8 0, .int .u8 0, .int .u8 0, .int .u8 0, .int .u8 0, .int .u8 0, .int .u8 0, .int .u8 0, .int .u8 0, .int .u8 0, .int .u8 0, .int .u8 0, .int .u8 0, .int .u8 0, .int .u8 0, .int .u8 0, .int .u8 0] := rfl
/-- A whole array stored into the middle of a row. -/
theorem wpList_store_part {P : Program} {ops : Array Oper} {rest : List Oper} {op : Oper} {a : Act} {w : World} {Q : Exit → Act → World → Prop} (hgd : op.guard = none) (ty : TypeId) (x y : Operand) (ho : op.op = .store ty x y)
    (b o : Nat) (cells : Array Value) (hx : a.eval x = .pointer (some ⟨b, o, none⟩)) (hy : a.eval y = .agg cells) (t : TypeId) (old new : Array Value)
    (hg : w.heap[b]? = some (.cells old t)) (hi : (P.info? ty).map (·.size) = some cells.size) (hs : o + cells.size ≤ old.size) (h1 : cells.all (·.oneCell') = true)
    (hn : (old.toList.take o ++ cells.toList ++ old.toList.drop (o + cells.toList.length)).toArray = new)
    (h : wpList P ops Q rest (a.put op.dst undef) (w.setRow b new)) : wpList P ops Q (op :: rest) a w :=
  wpList_plain hgd fun _ hK => by
    have hr := run_storeCells_at P b o t cells.toList 0 old w hg (by simpa using hs) (fun v hv => (Array.all_eq_true_iff_forall_mem.1 h1) v (by simpa using hv))
    simp only [Nat.add_zero] at hr
    rw [hn] at hr
    have hv : (storeVar ty ⟨b, o, none⟩ (.agg cells)).run P w = .ok () (w.setRow b new) := by
      cases hq : P.info? ty with
      | none => simp [hq] at hi
      | some i =>
        have hz : cells.size = i.size := by simp [hq] at hi; omega
        simp [storeVar, sizeOf, typeInfo, hq, Value.cells, hz, hr]
    unfold Oper.wp execOp
    simp only [ho, hx, hy, Instr.storeAt, Instr.sureAddr, Sem.run_bind, Sem.run_pure, Result.andThen_ok, hv]
    exact hK _ _ h

structure JW (w : World) (r x : Nat) (c : Array Value) (v : World) : Prop where
  bel : Below w.heap.size w v
  res : v.heap[r]? = some (.cells (evr zeroE) 35)
  ev : v.heap[x]? = some (.cells c 35)
  lr : w.heap.size ≤ r
  lx : w.heap.size ≤ x
  ne : r ≠ x
theorem JW.row {w : World} {r x : Nat} {c : Array Value} {v : World} (h : JW w r x c v) (c' : Array Value) : JW w r x c' (v.setRow x c') :=
  { h with bel := below_setRow h.bel h.lx _, res := by rw [setRow_other _ _ _ _ h.ne]; exact h.res, ev := setRow_heap _ _ _ _ _ _ h.ev }
theorem JW.set {w : World} {r x : Nat} {c : Array Value} {v : World} (h : JW w r x c v) (j : Nat) (y : Value) : JW w r x (c.setIfInBounds j y) (v.setCell ⟨x, j, none⟩ y) := by
  rw [setCell_eq_setRow _ _ _ _ _ _ _ h.ev]; exact h.row _
theorem JW.past {w : World} {r x : Nat} {c : Array Value} {v v' : World} (h : JW w r x c v) (hb : Below v.heap.size v v') : JW w r x c v' :=
  { h with bel := h.bel.trans (hb.mono h.bel.size), res := (hb.block _ (lt_of_some h.res)).trans h.res, ev := (hb.block _ (lt_of_some h.ev)).trans h.ev }
theorem JW.at {w : World} {r x : Nat} {c : Array Value} {v : World} (h : JW w r x c v) (j : Nat) {y : Value} (hy : c[j]? = some y) : v.cell? ⟨x, j, none⟩ = some y ∧ v.frozen? ⟨x, j, none⟩ = false :=
  ⟨(cell_of_row v x j _ _ _ h.ev).trans hy, frozen_row h.ev j⟩

theorem info99 : (Tryz.prog.info? 79).map (·.size) = some 32 := by kernel_rfl
theorem zero99 (w : World) : (zeroValue 79).run Tryz.prog w = .ok (.agg (row zs)) w := (Tryz.zeroValue79 w).trans rfl

/-- Which type an interface's value has, asked for two answers. -/
theorem wpList_is {P : Program} {ops : Array Oper} {rest : List Oper} {op : Oper} {a : Act} {w : World} {Q : Exit → Act → World → Prop} (hgd : op.guard = none) (x : Operand) (it T : TypeId) (ho : op.op = .typeAssert x it T true)
    (t : TypeId) (v : Value) (hx : a.eval x = .iface t v) (r : Value) (hr : (Instr.typeAssert (.iface t v) it T true).run P w = .ok r w) (h : wpList P ops Q rest (a.put op.dst r) w) : wpList P ops Q (op :: rest) a w :=
  wpList_plain hgd fun _ hK => by
    unfold Oper.wp execOp
    simp only [ho, hx, Sem.run_bind, hr, Result.andThen_ok, Sem.run_pure]
    exact hK _ _ h
theorem is_yes (P : Program) (T it : TypeId) (d : TypeDesc) (hu : P.underlying T = some d) (hd : (match d with | .interface _ => true | _ => false) = false) (v : Value) (w : World) : (Instr.typeAssert (.iface T v) it T true).run P w = .ok (.tuple #[v, .bool true]) w := by
  unfold Instr.typeAssert
  cases d <;> first | (cases hd; done) | simp [run_underlying hu, go_sem]
theorem is_no (P : Program) (T it : TypeId) (d : TypeDesc) (hu : P.underlying T = some d) (hd : (match d with | .interface _ => true | _ => false) = false) (t : TypeId) (ht : t ≠ T) (v z : Value) (w : World) (hz : (zeroValue T).run P w = .ok z w) :
    (Instr.typeAssert (.iface t v) it T true).run P w = .ok (.tuple #[z, .bool false]) w := by
  unfold Instr.typeAssert
  cases d <;> first | (cases hd; done) | simp [run_underlying hu, ht, hz, go_sem]
theorem yes67 (v : Value) (w : World) : (Instr.typeAssert (.iface 73 v) 57 73 true).run Tryz.prog w = .ok (.tuple #[v, .bool true]) w := is_yes _ 73 57 _ Tryz.underlying73 rfl v w
theorem no67 (t : TypeId) (ht : t ≠ 73) (v : Value) (w : World) : (Instr.typeAssert (.iface t v) 57 73 true).run Tryz.prog w = .ok (.tuple #[.int .i64 0, .bool false]) w := is_no _ 73 57 _ Tryz.underlying73 rfl t ht v _ w (Tryz.zeroValue73 w)
theorem yes100 (v : Value) (w : World) : (Instr.typeAssert (.iface 80 v) 57 80 true).run Tryz.prog w = .ok (.tuple #[v, .bool true]) w := is_yes _ 80 57 _ Tryz.underlying80 rfl v w
theorem no100 (t : TypeId) (ht : t ≠ 80) (v : Value) (w : World) : (Instr.typeAssert (.iface t v) 57 80 true).run Tryz.prog w = .ok (.tuple #[.int .i64 0, .bool false]) w := is_no _ 80 57 _ Tryz.underlying80 rfl t ht v _ w (Tryz.zeroValue80 w)
theorem yes95 (v : Value) (w : World) : (Instr.typeAssert (.iface 75 v) 57 75 true).run Tryz.prog w = .ok (.tuple #[v, .bool true]) w := is_yes _ 75 57 _ Tryz.underlying75 rfl v w
theorem no95 (t : TypeId) (ht : t ≠ 75) (v : Value) (w : World) : (Instr.typeAssert (.iface t v) 57 75 true).run Tryz.prog w = .ok (.tuple #[.string ⟨#[]⟩, .bool false]) w := is_no _ 75 57 _ Tryz.underlying75 rfl t ht v _ w (Tryz.zeroValue75 w)
theorem yes97 (v : Value) (w : World) : (Instr.typeAssert (.iface 77 v) 57 77 true).run Tryz.prog w = .ok (.tuple #[v, .bool true]) w := is_yes _ 77 57 _ Tryz.underlying77 rfl v w
theorem no97 (t : TypeId) (ht : t ≠ 77) (v : Value) (w : World) : (Instr.typeAssert (.iface t v) 57 77 true).run Tryz.prog w = .ok (.tuple #[.int .i64 0, .bool false]) w := is_no _ 77 57 _ Tryz.underlying77 rfl t ht v _ w (Tryz.zeroValue77 w)
theorem yes96 (v : Value) (w : World) : (Instr.typeAssert (.iface 76 v) 57 76 true).run Tryz.prog w = .ok (.tuple #[v, .bool true]) w := is_yes _ 76 57 _ Tryz.underlying76 rfl v w
theorem no96 (t : TypeId) (ht : t ≠ 76) (v : Value) (w : World) : (Instr.typeAssert (.iface t v) 57 76 true).run Tryz.prog w = .ok (.tuple #[.int .i64 0, .bool false]) w := is_no _ 76 57 _ Tryz.underlying76 rfl t ht v _ w (Tryz.zeroValue76 w)
theorem yes98 (v : Value) (w : World) : (Instr.typeAssert (.iface 78 v) 57 78 true).run Tryz.prog w = .ok (.tuple #[v, .bool true]) w := is_yes _ 78 57 _ Tryz.underlying78 rfl v w
theorem no98 (t : TypeId) (ht : t ≠ 78) (v : Value) (w : World) : (Instr.typeAssert (.iface t v) 57 78 true).run Tryz.prog w = .ok (.tuple #[.int .i64 0, .bool false]) w := is_no _ 78 57 _ Tryz.underlying78 rfl t ht v _ w (Tryz.zeroValue78 w)
theorem yes99 (v : Value) (w : World) : (Instr.typeAssert (.iface 79 v) 57 79 true).run Tryz.prog w = .ok (.tuple #[v, .bool true]) w := is_yes _ 79 57 _ Tryz.underlying79 rfl v w
theorem no99 (t : TypeId) (ht : t ≠ 79) (v : Value) (w : World) : (Instr.typeAssert (.iface t v) 57 79 true).run Tryz.prog w = .ok (.tuple #[.agg (row zs), .bool false]) w := is_no _ 79 57 _ Tryz.underlying79 rfl t ht v _ w (zero99 w)

set_option maxRecDepth 100000 in
set_option maxHeartbeats 1000000 in
theorem joined_any (l : List Pt) (hl : ∀ p ∈ l, p.fine) (hn : l.length ≤ 80) (w : World) (g : Nat) (hg : w.heap[g]? = some (.cells (pts l) 57)) :
    Calls Tryz.prog 23 #[.slice (some ⟨g, 0, none⟩) l.length l.length] w fun e w' => e = .returned (.agg (evr (jn l))) ∧ Below w.heap.size w w' := by
  have hgl := lt_of_some hg
  have hcell : Hid (∀ v, Below w.heap.size w v → ∀ k (h : k < l.length), v.cell? ⟨g, k, none⟩ = some (l[k]).enc) := Lib.hid (fun v hb k h => by
    rw [hb.cell (p := ⟨g, k, none⟩) hgl, cell_of_row w g k _ _ _ hg]; exact pts_at l k h)
  have hs := Lib.hid (fun k => jn_sum (l.take k) (fun p hp => hl p (List.mem_of_mem_take hp)))
  have hz := zero41
  have h0 : Hid (JW w w.heap.size (w.heap.size + 1) (evr (jn (l.take 0))) ((w.alloc (.cells (evr zeroE) 35)).alloc (.cells (evr zeroE) 35))) := Lib.hid {
    bel := ((Below.refl _ _).alloc (Nat.le_refl _) _).alloc (by simp) _
    res := by rw [heap_alloc_if, if_neg (by simp), heap_alloc_if, if_pos rfl]
    ev := by rw [heap_alloc_if, if_pos (by simp)]; rfl
    lr := Nat.le_refl _
    lx := by omega
    ne := by omega }
  have hfine := Lib.hid hl
  rw [hz] at h0
  clear hg hgl hl hz
  go_enter Tryz.func23, Tryz.ntmps23
  go_wp2_with fail
  go_loopw [15] (fun i wr => ∃ k : Nat, k ≤ l.length ∧ i = .int .i64 (k : Int) ∧ Hid (JW w w.heap.size (w.heap.size + 1) (evr (jn (l.take k))) wr)) (fun i _ => l.length - (intOf i).toNat)
  case atStart => exact ⟨0, Nat.zero_le _, rfl, h0⟩
  case round =>
    obtain ⟨k, hk, rfl, hJ⟩ := hrel
    by_cases hlt : k < l.length
    · have hb : (k : Int) < (l.length : Int) := by omega
      have hc := hcell.out wr hJ.out.bel k hlt
      have hts := Lib.hid (List.take_succ_eq_append_getElem hlt)
      cases hp : l[k] with
      | kind n =>
        rw [hp] at hc
        simp only [Pt.enc] at hc
        have hj : Hid (jn (l.take (k + 1)) = jOne (jn (l.take k)) (.kind n)) := Lib.hid (by rw [hts.out, jn_snoc, hp])
        have he := Lib.hid (evr_kind (jn (l.take k)) n)
        obtain ⟨hf1, hf2⟩ := hJ.out.at 0 (evr0 _)
        clear hp hts
        go_wp2_with (first
          | (with_reducible refine wpList_is rfl (.tmp 19) 57 73 rfl 73 _ rfl _ (yes67 _ _) ?_))
        go_roundw
        case rel => exact ⟨k + 1, by omega, by go_num, Lib.hid (by rw [hj.out]; unfold jOne; rw [← he.out]; exact hJ.out.set 0 _)⟩
        case measure => simp [intOf]; omega
      | id n =>
        rw [hp] at hc
        simp only [Pt.enc] at hc
        have hj : Hid (jn (l.take (k + 1)) = jOne (jn (l.take k)) (.id n)) := Lib.hid (by rw [hts.out, jn_snoc, hp])
        have he := Lib.hid (evr_id (jn (l.take k)) n)
        obtain ⟨hf1, hf2⟩ := hJ.out.at 1 (evr1 _)
        clear hp hts
        go_wp2_with (first
          | (with_reducible refine wpList_is rfl (.tmp 19) 57 73 rfl 80 _ rfl _ (no67 80 (by decide) _ _) ?_)
          | (with_reducible refine wpList_is rfl (.tmp 19) 57 80 rfl 80 _ rfl _ (yes100 _ _) ?_))
        go_roundw
        case rel => exact ⟨k + 1, by omega, by go_num, Lib.hid (by rw [hj.out]; unfold jOne; rw [← he.out]; exact hJ.out.set 1 _)⟩
        case measure => simp [intOf]; omega
      | label t =>
        rw [hp] at hc
        simp only [Pt.enc] at hc
        have hj : Hid (jn (l.take (k + 1)) = jOne (jn (l.take k)) (.label t)) := Lib.hid (by rw [hts.out, jn_snoc, hp])
        have he := Lib.hid (evr_name (jn (l.take k)) t)
        obtain ⟨hf1, hf2⟩ := hJ.out.at 2 (evr2 _)
        clear hp hts
        go_wp2_with (first
          | (with_reducible refine wpList_is rfl (.tmp 19) 57 73 rfl 75 _ rfl _ (no67 75 (by decide) _ _) ?_)
          | (with_reducible refine wpList_is rfl (.tmp 19) 57 80 rfl 75 _ rfl _ (no100 75 (by decide) _ _) ?_)
          | (with_reducible refine wpList_is rfl (.tmp 19) 57 75 rfl 75 _ rfl _ (yes95 _ _) ?_))
        go_roundw
        case rel => exact ⟨k + 1, by omega, by go_num, Lib.hid (by rw [hj.out]; unfold jOne; rw [← he.out]; exact hJ.out.set 2 _)⟩
        case measure => simp [intOf]; omega
      | moment n =>
        rw [hp] at hc
        simp only [Pt.enc] at hc
        have hj : Hid (jn (l.take (k + 1)) = jOne (jn (l.take k)) (.moment n)) := Lib.hid (by rw [hts.out, jn_snoc, hp])
        have he := Lib.hid (evr_time (jn (l.take k)) n)
        obtain ⟨hf1, hf2⟩ := hJ.out.at 3 (evr3 _)
        clear hp hts
        go_wp2_with (first
          | (with_reducible refine wpList_is rfl (.tmp 19) 57 73 rfl 77 _ rfl _ (no67 77 (by decide) _ _) ?_)
          | (with_reducible refine wpList_is rfl (.tmp 19) 57 80 rfl 77 _ rfl _ (no100 77 (by decide) _ _) ?_)
          | (with_reducible refine wpList_is rfl (.tmp 19) 57 75 rfl 77 _ rfl _ (no95 77 (by decide) _ _) ?_)
          | (with_reducible refine wpList_is rfl (.tmp 19) 57 77 rfl 77 _ rfl _ (yes97 _ _) ?_))
        go_roundw
        case rel => exact ⟨k + 1, by omega, by go_num, Lib.hid (by rw [hj.out]; unfold jOne; rw [← he.out]; exact hJ.out.set 3 _)⟩
        case measure => simp [intOf]; omega
      | added n =>
        rw [hp] at hc
        simp only [Pt.enc] at hc
        have hj : Hid (jn (l.take (k + 1)) = jOne (jn (l.take k)) (.added n)) := Lib.hid (by rw [hts.out, jn_snoc, hp])
        have he := Lib.hid (evr_len (jn (l.take k)) n)
        obtain ⟨hf1, hf2⟩ := hJ.out.at 4 (evr4 _)
        clear hp hts
        go_wp2_with (first
          | (with_reducible refine wpList_is rfl (.tmp 19) 57 73 rfl 76 _ rfl _ (no67 76 (by decide) _ _) ?_)
          | (with_reducible refine wpList_is rfl (.tmp 19) 57 80 rfl 76 _ rfl _ (no100 76 (by decide) _ _) ?_)
          | (with_reducible refine wpList_is rfl (.tmp 19) 57 75 rfl 76 _ rfl _ (no95 76 (by decide) _ _) ?_)
          | (with_reducible refine wpList_is rfl (.tmp 19) 57 77 rfl 76 _ rfl _ (no97 76 (by decide) _ _) ?_)
          | (with_reducible refine wpList_is rfl (.tmp 19) 57 76 rfl 76 _ rfl _ (yes96 _ _) ?_))
        go_roundw
        case rel => exact ⟨k + 1, by omega, by go_num, Lib.hid (by rw [hj.out]; unfold jOne; rw [← he.out]; exact hJ.out.set 4 _)⟩
        case measure => simp [intOf]; omega
      | length n =>
        rw [hp] at hc
        simp only [Pt.enc] at hc
        have hj : Hid (jn (l.take (k + 1)) = jOne (jn (l.take k)) (.length n)) := Lib.hid (by rw [hts.out, jn_snoc, hp])
        have he := Lib.hid (evr_len (jn (l.take k)) n)
        obtain ⟨hf1, hf2⟩ := hJ.out.at 4 (evr4 _)
        clear hp hts
        go_wp2_with (first
          | (with_reducible refine wpList_is rfl (.tmp 19) 57 73 rfl 78 _ rfl _ (no67 78 (by decide) _ _) ?_)
          | (with_reducible refine wpList_is rfl (.tmp 19) 57 80 rfl 78 _ rfl _ (no100 78 (by decide) _ _) ?_)
          | (with_reducible refine wpList_is rfl (.tmp 19) 57 75 rfl 78 _ rfl _ (no95 78 (by decide) _ _) ?_)
          | (with_reducible refine wpList_is rfl (.tmp 19) 57 77 rfl 78 _ rfl _ (no97 78 (by decide) _ _) ?_)
          | (with_reducible refine wpList_is rfl (.tmp 19) 57 76 rfl 78 _ rfl _ (no96 78 (by decide) _ _) ?_)
          | (with_reducible refine wpList_is rfl (.tmp 19) 57 78 rfl 78 _ rfl _ (yes98 _ _) ?_))
        go_roundw
        case rel => exact ⟨k + 1, by omega, by go_num, Lib.hid (by rw [hj.out]; unfold jOne; rw [← he.out]; exact hJ.out.set 4 _)⟩
        case measure => simp [intOf]; omega
      | sum d =>
        rw [hp] at hc
        simp only [Pt.enc] at hc
        have hd : Hid (d.length = 32) := Lib.hid (by have := hfine.out _ (List.getElem_mem hlt); rw [hp] at this; exact this)
        have hj : Hid (jn (l.take (k + 1)) = jOne (jn (l.take k)) (.sum d)) := Lib.hid (by rw [hts.out, jn_snoc, hp])
        have he := Lib.hid (evr_sum (jn (l.take k)) (hs.out k) d hd.out)
        have hi99 : Hid ((Tryz.prog.info? 79).map (·.size) = some (row d).size) := Lib.hid (by rw [row_size, hd.out]; exact info99)
        have hi26 : Hid ((Tryz.prog.info? 33).map (·.size) = some (row d).size) := Lib.hid (by rw [row_size, hd.out]; exact info31)
        have hA : Hid ((wr.alloc (.cells (row zs) 79)).heap[wr.heap.size]? = some (.cells (row zs) 79)) := Lib.hid (by rw [heap_alloc_if, if_pos rfl])
        have hB : Hid (((wr.alloc (.cells (row zs) 79)).setRow wr.heap.size (row d)).heap[wr.heap.size]? = some (.cells (row d) 79)) := Lib.hid (setRow_heap _ _ _ _ _ _ hA.out)
        have hJ2 : Hid (JW w w.heap.size (w.heap.size + 1) (evr (jn (l.take k))) ((wr.alloc (.cells (row zs) 79)).setRow wr.heap.size (row d))) := Lib.hid (hJ.out.past (below_setRow ((Below.refl _ _).alloc (Nat.le_refl _) _) (Nat.le_refl _) _))
        have hsz : Hid ((row zs).size = (row d).size) := Lib.hid (by rw [row_size, row_size, hd.out]; rfl)
        have hsz2 : Hid (5 + (row d).size ≤ (evr (jn (l.take k))).size) := Lib.hid (by rw [row_size, hd.out, evr_size, hs.out k]; omega)
        have hro := Lib.hid (row_one d)
        have z99 := zero99
        clear hp hts
        generalize row d = D at *
        go_wp2_with (first
          | (with_reducible refine wpList_is rfl (.tmp 19) 57 73 rfl 79 _ rfl _ (no67 79 (by decide) _ _) ?_)
          | (with_reducible refine wpList_is rfl (.tmp 19) 57 80 rfl 79 _ rfl _ (no100 79 (by decide) _ _) ?_)
          | (with_reducible refine wpList_is rfl (.tmp 19) 57 75 rfl 79 _ rfl _ (no95 79 (by decide) _ _) ?_)
          | (with_reducible refine wpList_is rfl (.tmp 19) 57 77 rfl 79 _ rfl _ (no97 79 (by decide) _ _) ?_)
          | (with_reducible refine wpList_is rfl (.tmp 19) 57 76 rfl 79 _ rfl _ (no96 79 (by decide) _ _) ?_)
          | (with_reducible refine wpList_is rfl (.tmp 19) 57 78 rfl 79 _ rfl _ (no98 79 (by decide) _ _) ?_)
          | (with_reducible refine wpList_is rfl (.tmp 19) 57 79 rfl 79 _ rfl _ (yes99 _ _) ?_)
          | (with_reducible refine wpList_store_row rfl 79 (.tmp 12) (.tmp 52) rfl _ D rfl rfl 79 _ hA.out hi99.out hsz.out hro.out ?_)
          | (with_reducible refine wpList_load_row rfl 79 (.tmp 12) rfl _ rfl 79 D _ hB.out Tryz.underlying79 rfl hi99.out ?_)
          | (with_reducible refine wpList_store_part rfl 33 (.tmp 54) (.tmp 53) rfl (w.heap.size + 1) 5 D rfl rfl 35 _ _ hJ2.out.ev hi26.out hsz2.out hro.out he.out ?_))
        go_roundw
        case rel => exact ⟨k + 1, by omega, by go_num, Lib.hid (by rw [hj.out]; exact hJ2.out.row _)⟩
        case measure => simp [intOf]; omega
    · obtain rfl : k = l.length := by omega
      have hb : ¬ (l.length : Int) < (l.length : Int) := by omega
      have hJ' : Hid (JW w w.heap.size (w.heap.size + 1) (evr (jn l)) wr) := Lib.hid (by have := hJ.out; rwa [List.take_length] at this)
      have hs' : Hid ((jn l).sum.length = 32) := Lib.hid (by have := hs.out l.length; rwa [List.take_length] at this)
      have hi41 : Hid ((Tryz.prog.info? 35).map (·.size) = some (evr (jn l)).size) := Lib.hid (by rw [evr_size, hs'.out]; exact info41)
      have hsz : Hid ((evr zeroE).size = (evr (jn l)).size) := Lib.hid (by rw [evr_size, evr_size, hs'.out]; rfl)
      have hro := Lib.hid (evr_one (jn l))
      clear hJ hs
      go_wp2_with (first
        | (with_reducible refine wpList_load_row rfl 35 (.tmp 3) rfl _ rfl 35 (evr (jn l)) _ hJ'.out.ev Tryz.underlying35 rfl hi41.out ?_)
        | (with_reducible refine wpList_store_row rfl 35 (.tmp 2) (.tmp 56) rfl _ (evr (jn l)) rfl rfl 35 _ hJ'.out.res hi41.out hsz.out hro.out ?_))
      exact bodyPost_row 2 35 rfl _ rfl 35 (evr (jn l)) _ (setRow_heap _ _ _ _ _ _ hJ'.out.res) Tryz.underlying35 rfl hi41.out rfl ⟨rfl, below_setRow hJ'.out.bel hJ'.out.lr _⟩
end Go.Proofs.YtphbkbjgjicncaaGreat.ev
