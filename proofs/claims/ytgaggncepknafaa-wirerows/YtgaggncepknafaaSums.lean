/-
  What Sum and GetSum of the program return.
-/
import Derived.Test.YtgaggncepknafaaFrames
import Derived.Test.YtgaggncepknafaaQuiet
import Derived.Test.YtgaggncepknafaaAny
import Derived.Shelf.Abstract
namespace Go.Proofs.Ytgaggncepknafaa
open Go.RowKit

theorem slice32 (b : Nat) (w : World) : (Instr.sliceAt 28 (.pointer (some ⟨b, 0, none⟩)) none (some (.int .i64 32)) (some (.int .i64 32))).run Try.prog w = .ok (.slice (some ⟨b, 0, none⟩) 32 32) w := by
  have ht : Try.prog.underlying 28 = some (.array (Try.prog.arrayLen 28) (Try.prog.elem 28)) := by kernel_rfl
  have e1 : Try.prog.elem 28 = 5 := by kernel_rfl
  have e2 : Try.prog.arrayLen 28 = 32 := by kernel_rfl
  rw [run_sliceAt_array_hm (P := Try.prog) w 28 ⟨b, 0, none⟩ ht .i64 .i64 _ _ (by omega) (by omega) (by rw [e2]; omega), e1, Try.sizeOf5]
  rfl
theorem slice_all (b : Nat) (w : World) : (Instr.sliceAt 28 (.pointer (some ⟨b, 0, none⟩)) none none none).run Try.prog w = .ok (.slice (some ⟨b, 0, none⟩) 32 32) w := by
  have ht : Try.prog.underlying 28 = some (.array (Try.prog.arrayLen 28) (Try.prog.elem 28)) := by kernel_rfl
  have e1 : Try.prog.elem 28 = 5 := by kernel_rfl
  have e2 : Try.prog.arrayLen 28 = 32 := by kernel_rfl
  rw [run_sliceAt_array_all (P := Try.prog) w 28 ⟨b, 0, none⟩ ht, e1, e2, Try.sizeOf5]
  rfl

set_option maxHeartbeats 400000 in
theorem sum_any (d : List UInt8) (hd : d.length = 32) (w : World) :
    Calls Try.prog 24 #[.agg (row d)] w fun e w' => e = .returned (.string (mk d)) ∧ Below w.heap.size w w' := by
  have hsl := fun v => slice32 w.heap.size v
  have hcv := conv_row (w.alloc (.cells (row d) 28)) w.heap.size 32 28 d hd (by rw [heap_alloc_if, if_pos rfl])
  clear hd
  go_enter Try.func24, Try.ntmps24
  go_wp2_with fail
  go_returns
  exact ⟨rfl, by go_grown⟩

theorem ex32 (d : List UInt8) (hd : d.length = 32) : ∃ b0 b1 b2 b3 b4 b5 b6 b7 b8 b9 b10 b11 b12 b13 b14 b15 b16 b17 b18 b19 b20 b21 b22 b23 b24 b25 b26 b27 b28 b29 b30 b31 : UInt8, d = [b0, b1, b2, b3, b4, b5, b6, b7, b8, b9, b10, b11, b12, b13, b14, b15, b16, b17, b18, b19, b20, b21, b22, b23, b24, b25, b26, b27, b28, b29, b30, b31] := by
  match d, hd with
  | [b0, b1, b2, b3, b4, b5, b6, b7, b8, b9, b10, b11, b12, b13, b14, b15, b16, b17, b18, b19, b20, b21, b22, b23, b24, b25, b26, b27, b28, b29, b30, b31], _ => exact ⟨b0, b1, b2, b3, b4, b5, b6, b7, b8, b9, b10, b11, b12, b13, b14, b15, b16, b17, b18, b19, b20, b21, b22, b23, b24, b25, b26, b27, b28, b29, b30, b31, rfl⟩

theorem wpList_load_at {P : Program} {ops : Array Oper} {rest : List Oper} {op : Oper} {a : Act} {w : World} {Q : Exit → Act → World → Prop} (hgd : op.guard = none) (ty : TypeId) (x : Operand) (ho : op.op = .load ty x)
    (y : Value) (hx : a.eval x = y) (v : Value) (hv : (Instr.loadAt ty y).run P w = .ok v w)
    (h : wpList P ops Q rest (a.put op.dst v) w) : wpList P ops Q (op :: rest) a w :=
  wpList_plain hgd fun _ hK => by
    unfold Oper.wp execOp
    simp only [ho, hx, Sem.run_bind, hv, Result.andThen_ok, Sem.run_pure]
    exact hK _ _ h
theorem wpList_build3 {P : Program} {ops : Array Oper} {rest : List Oper} {op : Oper} {a : Act} {w : World} {Q : Exit → Act → World → Prop} (hgd : op.guard = none) (t : TypeId) (x y z : Operand) (ho : op.op = .build t #[(0, x), (1, y), (2, z)])
    (u1 u2 u3 : Value) (hx : a.eval x = u1) (hy : a.eval y = u2) (hz : a.eval z = u3) (v : Value) (hv : ∀ w, (Instr.build t #[(0, u1), (1, u2), (2, u3)]).run P w = .ok v w)
    (h : wpList P ops Q rest (a.put op.dst v) w) : wpList P ops Q (op :: rest) a w :=
  wpList_plain hgd fun _ hK => by
    unfold Oper.wp execOp
    simp only [ho, hx, hy, hz, List.map_toArray, List.map_cons, List.map_nil, Sem.run_bind, hv, Result.andThen_ok, Sem.run_pure]
    exact hK _ _ h
/-- A digest that was read, with what is behind it. -/
def rdD (d : List UInt8) (r : ByteArray) (b : Bool) : Array Value := row d ++ #[.string r, .bool b]
def z56 : Array Value := rdD (List.replicate 32 0) ⟨#[]⟩ false
theorem z56_eq : #[Value.int .u8 0, Value.int .u8 0, Value.int .u8 0, Value.int .u8 0, Value.int .u8 0, Value.int .u8 0, Value.int .u8 0, Value.int .u8 0, Value.int .u8 0, Value.int .u8 0, Value.int .u8 0, Value.int .u8 0, Value.int .u8 0, Value.int .u8 0, Value.int .u8 0, Value.int .u8 0, Value.int .u8 0, Value.int .u8 0, Value.int .u8 0, Value.int .u8 0, Value.int .u8 0, Value.int .u8 0, Value.int .u8 0, Value.int .u8 0, Value.int .u8 0, Value.int .u8 0, Value.int .u8 0, Value.int .u8 0, Value.int .u8 0, Value.int .u8 0, Value.int .u8 0, Value.int .u8 0, .string ⟨#[]⟩, .bool false] = z56 := rfl
theorem rdD_32 (d : List UInt8) (hd : d.length = 32) (r : ByteArray) (b : Bool) : (rdD d r b)[32]? = some (.string r) := by
  unfold rdD; rw [Array.getElem?_append_right (by rw [row_size]; omega), row_size, hd]; rfl
theorem rdD_33 (d : List UInt8) (hd : d.length = 32) (r : ByteArray) (b : Bool) : (rdD d r b)[33]? = some (.bool b) := by
  unfold rdD; rw [Array.getElem?_append_right (by rw [row_size]; omega), row_size, hd]; rfl
theorem rdD_size (d : List UInt8) (hd : d.length = 32) (r : ByteArray) (b : Bool) : (rdD d r b).size = 34 := by
  unfold rdD; rw [Array.size_append, row_size, hd]; rfl
theorem rdD_one (d : List UInt8) (r : ByteArray) (b : Bool) : (rdD d r b).all (·.oneCell') = true := by
  unfold rdD row; simp [Value.oneCell']
theorem z56_size : z56.size = 34 := rfl
theorem info56 : (Try.prog.info? 56).map (·.size) = some 34 := by kernel_rfl
theorem info56' (d : List UInt8) (hd : d.length = 32) (r : ByteArray) (b : Bool) : Hid ((Try.prog.info? 56).map (·.size) = some (rdD d r b).size) := by show _ = _; rw [rdD_size _ hd]; exact info56
theorem info28 : (Try.prog.info? 28).map (·.size) = some 32 := by kernel_rfl
theorem old56 (d : List UInt8) (hd : d.length = 32) (r : ByteArray) (b : Bool) : Hid (z56.size = (rdD d r b).size) := by show _ = _; rw [rdD_size _ hd]; rfl
theorem build56 (d : List UInt8) (hd : d.length = 32) (r : ByteArray) (b : Bool) (v : World) : (Instr.build 56 #[(0, .agg (row d)), (1, .string r), (2, .bool b)]).run Try.prog v = .ok (.agg (rdD d r b)) v := by
  obtain ⟨b0, b1, b2, b3, b4, b5, b6, b7, b8, b9, b10, b11, b12, b13, b14, b15, b16, b17, b18, b19, b20, b21, b22, b23, b24, b25, b26, b27, b28, b29, b30, b31, rfl⟩ := ex32 d hd
  exact run_build v 56 _ _ (by kernel_rfl)
theorem load28 (d : List UInt8) (hd : d.length = 32) (r : ByteArray) (b : Bool) (v : World) (g : Nat) (t : TypeId) (h : v.heap[g]? = some (.cells (rdD d r b) t)) : (Instr.loadAt 28 (.pointer (some ⟨g, 0, none⟩))).run Try.prog v = .ok (.agg (row d)) v := by
  have := run_loadAt_mid (P := Try.prog) v g 0 28 (row d).toList _ (fun j x hx => by
    have hj : j < (row d).toList.length := (List.getElem?_eq_some_iff.1 hx).1
    rw [Nat.zero_add, cell_of_row v g j _ _ _ h]
    unfold rdD
    rw [Array.getElem?_append_left (by simpa using hj), ← Array.getElem?_toList]; exact hx) Try.underlying28 rfl (by rw [Array.length_toList, row_size, hd]; exact info28)
  simpa using this
set_option maxHeartbeats 1000000 in
theorem pastd_hit (d : List UInt8) (hd : d.length = 32) (s p r : ByteArray) (h : li s = li p ++ li r) (w : World) :
    Calls Try.prog 32 #[.agg (rdD d s true), .string p] w fun e w' => e = .returned (.agg (rdD d r true)) ∧ Below w.heap.size w w' := by
  have hh := Lib.hid (fun v => cut_hit s p r h v)
  have h32 := rdD_32 d hd s true
  have h33 := rdD_33 d hd s true
  have hb := Lib.hid (build56 d hd r true)
  have hL := Lib.hid (load28 d hd s true)
  have i56 := info56' d hd r true
  have o56 := old56 d hd r true
  clear h hd
  go_enter Try.func32, Try.ntmps32
  go_wp2_with fail
  refine (hh.out _).mono ?_
  rintro e w' ⟨rfl, rfl⟩
  rw [z56_eq]
  have hl := hL.out ((w.alloc (.cells (rdD d s true) 56)).alloc (.cells z56 56)) w.heap.size 56 (past_alloc (by rw [heap_alloc_if, if_pos rfl]))
  have hz : ((w.alloc (.cells (rdD d s true) 56)).alloc (.cells z56 56)).heap[w.heap.size + 1]? = some (.cells z56 56) := by rw [heap_alloc_if, if_pos (by simp)]
  go_wp2_with (first
    | (with_reducible refine wpList_load_at rfl 28 (.tmp 22) rfl (.pointer (some ⟨w.heap.size, 0, none⟩)) rfl _ hl ?_)
    | (with_reducible refine wpList_build3 rfl 56 (.tmp 23) (.tmp 24) (.const (.bool true)) rfl (.agg (row d)) (.string r) (.bool true) rfl rfl rfl _ hb.out ?_)
    | (with_reducible refine wpList_store_row rfl 56 (.tmp 4) (.tmp 25) rfl _ (rdD d r true) rfl rfl 56 _ hz i56.out o56.out (rdD_one _ _ _) ?_)
    | fail)
  refine bodyPost_row 4 56 rfl (w.heap.size + 1) rfl 56 (rdD d r true) _ (setRow_heap _ _ _ _ _ _ hz) Try.underlying56 rfl i56.out rfl ?_
  exact ⟨rfl, below_setRow (((Below.refl _ _).alloc (Nat.le_refl _) _).alloc (by simp) _) (by simp) _⟩
theorem built56 (v : World) : (Instr.build 56 #[]).run Try.prog v = .ok (.agg z56) v := run_build v 56 _ _ (by kernel_rfl)
theorem wpList_build0 {P : Program} {ops : Array Oper} {rest : List Oper} {op : Oper} {a : Act} {w : World} {Q : Exit → Act → World → Prop} (hgd : op.guard = none) (t : TypeId) (ho : op.op = .build t #[])
    (v : Value) (hv : ∀ w, (Instr.build t #[]).run P w = .ok v w)
    (h : wpList P ops Q rest (a.put op.dst v) w) : wpList P ops Q (op :: rest) a w :=
  wpList_plain hgd fun _ hK => by
    unfold Oper.wp execOp
    simp only [ho, List.map_toArray, List.map_nil, Sem.run_bind, hv, Result.andThen_ok, Sem.run_pure]
    exact hK _ _ h
theorem z56_one : z56.all (·.oneCell') = true := rdD_one _ _ _
theorem z56_info : (Try.prog.info? 56).map (·.size) = some z56.size := info56
set_option maxHeartbeats 1000000 in
theorem pastd_miss (d : List UInt8) (hd : d.length = 32) (s p : ByteArray) (h : (li p).isPrefixOf (li s) = false) (w : World) :
    Calls Try.prog 32 #[.agg (rdD d s true), .string p] w fun e w' => e = .returned (.agg z56) ∧ Below w.heap.size w w' := by
  have hh := Lib.hid (fun v => cut_miss s p h v)
  have h32 := rdD_32 d hd s true
  have h33 := rdD_33 d hd s true
  clear h hd
  go_enter Try.func32, Try.ntmps32
  go_wp2_with fail
  refine (hh.out _).mono ?_
  rintro e w' ⟨rfl, rfl⟩
  rw [z56_eq]
  have hz : ((w.alloc (.cells (rdD d s true) 56)).alloc (.cells z56 56)).heap[w.heap.size + 1]? = some (.cells z56 56) := by rw [heap_alloc_if, if_pos (by simp)]
  go_wp2_with (first
    | (with_reducible refine wpList_build0 rfl 56 rfl _ built56 ?_)
    | (with_reducible refine wpList_store_row rfl 56 (.tmp 4) (.tmp 21) rfl _ z56 rfl rfl 56 _ hz z56_info rfl z56_one ?_)
    | fail)
  refine bodyPost_row 4 56 rfl (w.heap.size + 1) rfl 56 z56 _ (setRow_heap _ _ _ _ _ _ hz) Try.underlying56 rfl z56_info rfl ?_
  exact ⟨rfl, below_setRow (((Below.refl _ _).alloc (Nat.le_refl _) _).alloc (by simp) _) (by simp) _⟩
theorem run_val {m : Sem Value} {x : Value} {v : World} (h : m.run Try.prog v = .ok x v) : (do pure (Next.value (← m)) : Sem Next).run Try.prog v = .ok (.value x) v := by
  rw [Sem.run_bind, h]; rfl
theorem loadCell (t : TypeId) (z o : Nat) (v : World) (x : Value) (ha : ∀ w, (isAgg t).run Try.prog w = .ok false w) (h : v.cell? ⟨z, o, none⟩ = some x) : (Instr.loadAt t (.pointer (some ⟨z, o, none⟩))).run Try.prog v = .ok x v := by
  simp [Instr.loadAt, Instr.sureAddr, loadVar, ha, h, go_sem]

def fr33 (D : Array Value) (z : Nat) (x3 x4 x5 x6 x7 x8 x9 x10 : Value) : Act :=
  { tmps := #[.agg D, .pointer (some ⟨z, 0, none⟩), .pointer (some ⟨z + 1, 0, none⟩), x3, x4, x5, x6, x7, x8, x9, x10], defers := [] }
def z28 : Array Value := row (List.replicate 32 0)
theorem z28_eq : #[Value.int .u8 0, Value.int .u8 0, Value.int .u8 0, Value.int .u8 0, Value.int .u8 0, Value.int .u8 0, Value.int .u8 0, Value.int .u8 0, Value.int .u8 0, Value.int .u8 0, Value.int .u8 0, Value.int .u8 0, Value.int .u8 0, Value.int .u8 0, Value.int .u8 0, Value.int .u8 0, Value.int .u8 0, Value.int .u8 0, Value.int .u8 0, Value.int .u8 0, Value.int .u8 0, Value.int .u8 0, Value.int .u8 0, Value.int .u8 0, Value.int .u8 0, Value.int .u8 0, Value.int .u8 0, Value.int .u8 0, Value.int .u8 0, Value.int .u8 0, Value.int .u8 0, Value.int .u8 0] = z28 := rfl
theorem field56 (z k o : Nat) (h : (k, o) = (0, 0) ∨ (k, o) = (1, 32) ∨ (k, o) = (2, 33)) (v : World) : (Instr.fieldAt 56 (.pointer (some ⟨z, 0, none⟩)) k).run Try.prog v = .ok (.pointer (some ⟨z, o, none⟩)) v := by
  rcases h with h | h | h <;> cases h <;> (unfold Instr.fieldAt; simp [go_sem, run_underlying Try.underlying56])
/-- What holds at each step of told's return, in whatever order. -/
structure To (w : World) (z : Nat) (d : List UInt8) (r : ByteArray) (b : Bool) (l0 l1 l2 l3 l4 l5 l6 l7 l8 : Bool) (x3 x4 x5 x6 x7 x8 x9 x10 : Value) (v : World) : Prop where
  bel : Below w.heap.size w v
  src : v.heap[z]? = some (.cells (rdD d r b) 56)
  res : v.heap[z + 1]? = some (.cells (if l6 then row d else z28) 28)
  wz : w.heap.size ≤ z
  e0 : l0 = true → x5 = .pointer (some ⟨z, 0, none⟩)
  e1 : l1 = true → x6 = .agg (row d)
  e2 : l2 = true → x7 = .pointer (some ⟨z, 32, none⟩)
  e3 : l3 = true → x8 = .string r
  e4 : l4 = true → x9 = .pointer (some ⟨z, 33, none⟩)
  e5 : l5 = true → x10 = .bool b
  e7 : l7 = true → x3 = .string r
  e8 : l8 = true → x4 = .bool b
theorem told_region {ops : Array Oper} {Q : Exit → Act → World → Prop} {id : Nat} (w v : World) (z : Nat) (d : List UInt8) (hd : d.length = 32) (r : ByteArray) (b : Bool) (hwz : w.heap.size ≤ z)
    (o0 o1 o2 o3 o4 o5 o6 o7 o8 : Oper) (hsz : ops.size = 9) (h0 : ops[0]? = some o0) (h1 : ops[1]? = some o1) (h2 : ops[2]? = some o2) (h3 : ops[3]? = some o3) (h4 : ops[4]? = some o4) (h5 : ops[5]? = some o5) (h6 : ops[6]? = some o6) (h7 : ops[7]? = some o7) (h8 : ops[8]? = some o8)
    (p0 : o0.op = .fieldAddr 56 (.tmp 1) 0) (p1 : o1.op = .load 28 (.tmp 5)) (p2 : o2.op = .fieldAddr 56 (.tmp 1) 1) (p3 : o3.op = .load 9 (.tmp 7)) (p4 : o4.op = .fieldAddr 56 (.tmp 1) 2) (p5 : o5.op = .load 4 (.tmp 9))
    (p6 : o6.op = .store 28 (.tmp 2) (.tmp 6)) (p7 : o7.op = .assign (.tmp 8)) (p8 : o8.op = .assign (.tmp 10))
    (d0 : o0.dst = some 5) (d1 : o1.dst = some 6) (d2 : o2.dst = some 7) (d3 : o3.dst = some 8) (d4 : o4.dst = some 9) (d5 : o5.dst = some 10) (d6 : o6.dst = none) (d7 : o7.dst = some 3) (d8 : o8.dst = some 4)
    (g0 : o0.guard = none) (g1 : o1.guard = none) (g2 : o2.guard = none) (g3 : o3.guard = none) (g4 : o4.guard = none) (g5 : o5.guard = none) (g6 : o6.guard = none) (g7 : o7.guard = none) (g8 : o8.guard = none)
    (e10 : edgeB ops 1 0 = true) (e32 : edgeB ops 3 2 = true) (e54 : edgeB ops 5 4 = true) (e61 : edgeB ops 6 1 = true) (e73 : edgeB ops 7 3 = true) (e85 : edgeB ops 8 5 = true)
    (n0 : onlyB ops 0 [] = true) (n1 : onlyB ops 1 [0] = true) (n2 : onlyB ops 2 [] = true) (n3 : onlyB ops 3 [2] = true) (n4 : onlyB ops 4 [] = true) (n5 : onlyB ops 5 [4] = true) (n6 : onlyB ops 6 [0, 1, 2, 3, 4, 5] = true) (n7 : onlyB ops 7 [0, 1, 2, 3, 4, 5, 6] = true) (n8 : onlyB ops 8 [0, 1, 2, 3, 4, 5, 6, 7] = true)
    (hbel : Below w.heap.size w v) (hsrc : v.heap[z]? = some (.cells (rdD d r b) 56)) (hres : v.heap[z + 1]? = some (.cells z28 28))
    (hQ : ∀ v', Below w.heap.size w v' → v'.heap[z + 1]? = some (.cells (row d) 28) → Q .normal (fr33 (rdD d r b) z (.string r) (.bool b) (.pointer (some ⟨z, 0, none⟩)) (.agg (row d)) (.pointer (some ⟨z, 32, none⟩)) (.string r) (.pointer (some ⟨z, 33, none⟩)) (.bool b)) v') :
    (Code.region id ops true).wp Try.prog Q (fr33 (rdD d r b) z (.string ⟨#[]⟩) (.bool false) undef undef undef undef undef undef) v := by
  refine wp_region_any (by kernel_rfl) ?_
  rw [hsz]
  refine wpAny_inv (fun listed a v => ∃ l0 l1 l2 l3 l4 l5 l6 l7 l8 x3 x4 x5 x6 x7 x8 x9 x10, listed = #[l0, l1, l2, l3, l4, l5, l6, l7, l8] ∧ a = fr33 (rdD d r b) z x3 x4 x5 x6 x7 x8 x9 x10 ∧ To w z d r b l0 l1 l2 l3 l4 l5 l6 l7 l8 x3 x4 x5 x6 x7 x8 x9 x10 v) ?_ ?_ _ _ _ _ ?_ ?_
  · rintro listed a v ⟨l0, l1, l2, l3, l4, l5, l6, l7, l8, x3, x4, x5, x6, x7, x8, x9, x10, rfl, rfl, T⟩ i hi
    have hlt := ready_lt hi
    have hno := ready_not hi
    rw [hsz] at hlt
    obtain rfl | rfl | rfl | rfl | rfl | rfl | rfl | rfl | rfl : i = 0 ∨ i = 1 ∨ i = 2 ∨ i = 3 ∨ i = 4 ∨ i = 5 ∨ i = 6 ∨ i = 7 ∨ i = 8 := by omega
    · refine wpOp_plain h0 g0 (wp_val (.pointer (some ⟨z, 0, none⟩)) (by unfold execOp; simp only [p0]; exact run_val (field56 z 0 0 (.inl rfl) v)) ?_)
      rw [d0]
      exact ⟨_, _, _, _, _, _, _, _, _, x3, x4, _, x6, x7, x8, x9, x10, rfl, rfl, { T with e0 := fun _ => rfl }⟩
    · have k := T.e0 (ready_edge hi e10)
      refine wpOp_plain h1 g1 (wp_val (.agg (row d)) (by unfold execOp; simp only [p1]; subst k; exact run_val (load28 d hd r b v z 56 T.src)) ?_)
      rw [d1]
      exact ⟨_, _, _, _, _, _, _, _, _, x3, x4, x5, _, x7, x8, x9, x10, rfl, rfl, { T with e1 := fun _ => rfl }⟩
    · refine wpOp_plain h2 g2 (wp_val (.pointer (some ⟨z, 32, none⟩)) (by unfold execOp; simp only [p2]; exact run_val (field56 z 1 32 (.inr (.inl rfl)) v)) ?_)
      rw [d2]
      exact ⟨_, _, _, _, _, _, _, _, _, x3, x4, x5, x6, _, x8, x9, x10, rfl, rfl, { T with e2 := fun _ => rfl }⟩
    · have k := T.e2 (ready_edge hi e32)
      refine wpOp_plain h3 g3 (wp_val (.string r) (by unfold execOp; simp only [p3]; subst k; exact run_val (loadCell 9 z 32 v _ Try.isAgg9 ((cell_of_row v z 32 _ _ _ T.src).trans (rdD_32 d hd r b)))) ?_)
      rw [d3]
      exact ⟨_, _, _, _, _, _, _, _, _, x3, x4, x5, x6, x7, _, x9, x10, rfl, rfl, { T with e3 := fun _ => rfl }⟩
    · refine wpOp_plain h4 g4 (wp_val (.pointer (some ⟨z, 33, none⟩)) (by unfold execOp; simp only [p4]; exact run_val (field56 z 2 33 (.inr (.inr rfl)) v)) ?_)
      rw [d4]
      exact ⟨_, _, _, _, _, _, _, _, _, x3, x4, x5, x6, x7, x8, _, x10, rfl, rfl, { T with e4 := fun _ => rfl }⟩
    · have k := T.e4 (ready_edge hi e54)
      refine wpOp_plain h5 g5 (wp_val (.bool b) (by unfold execOp; simp only [p5]; subst k; exact run_val (loadCell 4 z 33 v _ Try.isAgg4 ((cell_of_row v z 33 _ _ _ T.src).trans (rdD_33 d hd r b)))) ?_)
      rw [d5]
      exact ⟨_, _, _, _, _, _, _, _, _, x3, x4, x5, x6, x7, x8, x9, _, rfl, rfl, { T with e5 := fun _ => rfl }⟩
    · have k6 : l6 = false := hno
      have k1 := T.e1 (ready_edge hi e61)
      have q := T.res
      rw [k6] at q
      subst k1
      refine wpOp_plain h6 g6 (wp_store_row 28 _ _ p6 (z + 1) (row d) rfl rfl 28 z28 q (by rw [row_size, hd]; exact info28) (by rw [row_size, hd]; rfl) (row_one d) ?_)
      rw [d6]
      refine ⟨_, _, _, _, _, _, _, _, _, x3, x4, x5, _, x7, x8, x9, x10, rfl, rfl, { T with bel := below_setRow T.bel (by omega) _, src := ?_, res := setRow_heap _ _ _ _ _ _ q }⟩
      rw [setRow_other _ _ _ _ (by omega)]; exact T.src
    · have k := T.e3 (ready_edge hi e73)
      refine wpOp_plain h7 g7 (wp_val (.string r) (by unfold execOp; simp only [p7]; subst k; rfl) ?_)
      rw [d7]
      exact ⟨_, _, _, _, _, _, _, _, _, _, x4, x5, x6, x7, x8, x9, x10, rfl, rfl, { T with e7 := fun _ => rfl }⟩
    · have k := T.e5 (ready_edge hi e85)
      refine wpOp_plain h8 g8 (wp_val (.bool b) (by unfold execOp; simp only [p8]; subst k; rfl) ?_)
      rw [d8]
      exact ⟨_, _, _, _, _, _, _, _, _, x3, _, x5, x6, x7, x8, x9, x10, rfl, rfl, { T with e8 := fun _ => rfl }⟩
  · rintro listed a v ⟨l0, l1, l2, l3, l4, l5, l6, l7, l8, x3, x4, x5, x6, x7, x8, x9, x10, rfl, rfl, T⟩ hr
    have k0 : l0 = true := done_of hr 0 _ n0 (by simp)
    have k2 : l2 = true := done_of hr 2 _ n2 (by simp)
    have k4 : l4 = true := done_of hr 4 _ n4 (by simp)
    have k1 : l1 = true := done_of hr 1 _ n1 (by simp [k0])
    have k3 : l3 = true := done_of hr 3 _ n3 (by simp [k2])
    have k5 : l5 = true := done_of hr 5 _ n5 (by simp [k4])
    have k6 : l6 = true := done_of hr 6 _ n6 (by simp [k0, k1, k2, k3, k4, k5])
    have k7 : l7 = true := done_of hr 7 _ n7 (by simp [k0, k1, k2, k3, k4, k5, k6])
    have k8 : l8 = true := done_of hr 8 _ n8 (by simp [k0, k1, k2, k3, k4, k5, k6, k7])
    have q := T.res
    rw [k6] at q
    rw [T.e0 k0, T.e1 k1, T.e2 k2, T.e3 k3, T.e4 k4, T.e5 k5, T.e7 k7, T.e8 k8]
    exact hQ v T.bel q
  · unfold todo; rw [hsz]; decide
  · refine ⟨false, false, false, false, false, false, false, false, false, .string ⟨#[]⟩, .bool false, undef, undef, undef, undef, undef, undef, rfl, rfl, ?_⟩
    exact { bel := hbel.drew, src := hsrc, res := hres, wz := hwz, e0 := nofun, e1 := nofun, e2 := nofun, e3 := nofun, e4 := nofun, e5 := nofun, e7 := nofun, e8 := nofun }

theorem results_row3 {P : Program} {fn : Func} {p q1 q2 : Tmp} {ty : TypeId} (h : fn.results = #[.cell p ty, .tmp q1, .tmp q2]) (tmps : Array Value) (b : Nat) (hp : tmps.getD p undef = .pointer (some ⟨b, 0, none⟩)) (v1 v2 : Value) (h1 : tmps.getD q1 undef = v1) (h2 : tmps.getD q2 undef = v2) (w : World) (t : TypeId) (c : Array Value) (d : TypeDesc)
    (hg : w.heap[b]? = some (.cells c t)) (hu : P.underlying ty = some d) (hd : (match d with | .struct _ | .array _ _ => true | _ => false) = true) (hi : (P.info? ty).map (·.size) = some c.size) :
    (results fn tmps).run P w = .ok (.tuple #[.agg c, v1, v2]) w := by
  have := run_loadVar_row (P := P) w b t ty c (0, 0) d hg hu hd hi
  simp only [results, h]
  have hp' : tmps[p]?.getD undef = .pointer (some ⟨b, 0, none⟩) := by simpa using hp
  have h1' : tmps[q1]?.getD undef = v1 := by simpa using h1
  have h2' : tmps[q2]?.getD undef = v2 := by simpa using h2
  simp [hp', h1', h2', this, asAddr]
theorem bodyPost_row3 {P : Program} {fn : Func} {R : Ending → World → Prop} {a : Act} {w : World} (p q1 q2 : Tmp) (ty : TypeId) (h : fn.results = #[.cell p ty, .tmp q1, .tmp q2]) (b : Nat) (hp : a.tmps.getD p undef = .pointer (some ⟨b, 0, none⟩)) (v1 v2 : Value) (h1 : a.tmps.getD q1 undef = v1) (h2 : a.tmps.getD q2 undef = v2) (t : TypeId) (c : Array Value) (d : TypeDesc)
    (hg : w.heap[b]? = some (.cells c t)) (hu : P.underlying ty = some d) (hd : (match d with | .struct _ | .array _ _ => true | _ => false) = true) (hi : (P.info? ty).map (·.size) = some c.size)
    (hdf : a.defers = []) (hR : R (.returned (.tuple #[.agg c, v1, v2])) w) : bodyPost P fn R .ret a w :=
  bodyPost_ret (results_row3 h a.tmps b hp v1 v2 h1 h2 w t c d hg hu hd hi) hdf hR
theorem info28' (d : List UInt8) (hd : d.length = 32) : (Try.prog.info? 28).map (·.size) = some (row d).size := by rw [row_size, hd]; exact info28
set_option maxHeartbeats 1000000 in
set_option maxRecDepth 100000 in
theorem toldd_any (d : List UInt8) (hd : d.length = 32) (r : ByteArray) (b : Bool) (w : World) :
    Calls Try.prog 33 #[.agg (rdD d r b)] w fun e w' => e = .returned (.tuple #[.agg (row d), .string r, .bool b]) ∧ Below w.heap.size w w' := by
  have hd' := Lib.hid hd
  clear hd
  go_enter Try.func33, Try.ntmps33
  go_wp2_with fail
  rw [z28_eq]
  refine told_region w _ w.heap.size d hd'.out r b (Nat.le_refl _) _ _ _ _ _ _ _ _ _ rfl rfl rfl rfl rfl rfl rfl rfl rfl rfl rfl rfl rfl rfl rfl rfl rfl rfl rfl rfl rfl rfl rfl rfl rfl rfl rfl rfl rfl rfl rfl rfl rfl rfl rfl rfl rfl
    (by kernel_rfl) (by kernel_rfl) (by kernel_rfl) (by kernel_rfl) (by kernel_rfl) (by kernel_rfl) (by kernel_rfl) (by kernel_rfl) (by kernel_rfl) (by kernel_rfl) (by kernel_rfl) (by kernel_rfl) (by kernel_rfl) (by kernel_rfl) (by kernel_rfl)
    (((Below.refl _ _).alloc (Nat.le_refl _) _).alloc (by simp) _) (past_alloc (by rw [heap_alloc_if, if_pos rfl])) (by rw [heap_alloc_if, if_pos (by simp)]) ?_
  intro v' hB hH
  unfold fr33
  go_wp2_with fail
  refine bodyPost_row3 2 3 4 28 rfl (w.heap.size + 1) rfl (.string r) (.bool b) rfl rfl 28 (row d) _ hH Try.underlying28 rfl (info28' d hd'.out) rfl ?_
  exact ⟨rfl, hB⟩

/-- What GetSum returns. -/
def sR (l : List UInt8) : Value := match gs l with
  | some (d, r) => .tuple #[.agg (row d), .string (mk r), .bool true]
  | none => .tuple #[.agg z28, .string em, .bool false]
theorem sR_some {l d r : List UInt8} (h : gs l = some (d, r)) : sR l = .tuple #[.agg (row d), .string (mk r), .bool true] := by unfold sR; rw [h]
theorem sR_none {l : List UInt8} (h : gs l = none) : sR l = .tuple #[.agg z28, .string em, .bool false] := by unfold sR; rw [h]
/-- The digest that the first bytes of a text are, as far as there are any. -/
def dOf (s : ByteArray) : List UInt8 := pz 0 32 ((li s).take 32)
theorem dOf_len (s : ByteArray) : (dOf s).length = 32 := pz_length _ _ _ (by rw [List.length_take]; omega)
theorem over_zero (l : List UInt8) : (z28.toList.take 0 ++ byteL l ++ z28.toList.drop (byteL l).length).toArray = row (pz 0 32 l) := by
  unfold z28 row pz byteL
  simp only [List.take_zero, List.nil_append, List.length_map, List.map_append, List.map_replicate, List.drop_replicate]
theorem run_copy32 (w : World) (g : Nat) (s : ByteArray) (hg : w.heap[g]? = some (.cells z28 28)) :
    (Builtin.copy_ #[39, 9] 3 #[.slice (some ⟨g, 0, none⟩) 32 32, .string s]).run Try.prog w = .ok (goInt (Nat.min s.size 32)) (w.setRow g (row (dOf s))) := by
  have hlen : (byteL ((li s).take 32)).length = Nat.min s.size 32 := by rw [byteL_length, List.length_take, li_len]; exact Nat.min_comm _ _
  have hst := run_storeCells_at Try.prog g 0 28 (byteL ((li s).take 32)) 0 z28 w hg (by rw [hlen]; show 0 + 0 + min s.size 32 ≤ 32; omega) (byteL_one _)
  obtain ⟨i, hi, hz, hsz, hby⟩ := info5'
  have htk : List.take (Nat.min s.size 32) (List.map (fun b : UInt8 => Value.int IntKind.u8 (b.toNat : Int)) s.data.toList) = byteL ((li s).take 32) := by
    unfold byteL
    rw [← List.map_take]
    congr 1
    show (li s).take (min s.size 32) = _
    rw [← li_len, List.take_eq_take_iff]
    omega
  simp [Builtin.copy_, run_underlying Try.underlying39, Builtin.lenOf, Builtin.firstCells, sizeOf, typeInfo, hi]
  rw [htk, hst]
  simp only [Nat.add_zero, Nat.zero_add, over_zero, Result.andThen_ok]
  rfl
theorem wp_call_fn2 {P : Program} {op : Oper} {a : Act} {w : World} {K : Act → World → Prop} {Q : Exit → Act → World → Prop} (f : FuncId) (x y : Tmp) (t u : TypeId) (ho : op.op = .call { callee := .value (.func f), args := #[.tmp x, .tmp y], argTypes := #[t, u] })
    (he : ∀ args w, (callFunc f args).run P w = .ok (.enter f args) w) (v1 v2 : Value) (hx : a.eval (.tmp x) = v1) (hy : a.eval (.tmp y) = v2)
    (h : Calls P f #[v1, v2] w fun e w' => ∃ r, e = .returned r ∧ K (a.put op.dst r) w') : op.wp P a w K Q := by
  have hx' : a.tmps[x]?.getD undef = v1 := by simpa [Act.eval] using hx
  have hy' : a.tmps[y]?.getD undef = v2 := by simpa [Act.eval] using hy
  unfold Oper.wp execOp
  simp [ho, resolve, invoke, he, hx', hy', go_sem]
  refine h.mono ?_
  rintro e w' ⟨r, rfl, hk⟩
  exact hk
theorem ent24 : ∀ args w, (callFunc 24 args).run Try.prog w = .ok (.enter 24 args) w := enters_of Try.func24 (by kernel_rfl) rfl
theorem ent32 : ∀ args w, (callFunc 32 args).run Try.prog w = .ok (.enter 32 args) w := enters_of Try.func32 (by kernel_rfl) rfl
theorem ent33 : ∀ args w, (callFunc 33 args).run Try.prog w = .ok (.enter 33 args) w := enters_of Try.func33 (by kernel_rfl) rfl
def fr18 (s : ByteArray) (z : Nat) (u : Value) (x3 x4 x9 x10 x11 x12 x13 x14 x15 x16 x17 x18 : Value) : Act :=
  { tmps := #[.string s, undef, .pointer (some ⟨z, 0, none⟩), x3, x4, .pointer (some ⟨z + 1, 0, none⟩), .slice (some ⟨z + 1, 0, none⟩) 32 32, .string s, u, x9, x10, x11, x12, x13, x14, x15, x16, x17, x18], defers := [] }
/-- What holds at each step of GetSum's return, in whatever order. -/
structure Gs (w : World) (z : Nat) (s : ByteArray) (d c2 : List UInt8) (r : ByteArray) (b : Bool) (l0 l1 l2 l3 l4 l5 l6 l7 l8 l9 l10 l11 l12 : Bool) (x3 x4 x9 x10 x11 x12 x13 x14 x15 x16 x17 x18 : Value) (v : World) : Prop where
  bel : Below w.heap.size w v
  src : v.heap[z + 1]? = some (.cells (row d) 28)
  res : v.heap[z]? = some (.cells (if l10 then row c2 else z28) 28)
  wz : w.heap.size ≤ z
  e0 : l0 = true → x9 = .agg (row d)
  e1 : l1 = true → x10 = .string s
  e2 : l2 = true → x11 = .agg (rdD d s true)
  e3 : l3 = true → x12 = .agg (row d)
  e4 : l4 = true → x13 = .string (mk d)
  e5 : l5 = true → x14 = .agg (rdD c2 r b)
  e6 : l6 = true → x15 = .tuple #[.agg (row c2), .string r, .bool b]
  e7 : l7 = true → x16 = .agg (row c2)
  e8 : l8 = true → x17 = .string r
  e9 : l9 = true → x18 = .bool b
  e11 : l11 = true → x3 = .string r
  e12 : l12 = true → x4 = .bool b
theorem Gs.past {w v v' : World} {z : Nat} {s : ByteArray} {d c2 : List UInt8} {r : ByteArray} {b : Bool} {l0 l1 l2 l3 l4 l5 l6 l7 l8 l9 l10 l11 l12 : Bool} {x3 x4 x9 x10 x11 x12 x13 x14 x15 x16 x17 x18 : Value} (T : Gs w z s d c2 r b l0 l1 l2 l3 l4 l5 l6 l7 l8 l9 l10 l11 l12 x3 x4 x9 x10 x11 x12 x13 x14 x15 x16 x17 x18 v) (hb : Below v.heap.size v v') : Gs w z s d c2 r b l0 l1 l2 l3 l4 l5 l6 l7 l8 l9 l10 l11 l12 x3 x4 x9 x10 x11 x12 x13 x14 x15 x16 x17 x18 v' :=
  { T with bel := below_on T.bel hb, src := (hb.block _ (lt_of_some T.src)).trans T.src, res := (hb.block _ (lt_of_some T.res)).trans T.res }
theorem getSum_region {ops : Array Oper} {Q : Exit → Act → World → Prop} {id : Nat} (w : World) (z : Nat) (s : ByteArray) (d c2 : List UInt8) (r : ByteArray) (b : Bool) (v : World) (u : Value) (hd : d.length = 32) (hc2 : c2.length = 32) (hwz : w.heap.size ≤ z) (hc : ∀ v, Calls Try.prog 32 #[.agg (rdD d s true), .string (mk d)] v fun e v' => e = .returned (.agg (rdD c2 r b)) ∧ Below v.heap.size v v')
    (o0 o1 o2 o3 o4 o5 o6 o7 o8 o9 o10 o11 o12 : Oper) (hsz : ops.size = 13) (h0 : ops[0]? = some o0) (h1 : ops[1]? = some o1) (h2 : ops[2]? = some o2) (h3 : ops[3]? = some o3) (h4 : ops[4]? = some o4) (h5 : ops[5]? = some o5) (h6 : ops[6]? = some o6) (h7 : ops[7]? = some o7) (h8 : ops[8]? = some o8) (h9 : ops[9]? = some o9) (h10 : ops[10]? = some o10) (h11 : ops[11]? = some o11) (h12 : ops[12]? = some o12)
    (p0 : o0.op = .load 28 (.tmp 5)) (p1 : o1.op = .move (.tmp 0)) (p2 : o2.op = .build 56 #[(0, .tmp 9), (1, .tmp 10), (2, .const (.bool true))]) (p3 : o3.op = .load 28 (.tmp 5)) (p4 : o4.op = .call { callee := .value (.func 24), args := #[.tmp 12], argTypes := #[28] }) (p5 : o5.op = .call { callee := .value (.func 32), args := #[.tmp 11, .tmp 13], argTypes := #[56, 9] }) (p6 : o6.op = .call { callee := .value (.func 33), args := #[.tmp 14], argTypes := #[56] }) (p7 : o7.op = .extract (.tmp 15) 0) (p8 : o8.op = .extract (.tmp 15) 1) (p9 : o9.op = .extract (.tmp 15) 2) (p10 : o10.op = .store 28 (.tmp 2) (.tmp 16)) (p11 : o11.op = .assign (.tmp 17)) (p12 : o12.op = .assign (.tmp 18))
    (d0 : o0.dst = some 9) (d1 : o1.dst = some 10) (d2 : o2.dst = some 11) (d3 : o3.dst = some 12) (d4 : o4.dst = some 13) (d5 : o5.dst = some 14) (d6 : o6.dst = some 15) (d7 : o7.dst = some 16) (d8 : o8.dst = some 17) (d9 : o9.dst = some 18) (d10 : o10.dst = none) (d11 : o11.dst = some 3) (d12 : o12.dst = some 4)
    (g0 : o0.guard = none) (g1 : o1.guard = none) (g2 : o2.guard = none) (g3 : o3.guard = none) (g4 : o4.guard = none) (g5 : o5.guard = none) (g6 : o6.guard = none) (g7 : o7.guard = none) (g8 : o8.guard = none) (g9 : o9.guard = none) (g10 : o10.guard = none) (g11 : o11.guard = none) (g12 : o12.guard = none)
    (e2_0 : edgeB ops 2 0 = true) (e2_1 : edgeB ops 2 1 = true) (e4_3 : edgeB ops 4 3 = true) (e5_2 : edgeB ops 5 2 = true) (e5_4 : edgeB ops 5 4 = true) (e6_5 : edgeB ops 6 5 = true) (e7_6 : edgeB ops 7 6 = true) (e8_6 : edgeB ops 8 6 = true) (e9_6 : edgeB ops 9 6 = true) (e10_7 : edgeB ops 10 7 = true) (e11_8 : edgeB ops 11 8 = true) (e12_9 : edgeB ops 12 9 = true)
    (n0 : onlyB ops 0 [] = true) (n1 : onlyB ops 1 [] = true) (n2 : onlyB ops 2 [0, 1] = true) (n3 : onlyB ops 3 [] = true) (n4 : onlyB ops 4 [3] = true) (n5 : onlyB ops 5 [2, 4] = true) (n6 : onlyB ops 6 [5] = true) (n7 : onlyB ops 7 [6] = true) (n8 : onlyB ops 8 [6] = true) (n9 : onlyB ops 9 [6] = true) (n10 : onlyB ops 10 [0, 1, 2, 3, 4, 5, 6, 7, 8, 9] = true) (n11 : onlyB ops 11 [0, 1, 2, 3, 4, 5, 6, 7, 8, 9, 10] = true) (n12 : onlyB ops 12 [0, 1, 2, 3, 4, 5, 6, 7, 8, 9, 10, 11] = true)
    (hbel : Below w.heap.size w v) (hsrc : v.heap[z + 1]? = some (.cells (row d) 28)) (hres : v.heap[z]? = some (.cells z28 28))
    (hQ : ∀ x9 x10 x11 x12 x13 x14 x15 x16 x17 x18 v', Below w.heap.size w v' → v'.heap[z]? = some (.cells (row c2) 28) → Q .normal (fr18 s z u (.string r) (.bool b) x9 x10 x11 x12 x13 x14 x15 x16 x17 x18) v') :
    (Code.region id ops true).wp Try.prog Q (fr18 s z u (.string ⟨#[]⟩) (.bool false) undef undef undef undef undef undef undef undef undef undef) v := by
  refine wp_region_any (by kernel_rfl) ?_
  rw [hsz]
  refine wpAny_inv (fun listed a v => ∃ l0 l1 l2 l3 l4 l5 l6 l7 l8 l9 l10 l11 l12 x3 x4 x9 x10 x11 x12 x13 x14 x15 x16 x17 x18, listed = #[l0, l1, l2, l3, l4, l5, l6, l7, l8, l9, l10, l11, l12] ∧ a = fr18 s z u x3 x4 x9 x10 x11 x12 x13 x14 x15 x16 x17 x18 ∧ Gs w z s d c2 r b l0 l1 l2 l3 l4 l5 l6 l7 l8 l9 l10 l11 l12 x3 x4 x9 x10 x11 x12 x13 x14 x15 x16 x17 x18 v) ?_ ?_ _ _ _ _ ?_ ?_
  · rintro listed a v ⟨l0, l1, l2, l3, l4, l5, l6, l7, l8, l9, l10, l11, l12, x3, x4, x9, x10, x11, x12, x13, x14, x15, x16, x17, x18, rfl, rfl, T⟩ i hi
    have hlt := ready_lt hi
    have hno := ready_not hi
    rw [hsz] at hlt
    obtain rfl | rfl | rfl | rfl | rfl | rfl | rfl | rfl | rfl | rfl | rfl | rfl | rfl : i = 0 ∨ i = 1 ∨ i = 2 ∨ i = 3 ∨ i = 4 ∨ i = 5 ∨ i = 6 ∨ i = 7 ∨ i = 8 ∨ i = 9 ∨ i = 10 ∨ i = 11 ∨ i = 12 := by omega
    · refine wpOp_plain h0 g0 (wp_load_row 28 _ p0 (z + 1) rfl 28 (row d) _ T.src Try.underlying28 rfl (info28' d hd) ?_)
      rw [d0]
      exact ⟨_, _, _, _, _, _, _, _, _, _, _, _, _, x3, x4, _, x10, x11, x12, x13, x14, x15, x16, x17, x18, rfl, rfl, { T with e0 := fun _ => rfl }⟩
    · refine wpOp_plain h1 g1 (wp_val (.string s) (by unfold execOp; simp only [p1]; rfl) ?_)
      rw [d1]
      exact ⟨_, _, _, _, _, _, _, _, _, _, _, _, _, x3, x4, x9, _, x11, x12, x13, x14, x15, x16, x17, x18, rfl, rfl, { T with e1 := fun _ => rfl }⟩
    · have k0 := T.e0 (ready_edge hi e2_0)
      have k1 := T.e1 (ready_edge hi e2_1)
      refine wpOp_plain h2 g2 (wp_val (.agg (rdD d s true)) (by unfold execOp; simp only [p2, List.map_toArray, List.map_cons, List.map_nil]; subst k0 k1; exact run_val (build56 d hd s true v)) ?_)
      rw [d2]
      exact ⟨_, _, _, _, _, _, _, _, _, _, _, _, _, x3, x4, x9, x10, _, x12, x13, x14, x15, x16, x17, x18, rfl, rfl, { T with e2 := fun _ => rfl }⟩
    · refine wpOp_plain h3 g3 (wp_load_row 28 _ p3 (z + 1) rfl 28 (row d) _ T.src Try.underlying28 rfl (info28' d hd) ?_)
      rw [d3]
      exact ⟨_, _, _, _, _, _, _, _, _, _, _, _, _, x3, x4, x9, x10, x11, _, x13, x14, x15, x16, x17, x18, rfl, rfl, { T with e3 := fun _ => rfl }⟩
    · have k3 := T.e3 (ready_edge hi e4_3)
      refine wpOp_plain h4 g4 (wp_call_fn 24 12 28 p4 ent24 _ k3 ((sum_any d hd v).mono ?_))
      rintro e v' ⟨rfl, hb⟩
      refine ⟨_, rfl, ?_⟩
      rw [d4]
      exact ⟨_, _, _, _, _, _, _, _, _, _, _, _, _, x3, x4, x9, x10, x11, x12, _, x14, x15, x16, x17, x18, rfl, rfl, { T.past hb with e4 := fun _ => rfl }⟩
    · have k2 := T.e2 (ready_edge hi e5_2)
      have k4 := T.e4 (ready_edge hi e5_4)
      refine wpOp_plain h5 g5 (wp_call_fn2 32 11 13 56 9 p5 ent32 _ _ k2 k4 ((hc v).mono ?_))
      rintro e v' ⟨rfl, hb⟩
      refine ⟨_, rfl, ?_⟩
      rw [d5]
      exact ⟨_, _, _, _, _, _, _, _, _, _, _, _, _, x3, x4, x9, x10, x11, x12, x13, _, x15, x16, x17, x18, rfl, rfl, { T.past hb with e5 := fun _ => rfl }⟩
    · have k5 := T.e5 (ready_edge hi e6_5)
      refine wpOp_plain h6 g6 (wp_call_fn 33 14 56 p6 ent33 _ k5 ((toldd_any c2 hc2 r b v).mono ?_))
      rintro e v' ⟨rfl, hb⟩
      refine ⟨_, rfl, ?_⟩
      rw [d6]
      exact ⟨_, _, _, _, _, _, _, _, _, _, _, _, _, x3, x4, x9, x10, x11, x12, x13, x14, _, x16, x17, x18, rfl, rfl, { T.past hb with e6 := fun _ => rfl }⟩
    · have k6 := T.e6 (ready_edge hi e7_6)
      refine wpOp_plain h7 g7 (wp_val (.agg (row c2)) (by unfold execOp; simp only [p7]; subst k6; rfl) ?_)
      rw [d7]
      exact ⟨_, _, _, _, _, _, _, _, _, _, _, _, _, x3, x4, x9, x10, x11, x12, x13, x14, x15, _, x17, x18, rfl, rfl, { T with e7 := fun _ => rfl }⟩
    · have k6 := T.e6 (ready_edge hi e8_6)
      refine wpOp_plain h8 g8 (wp_val (.string r) (by unfold execOp; simp only [p8]; subst k6; rfl) ?_)
      rw [d8]
      exact ⟨_, _, _, _, _, _, _, _, _, _, _, _, _, x3, x4, x9, x10, x11, x12, x13, x14, x15, x16, _, x18, rfl, rfl, { T with e8 := fun _ => rfl }⟩
    · have k6 := T.e6 (ready_edge hi e9_6)
      refine wpOp_plain h9 g9 (wp_val (.bool b) (by unfold execOp; simp only [p9]; subst k6; rfl) ?_)
      rw [d9]
      exact ⟨_, _, _, _, _, _, _, _, _, _, _, _, _, x3, x4, x9, x10, x11, x12, x13, x14, x15, x16, x17, _, rfl, rfl, { T with e9 := fun _ => rfl }⟩
    · have k10 : l10 = false := hno
      have k7 := T.e7 (ready_edge hi e10_7)
      have q := T.res
      rw [k10] at q
      refine wpOp_plain h10 g10 (wp_store_row 28 _ _ p10 z (row c2) rfl k7 28 z28 q (info28' c2 hc2) (by rw [row_size, hc2]; rfl) (row_one c2) ?_)
      rw [d10]
      refine ⟨_, _, _, _, _, _, _, _, _, _, _, _, _, x3, x4, x9, x10, x11, x12, x13, x14, x15, x16, x17, x18, rfl, rfl, { T with bel := below_setRow T.bel T.wz _, src := ?_, res := setRow_heap _ _ _ _ _ _ q }⟩
      rw [setRow_other _ _ _ _ (by omega)]; exact T.src
    · have k8 := T.e8 (ready_edge hi e11_8)
      refine wpOp_plain h11 g11 (wp_val (.string r) (by unfold execOp; simp only [p11]; subst k8; rfl) ?_)
      rw [d11]
      exact ⟨_, _, _, _, _, _, _, _, _, _, _, _, _, _, x4, x9, x10, x11, x12, x13, x14, x15, x16, x17, x18, rfl, rfl, { T with e11 := fun _ => rfl }⟩
    · have k9 := T.e9 (ready_edge hi e12_9)
      refine wpOp_plain h12 g12 (wp_val (.bool b) (by unfold execOp; simp only [p12]; subst k9; rfl) ?_)
      rw [d12]
      exact ⟨_, _, _, _, _, _, _, _, _, _, _, _, _, x3, _, x9, x10, x11, x12, x13, x14, x15, x16, x17, x18, rfl, rfl, { T with e12 := fun _ => rfl }⟩
  · rintro listed a v ⟨l0, l1, l2, l3, l4, l5, l6, l7, l8, l9, l10, l11, l12, x3, x4, x9, x10, x11, x12, x13, x14, x15, x16, x17, x18, rfl, rfl, T⟩ hr
    have k0 : l0 = true := done_of hr 0 _ n0 (by simp)
    have k1 : l1 = true := done_of hr 1 _ n1 (by simp)
    have k3 : l3 = true := done_of hr 3 _ n3 (by simp)
    have k2 : l2 = true := done_of hr 2 _ n2 (by simp [k0, k1])
    have k4 : l4 = true := done_of hr 4 _ n4 (by simp [k3])
    have k5 : l5 = true := done_of hr 5 _ n5 (by simp [k2, k4])
    have k6 : l6 = true := done_of hr 6 _ n6 (by simp [k5])
    have k7 : l7 = true := done_of hr 7 _ n7 (by simp [k6])
    have k8 : l8 = true := done_of hr 8 _ n8 (by simp [k6])
    have k9 : l9 = true := done_of hr 9 _ n9 (by simp [k6])
    have k10 : l10 = true := done_of hr 10 _ n10 (by simp [k0, k1, k2, k3, k4, k5, k6, k7, k8, k9])
    have k11 : l11 = true := done_of hr 11 _ n11 (by simp [k0, k1, k2, k3, k4, k5, k6, k7, k8, k9, k10])
    have k12 : l12 = true := done_of hr 12 _ n12 (by simp [k0, k1, k2, k3, k4, k5, k6, k7, k8, k9, k10, k11])
    have q := T.res
    rw [k10] at q
    rw [T.e11 k11, T.e12 k12]
    exact hQ _ _ _ _ _ _ _ _ _ _ v T.bel q
  · unfold todo; rw [hsz]; decide
  · refine ⟨false, false, false, false, false, false, false, false, false, false, false, false, false, .string ⟨#[]⟩, .bool false, undef, undef, undef, undef, undef, undef, undef, undef, undef, undef, rfl, rfl, ?_⟩
    exact { bel := hbel.drew, src := hsrc, res := hres, wz := hwz, e0 := nofun, e1 := nofun, e2 := nofun, e3 := nofun, e4 := nofun, e5 := nofun, e6 := nofun, e7 := nofun, e8 := nofun, e9 := nofun, e11 := nofun, e12 := nofun }
theorem dOf_prefix (s : ByteArray) (h : 32 ≤ s.size) : dOf s = (li s).take 32 := by
  unfold dOf; exact pz_full _ _ _ (by rw [List.length_take, li_len]; omega)
theorem dOf_none (s : ByteArray) (h : s.size < 32) : (dOf s).isPrefixOf (li s) = false := by
  rw [Bool.eq_false_iff]
  intro hp
  have := (List.isPrefixOf_iff_prefix.1 hp).length_le
  rw [dOf_len, li_len] at this
  omega
theorem sum_case (s : ByteArray) : ∃ c2 r b, c2.length = 32 ∧ sR (li s) = .tuple #[.agg (row c2), .string r, .bool b] ∧ ∀ v, Calls Try.prog 32 #[.agg (rdD (dOf s) s true), .string (mk (dOf s))] v fun e v' => e = .returned (.agg (rdD c2 r b)) ∧ Below v.heap.size v v' := by
  by_cases h : 32 ≤ s.size
  · refine ⟨dOf s, mk ((li s).drop 32), true, dOf_len s, ?_, fun v => pastd_hit _ (dOf_len s) _ _ _ ?_ v⟩
    · rw [sR_some (d := (li s).take 32) (r := (li s).drop 32) (by unfold gs; rw [if_pos (by rw [li_len]; exact h)]), dOf_prefix s h]
    · rw [li_mk', li_mk', dOf_prefix s h, List.take_append_drop]
  · refine ⟨List.replicate 32 0, em, false, by simp, ?_, fun v => pastd_miss _ (dOf_len s) _ _ ?_ v⟩
    · rw [sR_none (by unfold gs; rw [if_neg (by rw [li_len]; exact h)])]; rfl
    · rw [li_mk']; exact dOf_none s (by omega)
set_option maxHeartbeats 1000000 in
set_option maxRecDepth 100000 in
theorem getSum_any (s : ByteArray) (w : World) :
    Calls Try.prog 18 #[.string s] w fun e w' => e = .returned (sR (li s)) ∧ Below w.heap.size w w' := by
  have hz2 : ((w.alloc (.cells z28 28)).alloc (.cells z28 28)).heap[w.heap.size + 1]? = some (.cells z28 28) := by rw [heap_alloc_if, if_pos (by simp)]
  have hcp := run_copy32 _ _ s hz2
  obtain ⟨c2, r, b, hc2, hR, hc⟩ := sum_case s
  have H := Lib.hid (And.intro hc2 (And.intro hR hc))
  have hsr := Lib.hid (setRow_heap _ _ _ (row (dOf s)) _ _ hz2)
  clear hc2 hR hc
  go_enter Try.func18, Try.ntmps18
  go_wp2_with fail
  rw [z28_eq, hcp, Result.andThen_ok]
  go_wp2_with fail
  refine getSum_region w w.heap.size s (dOf s) c2 r b _ _ (dOf_len s) H.out.1 (Nat.le_refl _) H.out.2.2 _ _ _ _ _ _ _ _ _ _ _ _ _ rfl rfl rfl rfl rfl rfl rfl rfl rfl rfl rfl rfl rfl rfl rfl rfl rfl rfl rfl rfl rfl rfl rfl rfl rfl rfl rfl rfl rfl rfl rfl rfl rfl rfl rfl rfl rfl rfl rfl rfl rfl rfl rfl rfl rfl rfl rfl rfl rfl rfl rfl rfl rfl
    (by kernel_rfl) (by kernel_rfl) (by kernel_rfl) (by kernel_rfl) (by kernel_rfl) (by kernel_rfl) (by kernel_rfl) (by kernel_rfl) (by kernel_rfl) (by kernel_rfl) (by kernel_rfl) (by kernel_rfl) (by kernel_rfl) (by kernel_rfl) (by kernel_rfl) (by kernel_rfl) (by kernel_rfl) (by kernel_rfl) (by kernel_rfl) (by kernel_rfl) (by kernel_rfl) (by kernel_rfl) (by kernel_rfl) (by kernel_rfl) (by kernel_rfl)
    (below_setRow (((Below.refl _ _).alloc (Nat.le_refl _) _).alloc (by simp) _) (by simp) _) hsr.out (by rw [setRow_other _ _ _ _ (by omega)]; exact past_alloc (by rw [heap_alloc_if, if_pos rfl])) ?_
  intro x9 x10 x11 x12 x13 x14 x15 x16 x17 x18 v' hB hH
  unfold fr18
  go_wp2_with fail
  refine bodyPost_row3 2 3 4 28 rfl w.heap.size rfl (.string r) (.bool b) rfl rfl 28 (row c2) _ hH Try.underlying28 rfl (info28' c2 H.out.1) rfl ?_
  exact ⟨by rw [H.out.2.1], hB⟩
end Go.Proofs.Ytgaggncepknafaa
