/-
  The document's example, as the statements begin with it: works.
-/
import Derived.Test.YtjfgmkgcdkocgaaHold
import Derived.Test.YtjfgmkgcdkocgaaDue
import Derived.Test.YtjfgmkgcdkocgaaQuiet
namespace Go.Proofs.Ytjfgmkgcdkocgaa
open Go Go.RowKit

def X : ByteArray := ⟨#[120]⟩
def em : ByteArray := ⟨#[]⟩
def fw1 : Fl := ⟨1, em, em, false, 0, none, 0, 0⟩
def fw5 : Fl := ⟨2, em, em, false, 0, none, 0, 0⟩
def fw2 (a : Option Addr) (c : Nat) : Fl := ⟨1, em, em, true, 9, a, 0, c⟩
def fw3 (a : Option Addr) (c : Nat) : Fl := ⟨1, em, em, true, 9, a, 1, c⟩
def fw4 (a : Option Addr) (c : Nat) : Fl := ⟨1, em, em, true, 10, a, 0, c⟩

theorem seal_w (v : World) : Calls Try.prog 19 #[.agg (flr fw1), .int .i64 9] v fun e v' => ∃ a c, e = .returned (.tuple #[.agg (flr (fw2 a c)), .int .i64 0]) ∧ Below v.heap.size v v' := by
  refine (seal_any fw1 9 [] v (.inl rfl) rfl (by simp)).mono ?_
  rintro e v' ⟨a, c, rfl, _, hb⟩
  exact ⟨a, c, rfl, hb⟩
theorem vd_X : vdB X = true := by decide +kernel
theorem hold_w (a : Option Addr) (c : Nat) (v : World) : Calls Try.prog 21 #[.agg (flr (fw2 a c)), .string X] v fun e v' => ∃ a c, e = .returned (.tuple #[.agg (flr (fw3 a c)), .int .i64 0]) ∧ StrAt v'.heap.size v' a [X] ∧ Below v.heap.size v v' := by
  have e1 : hldC true X [] = 0 := by unfold hldC; rw [vd_X]; rfl
  have e2 : hldL true X [] = [X] := by unfold hldL; rw [e1]; rfl
  refine (hold_any (fw2 a c) X [] v (.inl rfl) rfl (by simp) (by simp) (by decide)).mono ?_
  show ∀ e v', Res (fw2 a c) (hldC true X []) (hldL true X []) v e v' → _
  rw [e1, e2]
  rintro e v' ⟨a, c, rfl, hs, hb⟩
  exact ⟨a, c, rfl, hs.str, hb⟩
theorem idx_X : Lib.idxOfS [X] X = 0 := by
  have := Lib.idxOfS_hit [X] 1 0 X (by decide) (by decide) rfl (fun j hj => by omega)
  simpa using this
theorem rel_w (a : Option Addr) (c : Nat) (v : World) (h : StrAt v.heap.size v a [X]) : Calls Try.prog 22 #[.agg (flr (fw3 a c)), .string X] v fun e v' => ∃ a c, e = .returned (.tuple #[.agg (flr (fw2 a c)), .int .i64 0]) ∧ Below v.heap.size v v' := by
  have e1 : rlC X [X] = 0 := by unfold rlC; rw [idx_X]; rfl
  have e2 : rmv X [X] = [] := by unfold rmv; rw [idx_X]; rfl
  refine (release_any (fw3 a c) X [X] v h rfl (by simp)).mono ?_
  rw [e1, e2]
  rintro e v' ⟨a, c, rfl, _, hb⟩
  exact ⟨a, c, rfl, hb⟩
theorem ext_w (a : Option Addr) (c : Nat) (v : World) : Calls Try.prog 20 #[.agg (flr (fw2 a c)), .int .i64 10] v fun e v' => ∃ a c, e = .returned (.tuple #[.agg (flr (fw4 a c)), .int .i64 0]) ∧ Below v.heap.size v v' := by
  refine (extend_any (fw2 a c) 10 [] v (.inl rfl) rfl (by simp)).mono ?_
  rintro e v' ⟨a, c, rfl, _, hb⟩
  exact ⟨a, c, rfl, hb⟩
theorem two_files {g : Nat} {v : World} {f1 f2 : Fl} (h : v.heap[g]? = some (.cells (flr f1 ++ flr f2) 27)) : FilesAt v.heap.size v (some ⟨g, 0, none⟩) [f1, f2] := by
  refine .inr ⟨g, 0, rfl, lt_of_some h, fun k hk j x hx => ?_⟩
  rw [cell_of_row v g _ _ _ _ h]
  have hx' : (flr [f1, f2][k])[j]? = some x := by simpa using hx
  have hj : j < 6 := by
    have := (Array.getElem?_eq_some_iff.1 hx').1
    simpa [flr] using this
  match k, hk with
  | 0, _ =>
    rw [Array.getElem?_append_left (by rw [flr_size]; omega)]
    simpa using hx'
  | 1, _ =>
    rw [Array.getElem?_append_right (by simp [flr])]
    have e : 0 + 1 * 6 + j - (flr f1).size = j := by rw [flr_size]; omega
    rw [e]; exact hx'
theorem due_w (a : Option Addr) (c : Nat) (g : Nat) (v : World) (h : v.heap[g]? = some (.cells (flr (fw2 a c) ++ flr fw5) 27)) :
    Calls Try.prog 15 #[.slice (some ⟨g, 0, none⟩) 2 2, .int .i64 9] v fun e v' => ∃ g' c', e = .returned (.slice (some ⟨g', 0, none⟩) 1 c') ∧ v'.cell? ⟨g', 0, none⟩ = some (.int .i64 1) ∧ Below v.heap.size v v' := by
  have e1 : dueL [fw2 a c, fw5] 9 = [1] := rfl
  refine (due_any [fw2 a c, fw5] 9 (by simp) (some ⟨g, 0, none⟩) 2 v (two_files h)).mono ?_
  rw [e1]
  rintro e v' ⟨u, rfl, ho, hb⟩
  rcases ho.2 with ⟨_, h0⟩ | ⟨g', cap, cur, rfl, _, h3, h4, _, h6, h7⟩
  · cases h0
  · refine ⟨g', cap, rfl, ?_, hb⟩
    rw [cell_of_row v' g' _ _ _ _ h3, ← Array.getElem?_toList]
    have h8 : (cur.toList.take (1 * 1))[0]? = (ids [1])[0]? := by
      have : (cur.toList.take ([(1 : Int)].length * 1)) = ids [1] := h7
      rw [← this]; rfl
    rw [List.getElem?_take_of_lt (by decide)] at h8
    rw [h8]; rfl
theorem build_w1 (v : World) : (Instr.build 27 #[(0, .int .i64 1)]).run Try.prog v = .ok (.agg (flr fw1)) v := run_build v 27 _ _ (by kernel_rfl)
theorem build_w5 (v : World) : (Instr.build 27 #[(0, .int .i64 2)]).run Try.prog v = .ok (.agg (flr fw5)) v := run_build v 27 _ _ (by kernel_rfl)
theorem fill_two (f g : Fl) : Instr.fill (fun i => some (i * 6, 6)) ((Array.range (2 * 6)).map ((flr fl0)[· % (flr fl0).size]!)) [(0, .agg (flr f)), (1, .agg (flr g))] = some (flr f ++ flr g) := by
  obtain ⟨i, nm, da, se, un, ha, n, hc⟩ := f
  obtain ⟨i', nm', da', se', un', ha', n', hc'⟩ := g
  kernel_rfl
theorem build_two (f g : Fl) (w : World) : (Instr.buildSlice 22 2 #[(0, .agg (flr f)), (1, .agg (flr g))]).run Try.prog w = .ok (.slice (some ⟨w.heap.size, 0, none⟩) 2 2) (w.alloc (.cells (flr f ++ flr g) 27)) := by
  have hf := fill_two f g
  have h1 : (sizeOf 27).run Try.prog w = .ok 6 w := Try.sizeOf27 w
  unfold Instr.buildSlice
  simp only [Sem.run_bind, run_underlying Try.underlying22, Result.andThen_ok, h1]
  simp only [show ¬ (2 * 6 > 2 ^ 24) by decide, show ¬ (2 * 6 = 0) by decide, if_false, Sem.run_bind, Sem.run_pure, Result.andThen_ok, zero27, Value.cells]
  rw [hf]
  simp [newRow, go_sem]
section
variable {P : Program} {ops : Array Oper} {rest : List Oper} {o : Oper} {a : Act} {w : World} {Q : Exit → Act → World → Prop}
theorem wpList_exec (hg : o.guard = none) (v : Value) (w' : World) (hv : (execOp a.eval o).run P w = .ok (.value v) w') (h : wpList P ops Q rest (a.put o.dst v) w') : wpList P ops Q (o :: rest) a w :=
  wpList_plain hg fun _ hK => by
    unfold Oper.wp
    rw [hv]
    exact hK _ _ h
theorem wpList_bld (hg : o.guard = none) (t : TypeId) (i : Nat) (x : Operand) (ho : o.op = .build t #[(i, x)]) (u v : Value) (hx : a.eval x = u) (hv : ∀ w, (Instr.build t #[(i, u)]).run P w = .ok v w)
    (h : wpList P ops Q rest (a.put o.dst v) w) : wpList P ops Q (o :: rest) a w :=
  wpList_exec hg v w (by
    unfold execOp
    simp only [ho, List.map_toArray, List.map_cons, List.map_nil, hx, Sem.run_bind, hv, Result.andThen_ok, Sem.run_pure]) h
theorem wpList_two (hg : o.guard = none) (t : TypeId) (x y : Operand) (ho : o.op = .buildSlice t 2 #[(0, x), (1, y)]) (u1 u2 v : Value) (hx : a.eval x = u1) (hy : a.eval y = u2) (w' : World) (hv : (Instr.buildSlice t 2 #[(0, u1), (1, u2)]).run P w = .ok v w')
    (h : wpList P ops Q rest (a.put o.dst v) w') : wpList P ops Q (o :: rest) a w :=
  wpList_exec hg v w' (by
    unfold execOp
    simp only [ho, List.map_toArray, List.map_cons, List.map_nil, hx, hy, Sem.run_bind, hv, Result.andThen_ok, Sem.run_pure]) h
end
/-- A file that is laid in a variable of its own. -/
theorem KW.lay {B : Nat} {w v : World} {L : List (Nat × Obj)} (h : KW B w L v) (f g : Fl) : KW B w ((v.heap.size, .cells (flr g) 27) :: L) ((v.alloc (.cells (flr f) 27)).setRow v.heap.size (flr g)) :=
  (h.new (.cells (flr f) 27)).row 0 rfl h.size (flr g)
theorem lay_below (v : World) (f g : Fl) : Below v.heap.size v ((v.alloc (.cells (flr f) 27)).setRow v.heap.size (flr g)) := below_setRow ((Below.refl _ _).alloc (Nat.le_refl _) _) (Nat.le_refl _) _

theorem set_w1 : (flr fl0).setIfInBounds 0 (.int .i64 1) = flr fw1 := by simp [flr, fl0, fw1, em]
theorem set_w5 : (flr fl0).setIfInBounds 0 (.int .i64 2) = flr fw5 := by simp [flr, fl0, fw5, em]
theorem ent13 : ∀ args w, (callFunc 13 args).run Try.prog w = .ok (.enter 13 args) w := enters_of Try.func13 (by kernel_rfl) rfl
theorem ent17 : ∀ args w, (callFunc 17 args).run Try.prog w = .ok (.enter 17 args) w := enters_of Try.func17 (by kernel_rfl) rfl
theorem index32 (g c : Nat) (v : World) : (Instr.indexAt 32 (.slice (some ⟨g, 0, none⟩) 1 c) (.int .i64 0)).run Try.prog v = .ok (.pointer (some ⟨g, 0, none⟩)) v := by
  have := run_indexAt_slice (P := Try.prog) v 32 ⟨g, 0, none⟩ 1 c .i64 0 (by kernel_rfl)
  rw [this]
  have e1 : Try.prog.elem 32 = 3 := by kernel_rfl
  simp [e1, Try.sizeOf3, Addr.add]
set_option maxRecDepth 100000 in
set_option maxHeartbeats 1000000 in
theorem works_any (w : World) : Calls Try.prog 9 #[] w fun e w' => e = .returned (.bool true) ∧ Below w.heap.size w w' := by
  have hz := zero27
  go_enter Try.func9, Try.ntmps9
  refine wp_seq_hid (fun K0 H0 => ?_)
  go_wp2_with fail
  refine H0.out _ _ ?_
  clear H0
  refine wp_seq_hid (fun K1 H1 => ?_)
  go_wp2_with fail
  rw [set_w1]
  refine (seal_w _).mono ?_
  rintro e v1 ⟨a1, c1, rfl, hb1⟩
  have P1 := Lib.hid ((KW.start w).past hb1)
  have q1 : Hid ((v1.alloc (.cells (flr fl0) 27)).heap[v1.heap.size]? = some (.cells (flr fl0) 27)) := Lib.hid (by rw [heap_alloc_if, if_pos rfl])
  have K1w := Lib.hid (P1.out.lay fl0 (fw2 a1 c1))
  clear hb1 P1
  go_wp2_with (with_reducible refine wpList_store_row rfl 27 (.tmp 1) (.tmp 13) rfl _ (flr (fw2 a1 c1)) rfl rfl 27 _ q1.out (row27 _) (flr_same _ _) (flr_one _) ?_)
  refine H1.out _ _ ?_
  clear H1
  clear q1
  generalize (v1.alloc (.cells (flr fl0) 27)).setRow v1.heap.size (flr (fw2 a1 c1)) = W1 at *
  generalize v1.heap.size = b1 at *
  have g2 : Hid (_ = some (Obj.cells (flr (fw2 a1 c1)) 27)) := Lib.hid (K1w.out.at 0 rfl)
  refine wp_seq_hid (fun K2 H2 => ?_)
  go_wp2_with (with_reducible refine wpList_load_row rfl 27 (.tmp 1) rfl _ rfl 27 _ _ g2.out Try.underlying27 rfl (row27 _) ?_)
  refine (hold_w a1 c1 _).mono ?_
  rintro e v2 ⟨a3, c3, rfl, hs2, hb2⟩
  have P2 := Lib.hid (K1w.out.past hb2)
  have q2 : Hid ((v2.alloc (.cells (flr fl0) 27)).heap[v2.heap.size]? = some (.cells (flr fl0) 27)) := Lib.hid (by rw [heap_alloc_if, if_pos rfl])
  have K2w := Lib.hid (P2.out.lay fl0 (fw3 a3 c3))
  have hS2 := Lib.hid (hs2.on (lay_below v2 fl0 (fw3 a3 c3)))
  clear hb2 P2 hs2 K1w
  go_wp2_with (with_reducible refine wpList_store_row rfl 27 (.tmp 3) (.tmp 18) rfl _ (flr (fw3 a3 c3)) rfl rfl 27 _ q2.out (row27 _) (flr_same _ _) (flr_one _) ?_)
  refine H2.out _ _ ?_
  clear H2
  clear q2
  generalize (v2.alloc (.cells (flr fl0) 27)).setRow v2.heap.size (flr (fw3 a3 c3)) = W2 at *
  generalize v2.heap.size = b3 at *
  have g3 : Hid (_ = some (Obj.cells (flr (fw3 a3 c3)) 27)) := Lib.hid (K2w.out.at 0 rfl)
  refine wp_seq_hid (fun K3 H3 => ?_)
  go_wp2_with (with_reducible refine wpList_load_row rfl 27 (.tmp 3) rfl _ rfl 27 _ _ g3.out Try.underlying27 rfl (row27 _) ?_)
  refine (rel_w a3 c3 _ hS2.out).mono ?_
  rintro e v3 ⟨a5, c5, rfl, hb3⟩
  have P3 := Lib.hid (K2w.out.past hb3)
  have q3 : Hid ((v3.alloc (.cells (flr fl0) 27)).heap[v3.heap.size]? = some (.cells (flr fl0) 27)) := Lib.hid (by rw [heap_alloc_if, if_pos rfl])
  have K3w := Lib.hid (P3.out.lay fl0 (fw2 a5 c5))
  clear hb3 P3 K2w
  go_wp2_with (with_reducible refine wpList_store_row rfl 27 (.tmp 5) (.tmp 23) rfl _ (flr (fw2 a5 c5)) rfl rfl 27 _ q3.out (row27 _) (flr_same _ _) (flr_one _) ?_)
  refine H3.out _ _ ?_
  clear H3
  clear q3
  generalize (v3.alloc (.cells (flr fl0) 27)).setRow v3.heap.size (flr (fw2 a5 c5)) = W3 at *
  generalize v3.heap.size = b5 at *
  have g4 : Hid (_ = some (Obj.cells (flr (fw2 a1 c1)) 27)) := Lib.hid (K3w.out.at 2 rfl)
  refine wp_seq_hid (fun K4 H4 => ?_)
  go_wp2_with (with_reducible refine wpList_load_row rfl 27 (.tmp 1) rfl _ rfl 27 _ _ g4.out Try.underlying27 rfl (row27 _) ?_)
  refine (ext_w a1 c1 _).mono ?_
  rintro e v4 ⟨a7, c7, rfl, hb4⟩
  have P4 := Lib.hid (K3w.out.past hb4)
  have q4 : Hid ((v4.alloc (.cells (flr fl0) 27)).heap[v4.heap.size]? = some (.cells (flr fl0) 27)) := Lib.hid (by rw [heap_alloc_if, if_pos rfl])
  have K4w := Lib.hid (P4.out.lay fl0 (fw4 a7 c7))
  clear hb4 P4 K3w
  go_wp2_with (with_reducible refine wpList_store_row rfl 27 (.tmp 7) (.tmp 28) rfl _ (flr (fw4 a7 c7)) rfl rfl 27 _ q4.out (row27 _) (flr_same _ _) (flr_one _) ?_)
  refine H4.out _ _ ?_
  clear H4
  clear q4
  generalize (v4.alloc (.cells (flr fl0) 27)).setRow v4.heap.size (flr (fw4 a7 c7)) = W4 at *
  generalize v4.heap.size = b7 at *
  have g5 : Hid (_ = some (Obj.cells (flr (fw2 a1 c1)) 27)) := Lib.hid (K4w.out.at 3 rfl)
  refine wp_seq_hid (fun K5 H5 => ?_)
  have K5n := Lib.hid (K4w.out.new (.cells (flr (fw2 a1 c1) ++ flr fw5) 27))
  have B5 : Hid ((Instr.buildSlice 22 2 #[(0, .agg (flr (fw2 a1 c1))), (1, .agg ((flr fl0).setIfInBounds 0 (.int .i64 2)))]).run Try.prog W4 = .ok (.slice (some ⟨W4.heap.size, 0, none⟩) 2 2) (W4.alloc (.cells (flr (fw2 a1 c1) ++ flr fw5) 27))) := Lib.hid (by rw [set_w5]; exact build_two _ _ _)
  have cD := Lib.hid (due_w a1 c1 W4.heap.size _ (K5n.out.at 0 rfl))
  go_wp2_with (first
    | (with_reducible refine wpList_load_row rfl 27 (.tmp 1) rfl _ rfl 27 _ _ g5.out Try.underlying27 rfl (row27 _) ?_)
    | (with_reducible refine wpList_two rfl 22 (.tmp 30) (.tmp 31) rfl (.agg (flr (fw2 a1 c1))) (.agg ((flr fl0).setIfInBounds 0 (.int .i64 2))) (.slice (some ⟨W4.heap.size, 0, none⟩) 2 2) rfl rfl (W4.alloc (.cells (flr (fw2 a1 c1) ++ flr fw5) 27)) B5.out ?_))
  refine cD.out.mono ?_
  rintro e v5 ⟨g9, c9, rfl, hq9, hb5⟩
  have K5 := Lib.hid (K5n.out.past hb5).drop
  have hq9' := Lib.hid hq9
  clear hb5 hq9 cD K5n K4w
  go_wp2_with fail
  refine H5.out _ _ ?_
  clear H5
  have C6 : Hid (KW w.heap.size w [(b7, .cells (flr (fw4 a7 c7)) 27), (b5, .cells (flr (fw2 a5 c5)) 27), (b3, .cells (flr (fw3 a3 c3)) 27), (b1, .cells (flr (fw2 a1 c1)) 27)] v5 ∧ v5.cell? ⟨g9, 0, none⟩ = some (.int .i64 1)) := Lib.hid ⟨K5.out, hq9'.out⟩
  have keep : Hid (∀ v v', (KW w.heap.size w [(b7, .cells (flr (fw4 a7 c7)) 27), (b5, .cells (flr (fw2 a5 c5)) 27), (b3, .cells (flr (fw3 a3 c3)) 27), (b1, .cells (flr (fw2 a1 c1)) 27)] v ∧ v.cell? ⟨g9, 0, none⟩ = some (.int .i64 1)) → Below v.heap.size v v' → (KW w.heap.size w [(b7, .cells (flr (fw4 a7 c7)) 27), (b5, .cells (flr (fw2 a5 c5)) 27), (b3, .cells (flr (fw3 a3 c3)) 27), (b1, .cells (flr (fw2 a1 c1)) 27)] v' ∧ v'.cell? ⟨g9, 0, none⟩ = some (.int .i64 1))) := Lib.hid (fun v v' h hb => ⟨h.1.past hb, (hb.cell (p := ⟨g9, 0, none⟩) (block_lt_of_cell h.2)).trans h.2⟩)
  clear K5 hq9' hz
  refine wp_seq_hid (fun K6 H6 => ?_)
  refine wp_region_still (l := _) (fun v => KW w.heap.size w [(b7, .cells (flr (fw4 a7 c7)) 27), (b5, .cells (flr (fw2 a5 c5)) 27), (b3, .cells (flr (fw3 a3 c3)) 27), (b1, .cells (flr (fw2 a1 c1)) 27)] v ∧ v.cell? ⟨g9, 0, none⟩ = some (.int .i64 1)) C6.out ?_
  refine wpQuiet_move (by rfl) _ (.inl rfl) (.int .i64 0) rfl ?_
  simp only [Act.put, List.setIfInBounds_toArray, List.set_cons_zero, List.set_cons_succ]
  refine wpQuiet_ieq (by rfl) _ _ _ _ rfl .i64 _ _ rfl rfl true rfl ?_
  simp only [Act.put, List.setIfInBounds_toArray, List.set_cons_zero, List.set_cons_succ]
  refine wpQuiet_move (by rfl) _ (.inl rfl) (.bool true) rfl ?_
  simp only [Act.put, List.setIfInBounds_toArray, List.set_cons_zero, List.set_cons_succ]
  refine wpQuiet_move (by rfl) _ (.inl rfl) (.int .i64 0) rfl ?_
  simp only [Act.put, List.setIfInBounds_toArray, List.set_cons_zero, List.set_cons_succ]
  refine wpQuiet_ieq (by rfl) _ _ _ _ rfl .i64 _ _ rfl rfl true rfl ?_
  simp only [Act.put, List.setIfInBounds_toArray, List.set_cons_zero, List.set_cons_succ]
  refine wpQuiet_pick (by rfl) _ _ _ rfl true rfl (.bool true) rfl ?_
  simp only [Act.put, List.setIfInBounds_toArray, List.set_cons_zero, List.set_cons_succ]
  refine wpQuiet_move (by rfl) _ (.inl rfl) (.bool true) rfl ?_
  simp only [Act.put, List.setIfInBounds_toArray, List.set_cons_zero, List.set_cons_succ]
  refine wpQuiet_move (by rfl) _ (.inl rfl) (.int .i64 0) rfl ?_
  simp only [Act.put, List.setIfInBounds_toArray, List.set_cons_zero, List.set_cons_succ]
  refine wpQuiet_ieq (by rfl) _ _ _ _ rfl .i64 _ _ rfl rfl true rfl ?_
  simp only [Act.put, List.setIfInBounds_toArray, List.set_cons_zero, List.set_cons_succ]
  refine wpQuiet_pick (by rfl) _ _ _ rfl true rfl (.bool true) rfl ?_
  simp only [Act.put, List.setIfInBounds_toArray, List.set_cons_zero, List.set_cons_succ]
  refine wpQuiet_move (by rfl) _ (.inl rfl) (.bool true) rfl ?_
  simp only [Act.put, List.setIfInBounds_toArray, List.set_cons_zero, List.set_cons_succ]
  refine wpQuiet_move (by rfl) _ (.inl rfl) (.int .i64 0) rfl ?_
  simp only [Act.put, List.setIfInBounds_toArray, List.set_cons_zero, List.set_cons_succ]
  refine wpQuiet_ieq (by rfl) _ _ _ _ rfl .i64 _ _ rfl rfl true rfl ?_
  simp only [Act.put, List.setIfInBounds_toArray, List.set_cons_zero, List.set_cons_succ]
  refine wpQuiet_pick (by rfl) _ _ _ rfl true rfl (.bool true) rfl ?_
  simp only [Act.put, List.setIfInBounds_toArray, List.set_cons_zero, List.set_cons_succ]
  refine wpQuiet_move (by rfl) _ (.inl rfl) (.bool true) rfl ?_
  simp only [Act.put, List.setIfInBounds_toArray, List.set_cons_zero, List.set_cons_succ]
  refine wpQuiet_field (by rfl) 4 _ rfl b7 rfl (by decide) ?_
  simp only [Act.put, List.setIfInBounds_toArray, List.set_cons_zero, List.set_cons_succ]
  refine wpQuiet_cell (by rfl) 3 _ rfl b7 4 rfl Try.isAgg3 (.int .i64 10) (fun _ h => h.1.cell 0 rfl 4 rfl) ?_
  simp only [Act.put, List.setIfInBounds_toArray, List.set_cons_zero, List.set_cons_succ]
  refine wpQuiet_ieq (by rfl) _ _ _ _ rfl .i64 _ _ rfl rfl true rfl ?_
  simp only [Act.put, List.setIfInBounds_toArray, List.set_cons_zero, List.set_cons_succ]
  refine wpQuiet_pick (by rfl) _ _ _ rfl true rfl (.bool true) rfl ?_
  simp only [Act.put, List.setIfInBounds_toArray, List.set_cons_zero, List.set_cons_succ]
  refine wpQuiet_move (by rfl) _ (.inl rfl) (.bool true) rfl ?_
  simp only [Act.put, List.setIfInBounds_toArray, List.set_cons_zero, List.set_cons_succ]
  refine wpQuiet_field (by rfl) 5 _ rfl b5 rfl (by decide) ?_
  simp only [Act.put, List.setIfInBounds_toArray, List.set_cons_zero, List.set_cons_succ]
  refine wpQuiet_cell (by rfl) 25 _ rfl b5 5 rfl Try.isAgg25 (.slice a5 0 c5) (fun _ h => h.1.cell 1 rfl 5 rfl) ?_
  simp only [Act.put, List.setIfInBounds_toArray, List.set_cons_zero, List.set_cons_succ]
  refine wpQuiet_slen (by rfl) 25 9 _ rfl a5 0 c5 rfl Try.underlying25 ?_
  simp only [Act.put, List.setIfInBounds_toArray, List.set_cons_zero, List.set_cons_succ]
  refine wpQuiet_ieq (by rfl) _ _ _ _ rfl .i64 _ _ rfl rfl true rfl ?_
  simp only [Act.put, List.setIfInBounds_toArray, List.set_cons_zero, List.set_cons_succ]
  refine wpQuiet_pick (by rfl) _ _ _ rfl true rfl (.bool true) rfl ?_
  simp only [Act.put, List.setIfInBounds_toArray, List.set_cons_zero, List.set_cons_succ]
  refine wpQuiet_move (by rfl) _ (.inl rfl) (.bool true) rfl ?_
  simp only [Act.put, List.setIfInBounds_toArray, List.set_cons_zero, List.set_cons_succ]
  refine wpQuiet_load (by rfl) 27 (.tmp 1) rfl _ rfl 27 (flr (fw2 a1 c1)) _ (fun _ h => h.1.at 3 rfl) Try.underlying27 rfl (row27 _) ?_
  simp only [Act.put, List.setIfInBounds_toArray, List.set_cons_zero, List.set_cons_succ]
  refine wpQuiet_call2 (by rfl) 12 (.tmp 60) (.const (.int .i64 8)) _ rfl ent12 (.agg (flr (fw2 a1 c1))) (.int .i64 8) rfl rfl (.int .i64 8) (fun v h => (may_any (fw2 a1 c1) 8 v).mono fun _ _ k => ⟨k.1, keep.out _ _ h k.2⟩) ?_
  simp only [Act.put, List.setIfInBounds_toArray, List.set_cons_zero, List.set_cons_succ]
  refine wpQuiet_ieq (by rfl) _ _ _ _ rfl .i64 _ _ rfl rfl true rfl ?_
  simp only [Act.put, List.setIfInBounds_toArray, List.set_cons_zero, List.set_cons_succ]
  refine wpQuiet_pick (by rfl) _ _ _ rfl true rfl (.bool true) rfl ?_
  simp only [Act.put, List.setIfInBounds_toArray, List.set_cons_zero, List.set_cons_succ]
  refine wpQuiet_move (by rfl) _ (.inl rfl) (.bool true) rfl ?_
  simp only [Act.put, List.setIfInBounds_toArray, List.set_cons_zero, List.set_cons_succ]
  refine wpQuiet_load (by rfl) 27 (.tmp 1) rfl _ rfl 27 (flr (fw2 a1 c1)) _ (fun _ h => h.1.at 3 rfl) Try.underlying27 rfl (row27 _) ?_
  simp only [Act.put, List.setIfInBounds_toArray, List.set_cons_zero, List.set_cons_succ]
  refine wpQuiet_call2 (by rfl) 12 (.tmp 65) (.const (.int .i64 9)) _ rfl ent12 (.agg (flr (fw2 a1 c1))) (.int .i64 9) rfl rfl (.int .i64 0) (fun v h => (may_any (fw2 a1 c1) 9 v).mono fun _ _ k => ⟨k.1, keep.out _ _ h k.2⟩) ?_
  simp only [Act.put, List.setIfInBounds_toArray, List.set_cons_zero, List.set_cons_succ]
  refine wpQuiet_ieq (by rfl) _ _ _ _ rfl .i64 _ _ rfl rfl true rfl ?_
  simp only [Act.put, List.setIfInBounds_toArray, List.set_cons_zero, List.set_cons_succ]
  refine wpQuiet_pick (by rfl) _ _ _ rfl true rfl (.bool true) rfl ?_
  simp only [Act.put, List.setIfInBounds_toArray, List.set_cons_zero, List.set_cons_succ]
  refine wpQuiet_move (by rfl) _ (.inl rfl) (.bool true) rfl ?_
  simp only [Act.put, List.setIfInBounds_toArray, List.set_cons_zero, List.set_cons_succ]
  refine wpQuiet_load (by rfl) 27 (.tmp 3) rfl _ rfl 27 (flr (fw3 a3 c3)) _ (fun _ h => h.1.at 2 rfl) Try.underlying27 rfl (row27 _) ?_
  simp only [Act.put, List.setIfInBounds_toArray, List.set_cons_zero, List.set_cons_succ]
  refine wpQuiet_call2 (by rfl) 12 (.tmp 70) (.const (.int .i64 9)) _ rfl ent12 (.agg (flr (fw3 a3 c3))) (.int .i64 9) rfl rfl (.int .i64 9) (fun v h => (may_any (fw3 a3 c3) 9 v).mono fun _ _ k => ⟨k.1, keep.out _ _ h k.2⟩) ?_
  simp only [Act.put, List.setIfInBounds_toArray, List.set_cons_zero, List.set_cons_succ]
  refine wpQuiet_ieq (by rfl) _ _ _ _ rfl .i64 _ _ rfl rfl true rfl ?_
  simp only [Act.put, List.setIfInBounds_toArray, List.set_cons_zero, List.set_cons_succ]
  refine wpQuiet_pick (by rfl) _ _ _ rfl true rfl (.bool true) rfl ?_
  simp only [Act.put, List.setIfInBounds_toArray, List.set_cons_zero, List.set_cons_succ]
  refine wpQuiet_move (by rfl) _ (.inl rfl) (.bool true) rfl ?_
  simp only [Act.put, List.setIfInBounds_toArray, List.set_cons_zero, List.set_cons_succ]
  refine wpQuiet_load (by rfl) 27 (.tmp 3) rfl _ rfl 27 (flr (fw3 a3 c3)) _ (fun _ h => h.1.at 2 rfl) Try.underlying27 rfl (row27 _) ?_
  simp only [Act.put, List.setIfInBounds_toArray, List.set_cons_zero, List.set_cons_succ]
  refine wpQuiet_call2 (by rfl) 13 (.tmp 75) (.const (.int .i64 9)) _ rfl ent13 (.agg (flr (fw3 a3 c3))) (.int .i64 9) rfl rfl (.bool true) (fun v h => (kept_any (fw3 a3 c3) 9 v).mono fun _ _ k => ⟨k.1, keep.out _ _ h k.2⟩) ?_
  simp only [Act.put, List.setIfInBounds_toArray, List.set_cons_zero, List.set_cons_succ]
  refine wpQuiet_pick (by rfl) _ _ _ rfl true rfl (.bool true) rfl ?_
  simp only [Act.put, List.setIfInBounds_toArray, List.set_cons_zero, List.set_cons_succ]
  refine wpQuiet_move (by rfl) _ (.inl rfl) (.bool true) rfl ?_
  simp only [Act.put, List.setIfInBounds_toArray, List.set_cons_zero, List.set_cons_succ]
  refine wpQuiet_load (by rfl) 27 (.tmp 1) rfl _ rfl 27 (flr (fw2 a1 c1)) _ (fun _ h => h.1.at 3 rfl) Try.underlying27 rfl (row27 _) ?_
  simp only [Act.put, List.setIfInBounds_toArray, List.set_cons_zero, List.set_cons_succ]
  refine wpQuiet_call2 (by rfl) 13 (.tmp 79) (.const (.int .i64 9)) _ rfl ent13 (.agg (flr (fw2 a1 c1))) (.int .i64 9) rfl rfl (.bool false) (fun v h => (kept_any (fw2 a1 c1) 9 v).mono fun _ _ k => ⟨k.1, keep.out _ _ h k.2⟩) ?_
  simp only [Act.put, List.setIfInBounds_toArray, List.set_cons_zero, List.set_cons_succ]
  refine wpQuiet_not (by rfl) _ _ rfl false rfl ?_
  simp only [Act.put, List.setIfInBounds_toArray, List.set_cons_zero, List.set_cons_succ]
  refine wpQuiet_pick (by rfl) _ _ _ rfl true rfl (.bool true) rfl ?_
  simp only [Act.put, List.setIfInBounds_toArray, List.set_cons_zero, List.set_cons_succ]
  refine wpQuiet_move (by rfl) _ (.inl rfl) (.bool true) rfl ?_
  simp only [Act.put, List.setIfInBounds_toArray, List.set_cons_zero, List.set_cons_succ]
  refine wpQuiet_move (by rfl) _ (.inl rfl) (.slice (some ⟨g9, 0, none⟩) 1 c9) rfl ?_
  simp only [Act.put, List.setIfInBounds_toArray, List.set_cons_zero, List.set_cons_succ]
  refine wpQuiet_slen (by rfl) 32 3 _ rfl (some ⟨g9, 0, none⟩) 1 c9 rfl Try.underlying32 ?_
  simp only [Act.put, List.setIfInBounds_toArray, List.set_cons_zero, List.set_cons_succ]
  refine wpQuiet_ieq (by rfl) _ _ _ _ rfl .i64 _ _ rfl rfl true rfl ?_
  simp only [Act.put, List.setIfInBounds_toArray, List.set_cons_zero, List.set_cons_succ]
  refine wpQuiet_pick (by rfl) _ _ _ rfl true rfl (.bool true) rfl ?_
  simp only [Act.put, List.setIfInBounds_toArray, List.set_cons_zero, List.set_cons_succ]
  refine wpQuiet_move (by rfl) _ (.inl rfl) (.bool true) rfl ?_
  simp only [Act.put, List.setIfInBounds_toArray, List.set_cons_zero, List.set_cons_succ]
  refine wpQuiet_move (by rfl) _ (.inl rfl) (.slice (some ⟨g9, 0, none⟩) 1 c9) rfl ?_
  simp only [Act.put, List.setIfInBounds_toArray, List.set_cons_zero, List.set_cons_succ]
  refine wpQuiet_index (by rfl) 32 _ _ rfl (.slice (some ⟨g9, 0, none⟩) 1 c9) (.int .i64 0) rfl rfl (.pointer (some ⟨g9, 0, none⟩)) (index32 g9 c9) ?_
  simp only [Act.put, List.setIfInBounds_toArray, List.set_cons_zero, List.set_cons_succ]
  refine wpQuiet_cell (by rfl) 3 _ rfl g9 0 rfl Try.isAgg3 (.int .i64 1) (fun _ h => h.2) ?_
  simp only [Act.put, List.setIfInBounds_toArray, List.set_cons_zero, List.set_cons_succ]
  refine wpQuiet_ieq (by rfl) _ _ _ _ rfl .i64 _ _ rfl rfl true rfl ?_
  simp only [Act.put, List.setIfInBounds_toArray, List.set_cons_zero, List.set_cons_succ]
  refine wpQuiet_pick (by rfl) _ _ _ rfl true rfl (.bool true) rfl ?_
  simp only [Act.put, List.setIfInBounds_toArray, List.set_cons_zero, List.set_cons_succ]
  refine wpQuiet_move (by rfl) _ (.inl rfl) (.bool true) rfl ?_
  simp only [Act.put, List.setIfInBounds_toArray, List.set_cons_zero, List.set_cons_succ]
  refine wpQuiet_call2 (by rfl) 17 (.const (.int .i64 5)) (.const (.int .i64 3)) _ rfl ent17 (.int .i64 5) (.int .i64 3) rfl rfl (.int .i64 5) (fun v h => (floor_any 5 3 v).mono fun _ _ k => ⟨k.1, k.2 ▸ h⟩) ?_
  simp only [Act.put, List.setIfInBounds_toArray, List.set_cons_zero, List.set_cons_succ]
  refine wpQuiet_ieq (by rfl) _ _ _ _ rfl .i64 _ _ rfl rfl true rfl ?_
  simp only [Act.put, List.setIfInBounds_toArray, List.set_cons_zero, List.set_cons_succ]
  refine wpQuiet_pick (by rfl) _ _ _ rfl true rfl (.bool true) rfl ?_
  simp only [Act.put, List.setIfInBounds_toArray, List.set_cons_zero, List.set_cons_succ]
  refine wpQuiet_move (by rfl) _ (.inl rfl) (.bool true) rfl ?_
  simp only [Act.put, List.setIfInBounds_toArray, List.set_cons_zero, List.set_cons_succ]
  refine wpQuiet_call2 (by rfl) 17 (.const (.int .i64 3)) (.const (.int .i64 5)) _ rfl ent17 (.int .i64 3) (.int .i64 5) rfl rfl (.int .i64 5) (fun v h => (floor_any 3 5 v).mono fun _ _ k => ⟨k.1, k.2 ▸ h⟩) ?_
  simp only [Act.put, List.setIfInBounds_toArray, List.set_cons_zero, List.set_cons_succ]
  refine wpQuiet_ieq (by rfl) _ _ _ _ rfl .i64 _ _ rfl rfl true rfl ?_
  simp only [Act.put, List.setIfInBounds_toArray, List.set_cons_zero, List.set_cons_succ]
  refine wpQuiet_pick (by rfl) _ _ _ rfl true rfl (.bool true) rfl ?_
  simp only [Act.put, List.setIfInBounds_toArray, List.set_cons_zero, List.set_cons_succ]
  refine wpQuiet_move (by rfl) _ (.inr rfl) (.bool true) rfl ?_
  simp only [Act.put, List.setIfInBounds_toArray, List.set_cons_zero, List.set_cons_succ]
  refine wpQuiet_nil ?_
  intro x hx
  refine H6.out _ _ ?_
  go_wp2_with fail
  go_ret
  exact ⟨rfl, hx.1.bel⟩
end Go.Proofs.Ytjfgmkgcdkocgaa
