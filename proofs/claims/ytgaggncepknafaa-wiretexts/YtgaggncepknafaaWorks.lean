/-
  The document's example of layer 4 holds at the program: works returns true.
-/
import Derived.Test.YtgaggncepknafaaSums
import Derived.Test.YtgaggncepknafaaSeq
namespace Go.Proofs.Ytgaggncepknafaa
open Go.RowKit

theorem ex_num : num 300 = [172, 2] := by decide
theorem ex_get (w : World) : Calls Try.prog 12 #[.string ⟨#[172, 2, 9]⟩] w fun e w' => e = .returned (.tuple #[.int .i64 300, .string ⟨#[9]⟩, .bool true]) ∧ Below w.heap.size w w' := by
  have h := getNum_any ⟨#[172, 2, 9]⟩ (by decide) w
  have e : gn [172, 2, 9] = some (300, [9]) := by
    have := gn_num (n := 300) (by decide) [9]
    rw [ex_num] at this; exact this
  rw [show nR (li ⟨#[172, 2, 9]⟩) = .tuple #[.int .i64 300, .string ⟨#[9]⟩, .bool true] from nR_some e] at h
  exact h
theorem ex_300 (w : World) : Calls Try.prog 14 #[.int .i64 300] w fun e w' => e = .returned (.string ⟨#[172, 2]⟩) ∧ Below w.heap.size w w' := by
  have h := num_any 300 (by decide) (by decide) w
  rw [show clI 300 = 300 by decide, ex_num] at h
  exact h
def exT : ByteArray := mk (text [97, 98])
theorem ex_text (w : World) : Calls Try.prog 22 #[.string ⟨#[97, 98]⟩] w fun e w' => e = .returned (.string exT) ∧ Below w.heap.size w w' :=
  text_any ⟨#[97, 98]⟩ (by decide) w
theorem ex_getText (w : World) : Calls Try.prog 16 #[.string (exT ++ ⟨#[99]⟩), .int .i64 5] w fun e w' => e = .returned (.tuple #[.string ⟨#[97, 98]⟩, .string ⟨#[99]⟩, .bool true]) ∧ Below w.heap.size w w' := by
  have h := getText_any (exT ++ ⟨#[99]⟩) (by decide) 5 w
  rw [li_app, show li exT = text [97, 98] from li_mk' _, show li ⟨#[99]⟩ = [99] from rfl, tR_some (gt_text (l := [97, 98]) (by decide) (by decide) [99])] at h
  exact h
def exF : ByteArray := mk (frame [120, 121, 122])
theorem exF_size : exF.size ≤ 1000 := by
  unfold exF; rw [size_li, li_mk']
  unfold frame
  rw [List.length_append, chk_len]
  have := text_size [120, 121, 122]
  simp at this
  omega
theorem ex_frame (w : World) : Calls Try.prog 26 #[.string ⟨#[120, 121, 122]⟩] w fun e w' => e = .returned (.string exF) ∧ Below w.heap.size w w' :=
  frame_any ⟨#[120, 121, 122]⟩ (by decide) w
theorem ex_getFrame (w : World) : Calls Try.prog 20 #[.string (exF ++ ⟨#[119]⟩)] w fun e w' => e = .returned (.tuple #[.string ⟨#[120, 121, 122]⟩, .string ⟨#[119]⟩, .bool true]) ∧ Below w.heap.size w w' := by
  have h := getFrame_any (exF ++ ⟨#[119]⟩) (by rw [ByteArray.size_append]; have := exF_size; show exF.size + 1 ≤ _; omega) w
  rw [li_app, show li exF = frame [120, 121, 122] from li_mk' _, show li ⟨#[119]⟩ = [119] from rfl, fR_some (gf_frame (l := [120, 121, 122]) (by decide) [119])] at h
  exact h
def d1 : List UInt8 := 1 :: List.replicate 31 0
theorem d1_len : d1.length = 32 := rfl
theorem d1_row : #[Value.int .u8 1, .int .u8 0, .int .u8 0, .int .u8 0, .int .u8 0, .int .u8 0, .int .u8 0, .int .u8 0, .int .u8 0, .int .u8 0, .int .u8 0, .int .u8 0, .int .u8 0, .int .u8 0, .int .u8 0, .int .u8 0, .int .u8 0, .int .u8 0, .int .u8 0, .int .u8 0, .int .u8 0, .int .u8 0, .int .u8 0, .int .u8 0, .int .u8 0, .int .u8 0, .int .u8 0, .int .u8 0, .int .u8 0, .int .u8 0, .int .u8 0, .int .u8 0] = row d1 := rfl
theorem z28_row1 : z28.size = (row d1).size := rfl
theorem ex_sum (w : World) : Calls Try.prog 24 #[.agg (row d1)] w fun e w' => e = .returned (.string (mk d1)) ∧ Below w.heap.size w w' := sum_any d1 d1_len w
theorem ex_getSum (w : World) : Calls Try.prog 18 #[.string (mk d1 ++ ⟨#[118]⟩)] w fun e w' => e = .returned (.tuple #[.agg (row d1), .string ⟨#[118]⟩, .bool true]) ∧ Below w.heap.size w w' := by
  have h := getSum_any (mk d1 ++ ⟨#[118]⟩) w
  rw [li_app, li_mk', show li ⟨#[118]⟩ = [118] from rfl, sR_some (d := d1) (r := [118]) rfl] at h
  exact h
theorem conv_list (v : World) (l : List UInt8) (A : Array Value) (hA : row l = A) : (convert 39 9 (.slice (some ⟨v.heap.size, 0, none⟩) l.length l.length)).run Try.prog (v.alloc (.cells A 5)) = .ok (.string ⟨l.toArray⟩) (v.alloc (.cells A 5)) := by
  subst hA
  exact conv_row _ _ _ _ _ rfl (by rw [heap_alloc_if, if_pos rfl])
/-- What the last statement of works keeps. -/
structure Wk (w : World) (z : Nat) (v : World) : Prop where
  bel : Below w.heap.size w v
  blk : v.heap[z]? = some (.cells (row d1) 28)
theorem Wk.past {w v v' : World} {z : Nat} (h : Wk w z v) (k : Below v.heap.size v v') : Wk w z v' := ⟨below_on h.bel k, (k.block _ (lt_of_some h.blk)).trans h.blk⟩
theorem Wk.alloc {w v : World} {z : Nat} (h : Wk w z v) (o : Obj) : Wk w z (v.alloc o) := h.past ((Below.refl _ _).alloc (Nat.le_refl _) o)
theorem ent14 : ∀ args w, (callFunc 14 args).run Try.prog w = .ok (.enter 14 args) w := enters_of Try.func14 (by kernel_rfl) rfl
theorem bs2 (v : World) : (Instr.buildSlice 39 2 #[(0, .int .u8 172), (1, .int .u8 2)]).run Try.prog v = .ok (.slice (some ⟨v.heap.size, 0, none⟩) 2 2) (v.alloc (.cells #[.int .u8 172, .int .u8 2] 5)) := by
  simp [Instr.buildSlice, go_sem, run_underlying Try.underlying39, Try.sizeOf5]
theorem bs1 (v : World) : (Instr.buildSlice 39 1 #[(0, .int .u8 9)]).run Try.prog v = .ok (.slice (some ⟨v.heap.size, 0, none⟩) 1 1) (v.alloc (.cells #[.int .u8 9] 5)) := by
  simp [Instr.buildSlice, go_sem, run_underlying Try.underlying39, Try.sizeOf5]
theorem conv2 (v : World) : (convert 39 9 (.slice (some ⟨v.heap.size, 0, none⟩) 2 2)).run Try.prog (v.alloc (.cells #[.int .u8 172, .int .u8 2] 5)) = .ok (.string ⟨#[172, 2]⟩) (v.alloc (.cells #[.int .u8 172, .int .u8 2] 5)) := conv_list v [172, 2] _ rfl
theorem conv1 (v : World) : (convert 39 9 (.slice (some ⟨v.heap.size, 0, none⟩) 1 1)).run Try.prog (v.alloc (.cells #[.int .u8 9] 5)) = .ok (.string ⟨#[9]⟩) (v.alloc (.cells #[.int .u8 9] 5)) := conv_list v [9] _ rfl
theorem conv2k (v v' : World) (h : Below (v.alloc (.cells #[.int .u8 172, .int .u8 2] 5)).heap.size (v.alloc (.cells #[.int .u8 172, .int .u8 2] 5)) v') : (convert 39 9 (.slice (some ⟨v.heap.size, 0, none⟩) 2 2)).run Try.prog v' = .ok (.string ⟨#[172, 2]⟩) v' :=
  conv_row v' _ 2 5 [172, 2] rfl (first_kept h)
theorem eqd1 (v : World) : (Op.equalIn 10000 28 (.agg (row d1)) (.agg (row d1))).run Try.prog v = .ok true v := by rw [eql_dig _ _ d1_len d1_len]; simp
theorem bd1 (v : World) : (Instr.build 28 #[(0, .int .u8 1)]).run Try.prog v = .ok (.agg (row d1)) v := run_build v 28 _ _ (by kernel_rfl)
theorem run_valw {m : Sem Value} {x : Value} {v v' : World} (h : m.run Try.prog v = .ok x v') : (do pure (Next.value (← m)) : Sem Next).run Try.prog v = .ok (.value x) v' := by
  rw [Sem.run_bind, h]; rfl
set_option maxHeartbeats 1000000 in
set_option maxRecDepth 100000 in
theorem works_any (w : World) : Calls Try.prog 11 #[] w fun e w' => e = .returned (.bool true) ∧ Below w.heap.size w w' := by
  have hcv := conv_list w [172, 2, 9] #[.int .u8 172, .int .u8 2, .int .u8 9] rfl
  rw [show ([172, 2, 9] : List UInt8).length = 3 from rfl] at hcv
  go_enter Try.func11, Try.ntmps11
  go_wp2_with fail
  refine (ex_get _).mono ?_
  rintro e w1 ⟨rfl, b1⟩
  have B1 := Lib.hid (((Below.refl w.heap.size w).alloc (Nat.le_refl _) _).trans (b1.mono (by simp)))
  clear b1 hcv
  go_wp2_with fail
  refine (ex_text _).mono ?_
  rintro e w2 ⟨rfl, b2⟩
  have B2 := Lib.hid (below_on B1.out b2)
  clear b2 B1
  have z1 : exT.size = 3 := by decide
  go_wp2_with fail
  refine (ex_getText _).mono ?_
  rintro e w3 ⟨rfl, b3⟩
  have B3 := Lib.hid (below_on B2.out b3)
  clear b3 B2 z1
  go_wp2_with fail
  refine (ex_frame _).mono ?_
  rintro e w4 ⟨rfl, b4⟩
  have B4 := Lib.hid (below_on B3.out b4)
  clear b4 B3
  have z2 := exF_size
  go_wp2_with fail
  refine (ex_getFrame _).mono ?_
  rintro e w5 ⟨rfl, b5⟩
  have B5 := Lib.hid (below_on B4.out b5)
  clear b5 B4 z2
  go_wp2_with fail
  rw [d1_row]
  refine (ex_sum _).mono ?_
  rintro e w6 ⟨rfl, b6⟩
  have B6 := Lib.hid (below_on B5.out b6)
  clear b6 B5
  have z3 : (mk d1).size = 32 := rfl
  go_wp2_with fail
  refine (ex_getSum _).mono ?_
  rintro e w7 ⟨rfl, b7⟩
  have B7 := Lib.hid (below_on B6.out b7)
  clear b7 B6 z3
  go_wp2_with (with_reducible refine wpList_store_row rfl 28 (.tmp 10) (.tmp 39) rfl _ (row d1) rfl rfl 28 z28 ?hg1 (info28' d1 d1_len) z28_row1 (row_one _) ?_)
  case hg1 => rw [z28_eq, heap_alloc_if, if_pos rfl]
  rw [z28_eq, World.setRow_alloc_new]
  go_wp2_with fail
  refine wp_region_any (by kernel_rfl) ?_
  have hW0 : Wk w w7.heap.size (w7.alloc (.cells (row d1) 28)).drew := ⟨(B7.out.alloc B7.out.size _).drew, by show (w7.alloc _).heap[_]? = _; rw [heap_alloc_if, if_pos rfl]⟩
  have hW := Lib.hid hW0
  clear hW0 B7
  show wpAny _ _ _ _ 52 _ _ (w7.alloc (.cells (row d1) 28)).drew
  revert hW
  generalize (w7.alloc (.cells (row d1) 28)).drew = v0
  intro hW
  refine head3 (Wk w w7.heap.size) (fun v v' h k => h.past k) 0 1 2 _ _ _ rfl rfl rfl (some 42) (some 43) (some 44) rfl rfl rfl (.string ⟨#[172, 2]⟩) 2 #[.int .u8 172, .int .u8 2] (.string ⟨#[172, 2]⟩) (.tmp 43) (by decide) (by decide) (by kernel_rfl) (by kernel_rfl) (by kernel_rfl) (by kernel_rfl) (by kernel_rfl) ?hw ?hX (fun a' v => run_valw (by simp only [List.map_toArray, List.map_cons, List.map_nil]; exact bs2 v)) rfl (fun g v hg => conv_row v g 2 5 [172, 2] rfl hg) (fun _ => rfl) (fun _ _ => rfl) (fun _ _ => rfl) (fun _ _ _ => rfl) hW.out ?_
  case hw => intro x y z o ho; simp only [List.mem_cons, List.not_mem_nil, or_false] at ho; rcases ho with rfl | rfl | rfl <;> exact ⟨rfl, rfl, rfl, rfl, rfl⟩
  case hX => intro a' _ v K hK; exact call_const 14 (.int .i64 300) 3 rfl ent14 ((ex_300 v).mono (by rintro e v' ⟨rfl, hb⟩; exact ⟨_, rfl, hK v' hb⟩))
  intro g1 v1 hv1
  simp only [Act.put, List.setIfInBounds_toArray, List.set_cons_zero, List.set_cons_succ]
  refine any_val 3 _ (some 45) (.bool true) (by kernel_rfl) rfl rfl (by rfl) (x_seq _ _ (.tmp 42) (.tmp 44) rfl ⟨#[172, 2]⟩ ⟨#[172, 2]⟩ rfl rfl true (by simp)) ?_
  simp only [Act.put, List.setIfInBounds_toArray, List.set_cons_zero, List.set_cons_succ]
  refine any_val 4 _ (some 46) (.bool true) (by kernel_rfl) rfl rfl (by rfl) (x_move (.tmp 45) (.inl rfl) _ rfl) ?_
  simp only [Act.put, List.setIfInBounds_toArray, List.set_cons_zero, List.set_cons_succ]
  refine any_val 5 _ (some 47) (.int .i64 300) (by kernel_rfl) rfl rfl (by rfl) (x_move (.tmp 1) (.inl rfl) _ rfl) ?_
  simp only [Act.put, List.setIfInBounds_toArray, List.set_cons_zero, List.set_cons_succ]
  refine any_val 6 _ (some 48) (.bool true) (by kernel_rfl) rfl rfl (by rfl) (x_ieq _ _ (.tmp 47) (.const (.int .i64 300)) rfl .i64 300 300 rfl rfl true (by decide)) ?_
  simp only [Act.put, List.setIfInBounds_toArray, List.set_cons_zero, List.set_cons_succ]
  refine any_val 7 _ (some 49) (.bool true) (by kernel_rfl) rfl rfl (by rfl) (x_pick (.tmp 46) (.tmp 48) (.const (.bool false)) rfl true rfl _ rfl) ?_
  simp only [Act.put, List.setIfInBounds_toArray, List.set_cons_zero, List.set_cons_succ]
  refine any_val 8 _ (some 50) (.bool true) (by kernel_rfl) rfl rfl (by rfl) (x_move (.tmp 49) (.inl rfl) _ rfl) ?_
  simp only [Act.put, List.setIfInBounds_toArray, List.set_cons_zero, List.set_cons_succ]
  refine head3 (Wk w w7.heap.size) (fun v v' h k => h.past k) 9 10 11 _ _ _ rfl rfl rfl (some 51) (some 52) (some 53) rfl rfl rfl (.string ⟨#[9]⟩) 1 #[.int .u8 9] (.string ⟨#[9]⟩) (.tmp 52) (by decide) (by decide) (by kernel_rfl) (by kernel_rfl) (by kernel_rfl) (by kernel_rfl) (by kernel_rfl) ?hw2 ?hX2 (fun a' v => run_valw (by simp only [List.map_toArray, List.map_cons, List.map_nil]; exact bs1 v)) rfl (fun g v hg => conv_row v g 1 5 [9] rfl hg) (fun _ => rfl) (fun _ _ => rfl) (fun _ _ => rfl) (fun _ _ _ => rfl) hv1 ?_
  case hw2 => intro x y z o ho; simp only [List.mem_cons, List.not_mem_nil, or_false] at ho; rcases ho with rfl | rfl | rfl <;> exact ⟨rfl, rfl, rfl, rfl, rfl⟩
  case hX2 => rintro a' (rfl | ⟨y, rfl⟩ | ⟨y, z, rfl⟩) v K hK <;> exact wp_val (.string ⟨#[9]⟩) (x_move (.tmp 2) (.inl rfl) _ rfl) (hK v (Below.refl _ _))
  intro g2 v2 hv2
  simp only [Act.put, List.setIfInBounds_toArray, List.set_cons_zero, List.set_cons_succ]
  refine any_quiet (Wk w w7.heap.size) 12 40 (by kernel_rfl) (by kernel_rfl) (by kernel_rfl) hv2 ?_
  simp only [List.drop_succ_cons, List.drop_zero]
  refine wpQuiet_seq (by rfl) _ _ _ _ rfl _ _ rfl rfl true (by simp) ?_
  simp only [Act.put, List.setIfInBounds_toArray, List.set_cons_zero, List.set_cons_succ]
  refine wpQuiet_pick (by rfl) _ _ _ rfl true rfl (.bool true) rfl ?_
  simp only [Act.put, List.setIfInBounds_toArray, List.set_cons_zero, List.set_cons_succ]
  refine wpQuiet_move (by rfl) _ (.inl rfl) (.bool true) rfl ?_
  simp only [Act.put, List.setIfInBounds_toArray, List.set_cons_zero, List.set_cons_succ]
  refine wpQuiet_move (by rfl) _ (.inl rfl) (.bool true) rfl ?_
  simp only [Act.put, List.setIfInBounds_toArray, List.set_cons_zero, List.set_cons_succ]
  refine wpQuiet_pick (by rfl) _ _ _ rfl true rfl (.bool true) rfl ?_
  simp only [Act.put, List.setIfInBounds_toArray, List.set_cons_zero, List.set_cons_succ]
  refine wpQuiet_move (by rfl) _ (.inl rfl) (.bool true) rfl ?_
  simp only [Act.put, List.setIfInBounds_toArray, List.set_cons_zero, List.set_cons_succ]
  refine wpQuiet_move (by rfl) _ (.inl rfl) (.string ⟨#[97, 98]⟩) rfl ?_
  simp only [Act.put, List.setIfInBounds_toArray, List.set_cons_zero, List.set_cons_succ]
  refine wpQuiet_seq (by rfl) _ _ _ _ rfl _ _ rfl rfl true (by simp) ?_
  simp only [Act.put, List.setIfInBounds_toArray, List.set_cons_zero, List.set_cons_succ]
  refine wpQuiet_pick (by rfl) _ _ _ rfl true rfl (.bool true) rfl ?_
  simp only [Act.put, List.setIfInBounds_toArray, List.set_cons_zero, List.set_cons_succ]
  refine wpQuiet_move (by rfl) _ (.inl rfl) (.bool true) rfl ?_
  simp only [Act.put, List.setIfInBounds_toArray, List.set_cons_zero, List.set_cons_succ]
  refine wpQuiet_move (by rfl) _ (.inl rfl) (.string ⟨#[99]⟩) rfl ?_
  simp only [Act.put, List.setIfInBounds_toArray, List.set_cons_zero, List.set_cons_succ]
  refine wpQuiet_seq (by rfl) _ _ _ _ rfl _ _ rfl rfl true (by simp) ?_
  simp only [Act.put, List.setIfInBounds_toArray, List.set_cons_zero, List.set_cons_succ]
  refine wpQuiet_pick (by rfl) _ _ _ rfl true rfl (.bool true) rfl ?_
  simp only [Act.put, List.setIfInBounds_toArray, List.set_cons_zero, List.set_cons_succ]
  refine wpQuiet_move (by rfl) _ (.inl rfl) (.bool true) rfl ?_
  simp only [Act.put, List.setIfInBounds_toArray, List.set_cons_zero, List.set_cons_succ]
  refine wpQuiet_move (by rfl) _ (.inl rfl) (.bool true) rfl ?_
  simp only [Act.put, List.setIfInBounds_toArray, List.set_cons_zero, List.set_cons_succ]
  refine wpQuiet_pick (by rfl) _ _ _ rfl true rfl (.bool true) rfl ?_
  simp only [Act.put, List.setIfInBounds_toArray, List.set_cons_zero, List.set_cons_succ]
  refine wpQuiet_move (by rfl) _ (.inl rfl) (.bool true) rfl ?_
  simp only [Act.put, List.setIfInBounds_toArray, List.set_cons_zero, List.set_cons_succ]
  refine wpQuiet_move (by rfl) _ (.inl rfl) (.string ⟨#[120, 121, 122]⟩) rfl ?_
  simp only [Act.put, List.setIfInBounds_toArray, List.set_cons_zero, List.set_cons_succ]
  refine wpQuiet_seq (by rfl) _ _ _ _ rfl _ _ rfl rfl true (by simp) ?_
  simp only [Act.put, List.setIfInBounds_toArray, List.set_cons_zero, List.set_cons_succ]
  refine wpQuiet_pick (by rfl) _ _ _ rfl true rfl (.bool true) rfl ?_
  simp only [Act.put, List.setIfInBounds_toArray, List.set_cons_zero, List.set_cons_succ]
  refine wpQuiet_move (by rfl) _ (.inl rfl) (.bool true) rfl ?_
  simp only [Act.put, List.setIfInBounds_toArray, List.set_cons_zero, List.set_cons_succ]
  refine wpQuiet_move (by rfl) _ (.inl rfl) (.string ⟨#[119]⟩) rfl ?_
  simp only [Act.put, List.setIfInBounds_toArray, List.set_cons_zero, List.set_cons_succ]
  refine wpQuiet_seq (by rfl) _ _ _ _ rfl _ _ rfl rfl true (by simp) ?_
  simp only [Act.put, List.setIfInBounds_toArray, List.set_cons_zero, List.set_cons_succ]
  refine wpQuiet_pick (by rfl) _ _ _ rfl true rfl (.bool true) rfl ?_
  simp only [Act.put, List.setIfInBounds_toArray, List.set_cons_zero, List.set_cons_succ]
  refine wpQuiet_move (by rfl) _ (.inl rfl) (.bool true) rfl ?_
  simp only [Act.put, List.setIfInBounds_toArray, List.set_cons_zero, List.set_cons_succ]
  refine wpQuiet_move (by rfl) _ (.inl rfl) (.bool true) rfl ?_
  simp only [Act.put, List.setIfInBounds_toArray, List.set_cons_zero, List.set_cons_succ]
  refine wpQuiet_pick (by rfl) _ _ _ rfl true rfl (.bool true) rfl ?_
  simp only [Act.put, List.setIfInBounds_toArray, List.set_cons_zero, List.set_cons_succ]
  refine wpQuiet_move (by rfl) _ (.inl rfl) (.bool true) rfl ?_
  simp only [Act.put, List.setIfInBounds_toArray, List.set_cons_zero, List.set_cons_succ]
  refine wpQuiet_load (by rfl) 28 (.tmp 10) rfl _ rfl 28 (row d1) _ (fun _ h => h.blk) Try.underlying28 rfl (info28' d1 d1_len) ?_
  simp only [Act.put, List.setIfInBounds_toArray, List.set_cons_zero, List.set_cons_succ]
  refine wpQuiet_val (by rfl) (.agg (row d1)) (fun u _ => run_val (by simp only [List.map_toArray, List.map_cons, List.map_nil]; exact bd1 u)) ?_
  simp only [Act.put, List.setIfInBounds_toArray, List.set_cons_zero, List.set_cons_succ]
  refine wpQuiet_deq (by rfl) _ _ _ _ rfl (row d1) (row d1) rfl rfl (by kernel_rfl) true eqd1 ?_
  simp only [Act.put, List.setIfInBounds_toArray, List.set_cons_zero, List.set_cons_succ]
  refine wpQuiet_pick (by rfl) _ _ _ rfl true rfl (.bool true) rfl ?_
  simp only [Act.put, List.setIfInBounds_toArray, List.set_cons_zero, List.set_cons_succ]
  refine wpQuiet_move (by rfl) _ (.inl rfl) (.bool true) rfl ?_
  simp only [Act.put, List.setIfInBounds_toArray, List.set_cons_zero, List.set_cons_succ]
  refine wpQuiet_move (by rfl) _ (.inl rfl) (.string ⟨#[118]⟩) rfl ?_
  simp only [Act.put, List.setIfInBounds_toArray, List.set_cons_zero, List.set_cons_succ]
  refine wpQuiet_seq (by rfl) _ _ _ _ rfl _ _ rfl rfl true (by simp) ?_
  simp only [Act.put, List.setIfInBounds_toArray, List.set_cons_zero, List.set_cons_succ]
  refine wpQuiet_pick (by rfl) _ _ _ rfl true rfl (.bool true) rfl ?_
  simp only [Act.put, List.setIfInBounds_toArray, List.set_cons_zero, List.set_cons_succ]
  refine wpQuiet_move (by rfl) _ (.inl rfl) (.bool true) rfl ?_
  simp only [Act.put, List.setIfInBounds_toArray, List.set_cons_zero, List.set_cons_succ]
  refine wpQuiet_move (by rfl) _ (.inl rfl) (.bool true) rfl ?_
  simp only [Act.put, List.setIfInBounds_toArray, List.set_cons_zero, List.set_cons_succ]
  refine wpQuiet_pick (by rfl) _ _ _ rfl true rfl (.bool true) rfl ?_
  simp only [Act.put, List.setIfInBounds_toArray, List.set_cons_zero, List.set_cons_succ]
  refine wpQuiet_move (by rfl) _ (.inr rfl) (.bool true) rfl ?_
  simp only [Act.put, List.setIfInBounds_toArray, List.set_cons_zero]
  refine wpQuiet_nil ?_
  intro u hu
  go_wp2_with fail
  go_ret
  exact ⟨rfl, hu.bel⟩
end Go.Proofs.Ytgaggncepknafaa
