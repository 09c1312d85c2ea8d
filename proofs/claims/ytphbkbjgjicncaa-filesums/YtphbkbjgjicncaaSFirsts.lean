/-
  The statement of Of that asks for the words that begin a digest, and for the keys: in whatever order its operations are done.
-/
import Derived.Test.YtphbkbjgjicncaaSAny
import Derived.Test.YtphbkbjgjicncaaSRoots
namespace Go.Proofs.Ytphbkbjgjicncaa.sh
open Go.RowKit

def fr (s : ByteArray) (z b3 : Nat) (x4 x5 x10 x11 x12 x13 : Value) : Act :=
  { tmps := #[.string s, undef, .pointer (some ⟨z, 0, none⟩), .pointer (some ⟨b3, 0, none⟩), x4, x5, undef, undef, undef, .agg (us PR), x10, x11, x12, x13, undef, undef, undef, undef, undef, undef, undef, undef, undef, undef, undef, undef, undef, undef, undef, undef, undef, undef, undef, undef, undef, undef, undef, undef, undef], defers := [] }
set_option maxRecDepth 100000 in
theorem zero39 (w : World) : (zeroValue 70).run Try.prog w = .ok (.agg (hcells 0)) w := Try.zeroValue70 w
set_option maxRecDepth 100000 in
theorem zero41 (w : World) : (zeroValue 72).run Try.prog w = .ok (.agg (kcells 0)) w := Try.zeroValue72 w
set_option maxRecDepth 100000 in
theorem ent47 : ∀ args w, (callFunc 47 args).run Try.prog w = .ok (.enter 47 args) w := enters_of Try.func47 (by kernel_rfl) rfl
set_option maxRecDepth 100000 in
theorem ent48 : ∀ args w, (callFunc 48 args).run Try.prog w = .ok (.enter 48 args) w := enters_of Try.func48 (by kernel_rfl) rfl

set_option maxRecDepth 100000 in
theorem firsts {ops : Array Oper} {Q : Exit → Act → World → Prop} {id : Nat} (s : ByteArray) (w v : World) (z b3 : Nat) (D : Array Value) (hzb : z < b3)
    (o0 o1 o2 o3 o4 o5 o6 o7 : Oper) (hsz : ops.size = 8)
    (h0 : ops[0]? = some o0) (h1 : ops[1]? = some o1) (h2 : ops[2]? = some o2) (h3 : ops[3]? = some o3) (h4 : ops[4]? = some o4) (h5 : ops[5]? = some o5) (h6 : ops[6]? = some o6) (h7 : ops[7]? = some o7)
    (p0 : o0.op = .load 67 (.tmp 3)) (p1 : o1.op = .call { callee := .value (.func 47), args := #[.tmp 10], argTypes := #[67] }) (p2 : o2.op = .load 67 (.tmp 3)) (p3 : o3.op = .call { callee := .value (.func 48), args := #[.tmp 12], argTypes := #[67] })
    (p4 : o4.op = .alloc 70) (p5 : o5.op = .alloc 72) (p6 : o6.op = .store 70 (.tmp 4) (.tmp 11)) (p7 : o7.op = .store 72 (.tmp 5) (.tmp 13))
    (d0 : o0.dst = some 10) (d1 : o1.dst = some 11) (d2 : o2.dst = some 12) (d3 : o3.dst = some 13) (d4 : o4.dst = some 4) (d5 : o5.dst = some 5) (d6 : o6.dst = none) (d7 : o7.dst = none)
    (g0 : o0.guard = none) (g1 : o1.guard = none) (g2 : o2.guard = none) (g3 : o3.guard = none) (g4 : o4.guard = none) (g5 : o5.guard = none) (g6 : o6.guard = none) (g7 : o7.guard = none)
    (e10 : edgeB ops 1 0 = true) (e32 : edgeB ops 3 2 = true) (e61 : edgeB ops 6 1 = true) (e64 : edgeB ops 6 4 = true) (e65 : edgeB ops 6 5 = true) (e73 : edgeB ops 7 3 = true) (e75 : edgeB ops 7 5 = true) (e74 : edgeB ops 7 4 = true)
    (n0 : onlyB ops 0 [] = true) (n1 : onlyB ops 1 [0] = true) (n2 : onlyB ops 2 [] = true) (n3 : onlyB ops 3 [1, 2] = true) (n4 : onlyB ops 4 [] = true) (n5 : onlyB ops 5 [] = true) (n6 : onlyB ops 6 [0, 1, 2, 3, 4, 5] = true) (n7 : onlyB ops 7 [0, 1, 2, 3, 4, 5, 6] = true)
    (hbel : Below z w v) (hsrc : v.heap[b3]? = some (.cells (us PR) 67)) (hres : v.heap[z]? = some (.cells D 31))
    (hQ : ∀ b4 b5 v', Below z w v' → v'.heap[z]? = some (.cells D 31) → v'.heap[b4]? = some (.cells (ws H0.toL) 70) → v'.heap[b5]? = some (.cells (ws K0) 72) → z < b4 → z < b5 → b4 ≠ b5 →
      Q .normal (fr s z b3 (.pointer (some ⟨b4, 0, none⟩)) (.pointer (some ⟨b5, 0, none⟩)) (.agg (us PR)) (.agg (ws H0.toL)) (.agg (us PR)) (.agg (ws K0))) v') :
    (Code.region id ops true).wp Try.prog Q (fr s z b3 undef undef undef undef undef undef) v := by
  refine wp_region_any (by kernel_rfl) ?_
  rw [hsz]
  refine wpAny_inv (fun listed a v => ∃ l0 l1 l2 l3 l4 l5 l6 l7 x4 x5 x10 x11 x12 x13 b4 b5, listed = #[l0, l1, l2, l3, l4, l5, l6, l7] ∧ a = fr s z b3 x4 x5 x10 x11 x12 x13 ∧
    Two w z b3 (us PR) (ws H0.toL) (ws K0) (hcells 0) (kcells 0) D 67 70 72 31 l0 l1 l2 l3 l4 l5 l6 l7 x4 x5 x10 x11 x12 x13 b4 b5 v) ?_ ?_ _ _ _ _ ?_ ?_
  · rintro listed a v ⟨l0, l1, l2, l3, l4, l5, l6, l7, x4, x5, x10, x11, x12, x13, b4, b5, rfl, rfl, T⟩ i hi
    have hlt := ready_lt hi
    have hno := ready_not hi
    rw [hsz] at hlt
    obtain rfl | rfl | rfl | rfl | rfl | rfl | rfl | rfl : i = 0 ∨ i = 1 ∨ i = 2 ∨ i = 3 ∨ i = 4 ∨ i = 5 ∨ i = 6 ∨ i = 7 := by omega
    · refine wpOp_plain h0 g0 (wp_load_row 67 _ p0 b3 rfl 67 (us PR) _ T.src Try.underlying67 rfl (by kernel_rfl) ?_)
      rw [d0]
      exact ⟨_, _, _, _, _, _, _, _, x4, x5, _, x11, x12, x13, b4, b5, rfl, rfl, { T with e0 := fun _ => rfl }⟩
    · have k0 : l0 = true := ready_edge hi e10
      refine wpOp_plain h1 g1 (wp_call_fn 47 10 67 p1 ent47 _ (T.e0 k0) ((start_any v).mono ?_))
      rintro e v' ⟨rfl, hb⟩
      refine ⟨_, rfl, ?_⟩
      rw [d1]
      exact ⟨_, _, _, _, _, _, _, _, x4, x5, x10, _, x12, x13, b4, b5, rfl, rfl, { T.past hb with e1 := fun _ => rfl }⟩
    · refine wpOp_plain h2 g2 (wp_load_row 67 _ p2 b3 rfl 67 (us PR) _ T.src Try.underlying67 rfl (by kernel_rfl) ?_)
      rw [d2]
      exact ⟨_, _, _, _, _, _, _, _, x4, x5, x10, x11, _, x13, b4, b5, rfl, rfl, { T with e2 := fun _ => rfl }⟩
    · have k2 : l2 = true := ready_edge hi e32
      refine wpOp_plain h3 g3 (wp_call_fn 48 12 67 p3 ent48 _ (T.e2 k2) ((keys_any v).mono ?_))
      rintro e v' ⟨rfl, hb⟩
      refine ⟨_, rfl, ?_⟩
      rw [d3]
      exact ⟨_, _, _, _, _, _, _, _, x4, x5, x10, x11, x12, _, b4, b5, rfl, rfl, { T.past hb with e3 := fun _ => rfl }⟩
    · have k4 : l4 = false := hno
      have k6 : l6 = false := by cases h : l6 with | false => rfl | true => rw [T.c6 h] at k4; cases k4
      refine wpOp_plain h4 g4 (wp_alloc_row 70 p4 (hcells 0) (zero39 v) ?_)
      rw [d4]
      have hb : Below v.heap.size v (v.alloc (.cells (hcells 0) 70)) := (Below.refl _ _).alloc (Nat.le_refl _) _
      refine ⟨_, _, _, _, _, _, _, _, _, x5, x10, x11, x12, x13, v.heap.size, b5, rfl, rfl, { T.past hb with e4 := fun _ => ⟨rfl, ?_, lt_of_some T.src⟩, ne := fun _ k => ?_, c6 := fun _ => rfl }⟩
      · rw [k6, heap_alloc_if, if_pos rfl]; rfl
      · have := lt_of_some (T.e5 k).2.1; omega
    · have k5 : l5 = false := hno
      have k7 : l7 = false := by cases h : l7 with | false => rfl | true => rw [T.c7 h] at k5; cases k5
      refine wpOp_plain h5 g5 (wp_alloc_row 72 p5 (kcells 0) (zero41 v) ?_)
      rw [d5]
      have hb : Below v.heap.size v (v.alloc (.cells (kcells 0) 72)) := (Below.refl _ _).alloc (Nat.le_refl _) _
      refine ⟨_, _, _, _, _, _, _, _, x4, _, x10, x11, x12, x13, b4, v.heap.size, rfl, rfl, { T.past hb with e5 := fun _ => ⟨rfl, ?_, lt_of_some T.src⟩, ne := fun k _ => ?_, c7 := fun _ => rfl }⟩
      · rw [k7, heap_alloc_if, if_pos rfl]; rfl
      · have := lt_of_some (T.e4 k).2.1; omega
    · have k6 : l6 = false := hno
      have k1 : l1 = true := ready_edge hi e61
      have k4 : l4 = true := ready_edge hi e64
      have k5 : l5 = true := ready_edge hi e65
      obtain ⟨q1, q2, q3⟩ := T.e4 k4
      obtain ⟨r1, r2, r3⟩ := T.e5 k5
      rw [k6] at q2
      refine wpOp_plain h6 g6 (wp_store_row 70 _ _ p6 b4 (ws H0.toL) q1 (T.e1 k1) 70 (hcells 0) q2 (by kernel_rfl) (by kernel_rfl) (by kernel_rfl) ?_)
      rw [d6]
      refine ⟨_, _, _, _, _, _, _, _, x4, x5, x10, x11, x12, x13, b4, b5, rfl, rfl, { T with bel := below_setRow T.bel (by omega) _, src := ?_, res := ?_, e4 := fun _ => ⟨q1, setRow_heap _ _ _ _ _ _ q2, q3⟩, e5 := fun _ => ⟨r1, ?_, r3⟩, c6 := fun _ => k4 }⟩
      · rw [setRow_other _ _ _ _ (by omega)]; exact T.src
      · rw [setRow_other _ _ _ _ (by omega)]; exact T.res
      · rw [setRow_other _ _ _ _ (Ne.symm (T.ne k4 k5))]; exact r2
    · have k7 : l7 = false := hno
      have k3 : l3 = true := ready_edge hi e73
      have k4 : l4 = true := ready_edge hi e74
      have k5 : l5 = true := ready_edge hi e75
      obtain ⟨q1, q2, q3⟩ := T.e4 k4
      obtain ⟨r1, r2, r3⟩ := T.e5 k5
      rw [k7] at r2
      refine wpOp_plain h7 g7 (wp_store_row 72 _ _ p7 b5 (ws K0) r1 (T.e3 k3) 72 (kcells 0) r2 (by kernel_rfl) (by kernel_rfl) (by kernel_rfl) ?_)
      rw [d7]
      refine ⟨_, _, _, _, _, _, _, _, x4, x5, x10, x11, x12, x13, b4, b5, rfl, rfl, { T with bel := below_setRow T.bel (by omega) _, src := ?_, res := ?_, e5 := fun _ => ⟨r1, setRow_heap _ _ _ _ _ _ r2, r3⟩, e4 := fun _ => ⟨q1, ?_, q3⟩, c7 := fun _ => k5 }⟩
      · rw [setRow_other _ _ _ _ (by omega)]; exact T.src
      · rw [setRow_other _ _ _ _ (by omega)]; exact T.res
      · rw [setRow_other _ _ _ _ (T.ne k4 k5)]; exact q2
  · rintro listed a v ⟨l0, l1, l2, l3, l4, l5, l6, l7, x4, x5, x10, x11, x12, x13, b4, b5, rfl, rfl, T⟩ hr
    have k0 : l0 = true := done_of hr 0 _ n0 (by simp)
    have k2 : l2 = true := done_of hr 2 _ n2 (by simp)
    have k4 : l4 = true := done_of hr 4 _ n4 (by simp)
    have k5 : l5 = true := done_of hr 5 _ n5 (by simp)
    have k1 : l1 = true := done_of hr 1 _ n1 (by simp [k0])
    have k3 : l3 = true := done_of hr 3 _ n3 (by simp [k1, k2])
    have k6 : l6 = true := done_of hr 6 _ n6 (by simp [k0, k1, k2, k3, k4, k5])
    have k7 : l7 = true := done_of hr 7 _ n7 (by simp [k0, k1, k2, k3, k4, k5, k6])
    obtain ⟨q1, q2, q3⟩ := T.e4 k4
    obtain ⟨r1, r2, r3⟩ := T.e5 k5
    rw [k6] at q2
    rw [k7] at r2
    rw [q1, r1, T.e0 k0, T.e1 k1, T.e2 k2, T.e3 k3]
    exact hQ b4 b5 v T.bel T.res q2 r2 (by omega) (by omega) (T.ne k4 k5)
  · unfold todo; rw [hsz]; decide
  · refine ⟨false, false, false, false, false, false, false, false, undef, undef, undef, undef, undef, undef, 0, 0, rfl, rfl, ?_⟩
    exact { bel := hbel.drew, src := hsrc, res := hres, e0 := nofun, e1 := nofun, e2 := nofun, e3 := nofun, e4 := nofun, e5 := nofun, ne := nofun, c6 := nofun, c7 := nofun }
end Go.Proofs.Ytphbkbjgjicncaa.sh
