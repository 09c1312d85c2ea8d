/-
  The document's example: no events, and one.
-/
import Derived.Test.YtfilolmbppjbjaaGreatFew
namespace Go.Proofs.YtfilolmbppjbjaaGreat
open Go Go.RowKit

def E1 : Ev := ⟨7, 0, [], 1, 0, zs⟩
theorem E1_ok : okP E1 = true := by decide +kernel
theorem E1_put : putE E1 = [7, 1] := by decide +kernel
theorem E1_fit : E1.fit := ⟨⟨by unfold i64 E1; decide, by unfold i64 E1; decide, by unfold i64 E1; decide, by unfold i64 E1; decide, rfl⟩, by decide⟩
def d0L : List UInt8 := [0x2c, 0x95, 0xc8, 0x5e, 0xea, 0x09, 0x6c, 0xa1, 0xd0, 0xb7, 0xde, 0xee, 0xc2, 0x6e, 0x83, 0xd9, 0x08, 0x3d, 0x30, 0x0f, 0x8a, 0x21, 0xb6, 0x6e, 0x35, 0x37, 0xcd, 0xf2, 0x27, 0x1f, 0x6d, 0x6f]
theorem startD_eq : startD = d0L := by decide +kernel
def frA (ev : Ev) (z : Nat) (x2 x3 x11 x12 x13 x14 x15 x16 : Value) : Act := { tmps := #[.bool false, .pointer (some ⟨z, 0, none⟩), x2, x3, undef, undef, undef, undef, undef, undef, .agg (evr ev), x11, x12, x13, x14, x15, x16, undef, undef, undef, undef, undef, undef, undef, undef, undef, undef, undef, undef, undef, undef, undef, undef, undef, undef, undef, undef, undef, undef, undef, undef, undef, undef, undef, undef, undef, undef, undef, undef, undef, undef, undef, undef, undef, undef, undef, undef, undef, undef, undef, undef, undef, undef, undef, undef, undef, undef, undef, undef, undef, undef, undef, undef, undef, undef, undef, undef, undef, undef, undef, undef, undef], defers := [] }
def frB (ev : Ev) (z : Nat) (x2 x3 x11 x12 x13 x14 x15 x16 x4 x5 x17 x18 x19 x20 x21 x22 x23 : Value) : Act := { tmps := #[.bool false, .pointer (some ⟨z, 0, none⟩), x2, x3, x4, x5, undef, undef, undef, undef, .agg (evr ev), x11, x12, x13, x14, x15, x16, x17, x18, x19, x20, x21, x22, x23, undef, undef, undef, undef, undef, undef, undef, undef, undef, undef, undef, undef, undef, undef, undef, undef, undef, undef, undef, undef, undef, undef, undef, undef, undef, undef, undef, undef, undef, undef, undef, undef, undef, undef, undef, undef, undef, undef, undef, undef, undef, undef, undef, undef, undef, undef, undef, undef, undef, undef, undef, undef, undef, undef, undef, undef, undef, undef], defers := [] }
theorem wp_call_fn0 {P : Program} {op : Oper} {a : Act} {w : World} {K : Act → World → Prop} {Q : Exit → Act → World → Prop} (f : FuncId) (ho : op.op = .call { callee := .value (.func f), args := #[], argTypes := #[] })
    (he : ∀ args w, (callFunc f args).run P w = .ok (.enter f args) w) (h : Calls P f #[] w fun e w' => ∃ r, e = .returned r ∧ K (a.put op.dst r) w') : op.wp P a w K Q := by
  unfold Oper.wp execOp
  simp [ho, resolve, invoke, he, go_sem]
  refine h.mono ?_
  rintro e w' ⟨r, rfl, hk⟩
  exact hk
theorem wp_build1 {P : Program} {op : Oper} {a : Act} {w w' : World} {K : Act → World → Prop} {Q : Exit → Act → World → Prop} (t : TypeId) (x : Operand) (ho : op.op = .buildSlice t 1 #[(0, x)]) (u v : Value) (hx : a.eval x = u) (hv : (Instr.buildSlice t 1 #[(0, u)]).run P w = .ok v w')
    (h : K (a.put op.dst v) w') : op.wp P a w K Q := by
  unfold Oper.wp execOp
  simp only [ho, List.map_toArray, List.map_cons, List.map_nil, hx, Sem.run_bind, hv, Result.andThen_ok, Sem.run_pure]
  exact h
theorem ent17 : ∀ args w, (callFunc 17 args).run Tryz.prog w = .ok (.enter 17 args) w := enters_of Tryz.func17 (by kernel_rfl) rfl
theorem ent11 : ∀ args w, (callFunc 11 args).run Tryz.prog w = .ok (.enter 11 args) w := enters_of Tryz.func11 (by kernel_rfl) rfl
theorem ent7 : ∀ args w, (callFunc 7 args).run Tryz.prog w = .ok (.enter 7 args) w := enters_of Tryz.func7 (by kernel_rfl) rfl
theorem below_on' {B : Nat} {w v v' : World} (h : Below B w v) (hB : B ≤ w.heap.size) (hb : Below v.heap.size v v') : Below B w v' := h.trans (hb.mono (Nat.le_trans hB h.size))
/-- What holds at each step of 'd, ok := Next(Start(), e)', in whatever order. -/
structure WA (ev : Ev) (w : World) (z : Nat) (D1 S : List UInt8) (l0 l1 l2 l3 l4 l5 l6 l7 l8 : Bool) (x2 x3 x11 x12 x13 x14 x15 x16 : Value) (v : World) : Prop where
  bel : Below w.heap.size w v
  src : v.heap[z]? = some (.cells (evr ev) 34)
  wz : w.heap.size ≤ z
  e0 : l0 = true → x12 = .agg (row S)
  e1 : l1 = true → x13 = .agg (evr ev)
  e2 : l2 = true → x14 = .tuple #[.agg (row D1), .bool true]
  e3 : l3 = true → x11 = .tuple #[.agg (row D1), .bool true]
  e4 : l4 = true → x15 = .agg (row D1)
  e5 : l5 = true → x16 = .bool true
  e6 : l6 = true → ∃ b, x2 = .pointer (some ⟨b, 0, none⟩) ∧ w.heap.size ≤ b ∧ b ≠ z ∧ v.heap[b]? = some (.cells (if l7 then row D1 else row zs) 23)
  e8 : l8 = true → x3 = .bool true
  l76 : l7 = true → l6 = true
theorem WA.past {w : World} {ev : Ev} {z : Nat} {D1 S : List UInt8} {v v' : World} {l0 l1 l2 l3 l4 l5 l6 l7 l8 : Bool} {x2 x3 x11 x12 x13 x14 x15 x16 : Value} (T : WA ev w z D1 S l0 l1 l2 l3 l4 l5 l6 l7 l8 x2 x3 x11 x12 x13 x14 x15 x16 v) (hb : Below v.heap.size v v') : WA ev w z D1 S l0 l1 l2 l3 l4 l5 l6 l7 l8 x2 x3 x11 x12 x13 x14 x15 x16 v' :=
  { T with bel := below_on' T.bel (Nat.le_refl _) hb, src := (hb.block _ (lt_of_some T.src)).trans T.src, e6 := fun h => by obtain ⟨b, h1, h2, h3, h4⟩ := T.e6 h; exact ⟨b, h1, h2, h3, (hb.block _ (lt_of_some h4)).trans h4⟩ }
theorem tickA {ops : Array Oper} {Q : Exit → Act → World → Prop} {id : Nat} (ev : Ev) (w : World) (z : Nat) (D1 S : List UInt8) (v : World) (hev : ev.sum.length = 32) (hcS : ∀ v, Calls Tryz.prog 17 #[] v fun e v' => e = .returned (.agg (row S)) ∧ Below v.heap.size v v') (hD : D1.length = 32) (hc : ∀ v, Calls Tryz.prog 11 #[.agg (row S), .agg (evr ev)] v fun e v' => e = .returned (.tuple #[.agg (row D1), .bool true]) ∧ Below v.heap.size v v')
    (o0 o1 o2 o3 o4 o5 o6 o7 o8 : Oper) (hsz : ops.size = 9) (h0 : ops[0]? = some o0) (h1 : ops[1]? = some o1) (h2 : ops[2]? = some o2) (h3 : ops[3]? = some o3) (h4 : ops[4]? = some o4) (h5 : ops[5]? = some o5) (h6 : ops[6]? = some o6) (h7 : ops[7]? = some o7) (h8 : ops[8]? = some o8)
    (p0 : o0.op = .call { callee := .value (.func 17), args := #[], argTypes := #[] }) (p1 : o1.op = .load 34 (.tmp 1)) (p2 : o2.op = .call { callee := .value (.func 11), args := #[.tmp 12, .tmp 13], argTypes := #[23, 34] }) (p3 : o3.op = .move (.tmp 14)) (p4 : o4.op = .extract (.tmp 11) 0) (p5 : o5.op = .extract (.tmp 11) 1) (p6 : o6.op = .alloc 23) (p7 : o7.op = .store 23 (.tmp 2) (.tmp 15)) (p8 : o8.op = .assign (.tmp 16))
    (d0 : o0.dst = some 12) (d1 : o1.dst = some 13) (d2 : o2.dst = some 14) (d3 : o3.dst = some 11) (d4 : o4.dst = some 15) (d5 : o5.dst = some 16) (d6 : o6.dst = some 2) (d7 : o7.dst = none) (d8 : o8.dst = some 3)
    (g0 : o0.guard = none) (g1 : o1.guard = none) (g2 : o2.guard = none) (g3 : o3.guard = none) (g4 : o4.guard = none) (g5 : o5.guard = none) (g6 : o6.guard = none) (g7 : o7.guard = none) (g8 : o8.guard = none)
    (e2_0 : edgeB ops 2 0 = true) (e2_1 : edgeB ops 2 1 = true) (e3_2 : edgeB ops 3 2 = true) (e4_3 : edgeB ops 4 3 = true) (e5_3 : edgeB ops 5 3 = true) (e7_6 : edgeB ops 7 6 = true) (e7_4 : edgeB ops 7 4 = true) (e8_5 : edgeB ops 8 5 = true)
    (n0 : onlyB ops 0 [] = true) (n1 : onlyB ops 1 [] = true) (n2 : onlyB ops 2 [0, 1] = true) (n3 : onlyB ops 3 [2] = true) (n4 : onlyB ops 4 [3] = true) (n5 : onlyB ops 5 [3] = true) (n6 : onlyB ops 6 [] = true) (n7 : onlyB ops 7 [0, 1, 2, 3, 4, 6] = true) (n8 : onlyB ops 8 [0, 1, 2, 3, 4, 5, 6, 7] = true)
    (hbel : Below w.heap.size w v) (hsrc : v.heap[z]? = some (.cells (evr ev) 34)) (hwz : w.heap.size ≤ z)
    (hQ : ∀ b x11 x12 x13 x14 x15 x16 v', Below w.heap.size w v' → v'.heap[z]? = some (.cells (evr ev) 34) → w.heap.size ≤ b → b ≠ z → v'.heap[b]? = some (.cells (row D1) 23) → Q .normal (frA ev z (.pointer (some ⟨b, 0, none⟩)) (.bool true) x11 x12 x13 x14 x15 x16) v') :
    (Code.region id ops true).wp Tryz.prog Q (frA ev z undef undef undef undef undef undef undef undef) v := by
  refine wp_region_any (by kernel_rfl) ?_
  rw [hsz]
  refine wpAny_inv (fun listed a v => ∃ l0 l1 l2 l3 l4 l5 l6 l7 l8 x2 x3 x11 x12 x13 x14 x15 x16, listed = #[l0, l1, l2, l3, l4, l5, l6, l7, l8] ∧ a = frA ev z x2 x3 x11 x12 x13 x14 x15 x16 ∧ WA ev w z D1 S l0 l1 l2 l3 l4 l5 l6 l7 l8 x2 x3 x11 x12 x13 x14 x15 x16 v) ?_ ?_ _ _ _ _ ?_ ?_
  · rintro listed a v ⟨l0, l1, l2, l3, l4, l5, l6, l7, l8, x2, x3, x11, x12, x13, x14, x15, x16, rfl, rfl, T⟩ i hi
    have hlt := ready_lt hi
    have hno := ready_not hi
    rw [hsz] at hlt
    obtain rfl | rfl | rfl | rfl | rfl | rfl | rfl | rfl | rfl : i = 0 ∨ i = 1 ∨ i = 2 ∨ i = 3 ∨ i = 4 ∨ i = 5 ∨ i = 6 ∨ i = 7 ∨ i = 8 := by omega
    · refine wpOp_plain h0 g0 (wp_call_fn0 17 p0 ent17 ((hcS v).mono ?_))
      rintro e v' ⟨rfl, hb⟩
      refine ⟨_, rfl, ?_⟩
      rw [d0]
      exact ⟨_, _, _, _, _, _, _, _, _, x2, x3, x11, _, x13, x14, x15, x16, rfl, rfl, { T.past hb with e0 := fun _ => rfl }⟩
    · refine wpOp_plain h1 g1 (wp_load_row 34 _ p1 z rfl 34 (evr ev) _ T.src Tryz.underlying34 rfl (row41 ev hev) ?_)
      rw [d1]
      exact ⟨_, _, _, _, _, _, _, _, _, x2, x3, x11, x12, _, x14, x15, x16, rfl, rfl, { T with e1 := fun _ => rfl }⟩
    · have k0 := T.e0 (ready_edge hi e2_0)
      have k1 := T.e1 (ready_edge hi e2_1)
      refine wpOp_plain h2 g2 (wp_call_fn2 11 12 13 23 34 p2 ent11 _ _ k0 k1 ((hc v).mono ?_))
      rintro e v' ⟨rfl, hb⟩
      refine ⟨_, rfl, ?_⟩
      rw [d2]
      exact ⟨_, _, _, _, _, _, _, _, _, x2, x3, x11, x12, x13, _, x15, x16, rfl, rfl, { T.past hb with e2 := fun _ => rfl }⟩
    · have k2 := T.e2 (ready_edge hi e3_2)
      refine wpOp_plain h3 g3 (wp_val (.tuple #[.agg (row D1), .bool true]) (by unfold execOp; simp only [p3]; subst k2; rfl) ?_)
      rw [d3]
      exact ⟨_, _, _, _, _, _, _, _, _, x2, x3, _, x12, x13, x14, x15, x16, rfl, rfl, { T with e3 := fun _ => rfl }⟩
    · have k3 := T.e3 (ready_edge hi e4_3)
      refine wpOp_plain h4 g4 (wp_val (.agg (row D1)) (by unfold execOp; simp only [p4]; subst k3; rfl) ?_)
      rw [d4]
      exact ⟨_, _, _, _, _, _, _, _, _, x2, x3, x11, x12, x13, x14, _, x16, rfl, rfl, { T with e4 := fun _ => rfl }⟩
    · have k3 := T.e3 (ready_edge hi e5_3)
      refine wpOp_plain h5 g5 (wp_val (.bool true) (by unfold execOp; simp only [p5]; subst k3; rfl) ?_)
      rw [d5]
      exact ⟨_, _, _, _, _, _, _, _, _, x2, x3, x11, x12, x13, x14, x15, _, rfl, rfl, { T with e5 := fun _ => rfl }⟩
    · have k7 : l7 = false := by
        cases hq : l7 with
        | false => rfl
        | true =>
          have := T.l76 hq
          have hno' : l6 = false := hno
          rw [hno'] at this
          cases this
      refine wpOp_plain h6 g6 (wp_alloc_row 23 p6 (row zs) (zero26 v) ?_)
      rw [d6]
      have hB : Below v.heap.size v (v.alloc (.cells (row zs) 23)) := (Below.refl _ _).alloc (Nat.le_refl _) _
      exact ⟨_, _, _, _, _, _, _, _, _, _, x3, x11, x12, x13, x14, x15, x16, rfl, rfl, { T.past hB with e6 := fun _ => ⟨v.heap.size, rfl, T.bel.size, Nat.ne_of_gt (lt_of_some T.src), by rw [k7, heap_alloc_if, if_pos rfl]; rfl⟩, l76 := fun _ => rfl }⟩
    · have k7 : l7 = false := hno
      have k4 := T.e4 (ready_edge hi e7_4)
      have k6 : l6 = true := ready_edge hi e7_6
      obtain ⟨b, q1, q2, q3, q4⟩ := T.e6 k6
      rw [k7] at q4
      subst q1
      refine wpOp_plain h7 g7 (wp_store_row 23 _ _ p7 b (row D1) rfl k4 23 (row zs) q4 (row26 D1 hD) (row_eq _ _ zs_len hD) (row_one D1) ?_)
      rw [d7]
      refine ⟨_, _, _, _, _, _, _, _, _, _, x3, x11, x12, x13, x14, x15, x16, rfl, rfl, { T with bel := below_setRow T.bel q2 _, src := ?_, e6 := fun _ => ⟨b, rfl, q2, q3, setRow_heap _ _ _ _ _ _ q4⟩, l76 := fun _ => k6 }⟩
      rw [setRow_other _ _ _ _ (Ne.symm q3)]; exact T.src
    · have k5 := T.e5 (ready_edge hi e8_5)
      refine wpOp_plain h8 g8 (wp_val (.bool true) (by unfold execOp; simp only [p8]; subst k5; rfl) ?_)
      rw [d8]
      exact ⟨_, _, _, _, _, _, _, _, _, x2, _, x11, x12, x13, x14, x15, x16, rfl, rfl, { T with e8 := fun _ => rfl }⟩
  · rintro listed a v ⟨l0, l1, l2, l3, l4, l5, l6, l7, l8, x2, x3, x11, x12, x13, x14, x15, x16, rfl, rfl, T⟩ hr
    have k0 : l0 = true := done_of hr 0 _ n0 (by simp)
    have k1 : l1 = true := done_of hr 1 _ n1 (by simp)
    have k2 : l2 = true := done_of hr 2 _ n2 (by simp [k0, k1])
    have k3 : l3 = true := done_of hr 3 _ n3 (by simp [k2])
    have k4 : l4 = true := done_of hr 4 _ n4 (by simp [k3])
    have k5 : l5 = true := done_of hr 5 _ n5 (by simp [k3])
    have k6 : l6 = true := done_of hr 6 _ n6 (by simp)
    have k7 : l7 = true := done_of hr 7 _ n7 (by simp [k0, k1, k2, k3, k4, k6])
    have k8 : l8 = true := done_of hr 8 _ n8 (by simp [k0, k1, k2, k3, k4, k5, k6, k7])
    obtain ⟨b, q1, q2, q3, q4⟩ := T.e6 k6
    rw [k7] at q4
    rw [q1, T.e8 k8]
    exact hQ b _ _ _ _ _ _ v T.bel T.src q2 q3 q4
  · unfold todo; rw [hsz]; decide
  · refine ⟨false, false, false, false, false, false, false, false, false, undef, undef, undef, undef, undef, undef, undef, undef, rfl, rfl, ?_⟩
    exact { bel := hbel.drew, src := hsrc, wz := hwz, e0 := nofun, e1 := nofun, e2 := nofun, e3 := nofun, e4 := nofun, e5 := nofun, e6 := nofun, e8 := nofun, l76 := nofun }
/-- What holds at each step of 'h, is := Head(Start(), []Event{e})', in whatever order. -/
structure WB (ev : Ev) (w : World) (z b2 : Nat) (D1 S : List UInt8) (l0 l1 l2 l3 l4 l5 l6 l7 l8 l9 : Bool) (x4 x5 x17 x18 x19 x20 x21 x22 x23 : Value) (v : World) : Prop where
  bel : Below w.heap.size w v
  src : v.heap[z]? = some (.cells (evr ev) 34)
  two : v.heap[b2]? = some (.cells (row D1) 23)
  wz : w.heap.size ≤ z
  e0 : l0 = true → x18 = .agg (row S)
  e1 : l1 = true → x19 = .agg (evr ev)
  e2 : l2 = true → ∃ g, x20 = .slice (some ⟨g, 0, none⟩) 1 1 ∧ v.heap[g]? = some (.cells (evr ev) 34)
  e3 : l3 = true → x21 = .tuple #[.agg (row D1), .bool true]
  e4 : l4 = true → x17 = .tuple #[.agg (row D1), .bool true]
  e5 : l5 = true → x22 = .agg (row D1)
  e6 : l6 = true → x23 = .bool true
  e7 : l7 = true → ∃ b, x4 = .pointer (some ⟨b, 0, none⟩) ∧ w.heap.size ≤ b ∧ (b ≠ z ∧ b ≠ b2 ∧ (l2 = true → ∀ g, x20 = .slice (some ⟨g, 0, none⟩) 1 1 → b ≠ g)) ∧ v.heap[b]? = some (.cells (if l8 then row D1 else row zs) 23)
  e9 : l9 = true → x5 = .bool true
  l87 : l8 = true → l7 = true
theorem WB.past {w : World} {ev : Ev} {z b2 : Nat} {D1 S : List UInt8} {v v' : World} {l0 l1 l2 l3 l4 l5 l6 l7 l8 l9 : Bool} {x4 x5 x17 x18 x19 x20 x21 x22 x23 : Value} (T : WB ev w z b2 D1 S l0 l1 l2 l3 l4 l5 l6 l7 l8 l9 x4 x5 x17 x18 x19 x20 x21 x22 x23 v) (hb : Below v.heap.size v v') : WB ev w z b2 D1 S l0 l1 l2 l3 l4 l5 l6 l7 l8 l9 x4 x5 x17 x18 x19 x20 x21 x22 x23 v' :=
  { T with bel := below_on' T.bel (Nat.le_refl _) hb, src := (hb.block _ (lt_of_some T.src)).trans T.src, two := (hb.block _ (lt_of_some T.two)).trans T.two, e2 := fun h => by obtain ⟨g, h1, h2⟩ := T.e2 h; exact ⟨g, h1, (hb.block _ (lt_of_some h2)).trans h2⟩, e7 := fun h => by obtain ⟨b, h1, h2, h3, h4⟩ := T.e7 h; exact ⟨b, h1, h2, h3, (hb.block _ (lt_of_some h4)).trans h4⟩ }
theorem tickB {ops : Array Oper} {Q : Exit → Act → World → Prop} {id : Nat} (ev : Ev) (w : World) (z b2 : Nat) (D1 S : List UInt8) (v : World) (y2 y3 y11 y12 y13 y14 y15 y16 : Value) (hev : ev.sum.length = 32) (hcS : ∀ v, Calls Tryz.prog 17 #[] v fun e v' => e = .returned (.agg (row S)) ∧ Below v.heap.size v v') (hD : D1.length = 32) (hc : ∀ v g, v.heap[g]? = some (.cells (evr ev) 34) → Calls Tryz.prog 7 #[.agg (row S), .slice (some ⟨g, 0, none⟩) 1 1] v fun e v' => e = .returned (.tuple #[.agg (row D1), .bool true]) ∧ Below v.heap.size v v')
    (o0 o1 o2 o3 o4 o5 o6 o7 o8 o9 : Oper) (hsz : ops.size = 10) (h0 : ops[0]? = some o0) (h1 : ops[1]? = some o1) (h2 : ops[2]? = some o2) (h3 : ops[3]? = some o3) (h4 : ops[4]? = some o4) (h5 : ops[5]? = some o5) (h6 : ops[6]? = some o6) (h7 : ops[7]? = some o7) (h8 : ops[8]? = some o8) (h9 : ops[9]? = some o9)
    (p0 : o0.op = .call { callee := .value (.func 17), args := #[], argTypes := #[] }) (p1 : o1.op = .load 34 (.tmp 1)) (p2 : o2.op = .buildSlice 24 1 #[(0, .tmp 19)]) (p3 : o3.op = .call { callee := .value (.func 7), args := #[.tmp 18, .tmp 20], argTypes := #[23, 24] }) (p4 : o4.op = .move (.tmp 21)) (p5 : o5.op = .extract (.tmp 17) 0) (p6 : o6.op = .extract (.tmp 17) 1) (p7 : o7.op = .alloc 23) (p8 : o8.op = .store 23 (.tmp 4) (.tmp 22)) (p9 : o9.op = .assign (.tmp 23))
    (d0 : o0.dst = some 18) (d1 : o1.dst = some 19) (d2 : o2.dst = some 20) (d3 : o3.dst = some 21) (d4 : o4.dst = some 17) (d5 : o5.dst = some 22) (d6 : o6.dst = some 23) (d7 : o7.dst = some 4) (d8 : o8.dst = none) (d9 : o9.dst = some 5)
    (g0 : o0.guard = none) (g1 : o1.guard = none) (g2 : o2.guard = none) (g3 : o3.guard = none) (g4 : o4.guard = none) (g5 : o5.guard = none) (g6 : o6.guard = none) (g7 : o7.guard = none) (g8 : o8.guard = none) (g9 : o9.guard = none)
    (e2_1 : edgeB ops 2 1 = true) (e3_0 : edgeB ops 3 0 = true) (e3_2 : edgeB ops 3 2 = true) (e4_3 : edgeB ops 4 3 = true) (e5_4 : edgeB ops 5 4 = true) (e6_4 : edgeB ops 6 4 = true) (e8_7 : edgeB ops 8 7 = true) (e8_5 : edgeB ops 8 5 = true) (e9_6 : edgeB ops 9 6 = true)
    (n0 : onlyB ops 0 [] = true) (n1 : onlyB ops 1 [] = true) (n2 : onlyB ops 2 [1] = true) (n3 : onlyB ops 3 [0, 2] = true) (n4 : onlyB ops 4 [3] = true) (n5 : onlyB ops 5 [4] = true) (n6 : onlyB ops 6 [4] = true) (n7 : onlyB ops 7 [] = true) (n8 : onlyB ops 8 [0, 1, 2, 3, 4, 5, 7] = true) (n9 : onlyB ops 9 [0, 1, 2, 3, 4, 5, 6, 7, 8] = true)
    (hbel : Below w.heap.size w v) (hsrc : v.heap[z]? = some (.cells (evr ev) 34)) (htwo : v.heap[b2]? = some (.cells (row D1) 23)) (hwz : w.heap.size ≤ z)
    (hQ : ∀ b x17 x18 x19 x20 x21 x22 x23 v', Below w.heap.size w v' → v'.heap[z]? = some (.cells (evr ev) 34) → v'.heap[b2]? = some (.cells (row D1) 23) → w.heap.size ≤ b → b ≠ z → b ≠ b2 → v'.heap[b]? = some (.cells (row D1) 23) → Q .normal (frB ev z y2 y3 y11 y12 y13 y14 y15 y16 (.pointer (some ⟨b, 0, none⟩)) (.bool true) x17 x18 x19 x20 x21 x22 x23) v') :
    (Code.region id ops true).wp Tryz.prog Q (frB ev z y2 y3 y11 y12 y13 y14 y15 y16 undef undef undef undef undef undef undef undef undef) v := by
  refine wp_region_any (by kernel_rfl) ?_
  rw [hsz]
  refine wpAny_inv (fun listed a v => ∃ l0 l1 l2 l3 l4 l5 l6 l7 l8 l9 x4 x5 x17 x18 x19 x20 x21 x22 x23, listed = #[l0, l1, l2, l3, l4, l5, l6, l7, l8, l9] ∧ a = frB ev z y2 y3 y11 y12 y13 y14 y15 y16 x4 x5 x17 x18 x19 x20 x21 x22 x23 ∧ WB ev w z b2 D1 S l0 l1 l2 l3 l4 l5 l6 l7 l8 l9 x4 x5 x17 x18 x19 x20 x21 x22 x23 v) ?_ ?_ _ _ _ _ ?_ ?_
  · rintro listed a v ⟨l0, l1, l2, l3, l4, l5, l6, l7, l8, l9, x4, x5, x17, x18, x19, x20, x21, x22, x23, rfl, rfl, T⟩ i hi
    have hlt := ready_lt hi
    have hno := ready_not hi
    rw [hsz] at hlt
    obtain rfl | rfl | rfl | rfl | rfl | rfl | rfl | rfl | rfl | rfl : i = 0 ∨ i = 1 ∨ i = 2 ∨ i = 3 ∨ i = 4 ∨ i = 5 ∨ i = 6 ∨ i = 7 ∨ i = 8 ∨ i = 9 := by omega
    · refine wpOp_plain h0 g0 (wp_call_fn0 17 p0 ent17 ((hcS v).mono ?_))
      rintro e v' ⟨rfl, hb⟩
      refine ⟨_, rfl, ?_⟩
      rw [d0]
      exact ⟨_, _, _, _, _, _, _, _, _, _, x4, x5, x17, _, x19, x20, x21, x22, x23, rfl, rfl, { T.past hb with e0 := fun _ => rfl }⟩
    · refine wpOp_plain h1 g1 (wp_load_row 34 _ p1 z rfl 34 (evr ev) _ T.src Tryz.underlying34 rfl (row41 ev hev) ?_)
      rw [d1]
      exact ⟨_, _, _, _, _, _, _, _, _, _, x4, x5, x17, x18, _, x20, x21, x22, x23, rfl, rfl, { T with e1 := fun _ => rfl }⟩
    · have k1 := T.e1 (ready_edge hi e2_1)
      refine wpOp_plain h2 g2 (wp_build1 24 (.tmp 19) p2 (.agg (evr ev)) _ k1 (build_ev ev hev v) ?_)
      rw [d2]
      have hB : Below v.heap.size v (v.alloc (.cells (evr ev) 34)) := (Below.refl _ _).alloc (Nat.le_refl _) _
      refine ⟨_, _, _, _, _, _, _, _, _, _, x4, x5, x17, x18, x19, _, x21, x22, x23, rfl, rfl, { T.past hB with e2 := fun _ => ⟨v.heap.size, rfl, by rw [heap_alloc_if, if_pos rfl]⟩, e7 := fun h => ?_ }⟩
      obtain ⟨b, q1, q2, q3, q4⟩ := T.e7 h
      refine ⟨b, q1, q2, ⟨q3.1, q3.2.1, fun _ g hg => ?_⟩, (hB.block _ (lt_of_some q4)).trans q4⟩
      have hlt := lt_of_some q4
      have hge : v.heap.size = g := by injection hg with h1; injection h1 with h1; injection h1
      omega
    · have k0 := T.e0 (ready_edge hi e3_0)
      obtain ⟨g, k2, hg⟩ := T.e2 (ready_edge hi e3_2)
      refine wpOp_plain h3 g3 (wp_call_fn2 7 18 20 23 24 p3 ent7 _ _ k0 k2 ((hc v g hg).mono ?_))
      rintro e v' ⟨rfl, hb⟩
      refine ⟨_, rfl, ?_⟩
      rw [d3]
      exact ⟨_, _, _, _, _, _, _, _, _, _, x4, x5, x17, x18, x19, x20, _, x22, x23, rfl, rfl, { T.past hb with e3 := fun _ => rfl }⟩
    · have k2 := T.e3 (ready_edge hi e4_3)
      refine wpOp_plain h4 g4 (wp_val (.tuple #[.agg (row D1), .bool true]) (by unfold execOp; simp only [p4]; subst k2; rfl) ?_)
      rw [d4]
      exact ⟨_, _, _, _, _, _, _, _, _, _, x4, x5, _, x18, x19, x20, x21, x22, x23, rfl, rfl, { T with e4 := fun _ => rfl }⟩
    · have k3 := T.e4 (ready_edge hi e5_4)
      refine wpOp_plain h5 g5 (wp_val (.agg (row D1)) (by unfold execOp; simp only [p5]; subst k3; rfl) ?_)
      rw [d5]
      exact ⟨_, _, _, _, _, _, _, _, _, _, x4, x5, x17, x18, x19, x20, x21, _, x23, rfl, rfl, { T with e5 := fun _ => rfl }⟩
    · have k3 := T.e4 (ready_edge hi e6_4)
      refine wpOp_plain h6 g6 (wp_val (.bool true) (by unfold execOp; simp only [p6]; subst k3; rfl) ?_)
      rw [d6]
      exact ⟨_, _, _, _, _, _, _, _, _, _, x4, x5, x17, x18, x19, x20, x21, x22, _, rfl, rfl, { T with e6 := fun _ => rfl }⟩
    · have k7 : l8 = false := by
        cases hq : l8 with
        | false => rfl
        | true =>
          have := T.l87 hq
          have hno' : l7 = false := hno
          rw [hno'] at this
          cases this
      refine wpOp_plain h7 g7 (wp_alloc_row 23 p7 (row zs) (zero26 v) ?_)
      rw [d7]
      have hB : Below v.heap.size v (v.alloc (.cells (row zs) 23)) := (Below.refl _ _).alloc (Nat.le_refl _) _
      exact ⟨_, _, _, _, _, _, _, _, _, _, _, x5, x17, x18, x19, x20, x21, x22, x23, rfl, rfl, { T.past hB with e7 := fun _ => ⟨v.heap.size, rfl, T.bel.size, ⟨Nat.ne_of_gt (lt_of_some T.src), Nat.ne_of_gt (lt_of_some T.two), fun h g hg => by obtain ⟨g2, p1, p2⟩ := T.e2 h; rw [p1] at hg; injection hg with hg; injection hg with hg; injection hg with hg; subst hg; exact Nat.ne_of_gt (lt_of_some p2)⟩, by rw [k7, heap_alloc_if, if_pos rfl]; rfl⟩, l87 := fun _ => rfl }⟩
    · have k8 : l8 = false := hno
      have k5 := T.e5 (ready_edge hi e8_5)
      have k7 : l7 = true := ready_edge hi e8_7
      obtain ⟨b, q1, q2, q3, q4⟩ := T.e7 k7
      rw [k8] at q4
      subst q1
      refine wpOp_plain h8 g8 (wp_store_row 23 _ _ p8 b (row D1) rfl k5 23 (row zs) q4 (row26 D1 hD) (row_eq _ _ zs_len hD) (row_one D1) ?_)
      rw [d8]
      refine ⟨_, _, _, _, _, _, _, _, _, _, _, x5, x17, x18, x19, x20, x21, x22, x23, rfl, rfl, { T with bel := below_setRow T.bel q2 _, src := ?_, two := ?_, e2 := fun h => ?_, e7 := fun _ => ⟨b, rfl, q2, q3, setRow_heap _ _ _ _ _ _ q4⟩, l87 := fun _ => k7 }⟩
      · rw [setRow_other _ _ _ _ (Ne.symm q3.1)]; exact T.src
      · rw [setRow_other _ _ _ _ (Ne.symm q3.2.1)]; exact T.two
      · obtain ⟨g, h1, h2⟩ := T.e2 h
        exact ⟨g, h1, by rw [setRow_other _ _ _ _ (Ne.symm (q3.2.2 h g h1))]; exact h2⟩
    · have k6 := T.e6 (ready_edge hi e9_6)
      refine wpOp_plain h9 g9 (wp_val (.bool true) (by unfold execOp; simp only [p9]; subst k6; rfl) ?_)
      rw [d9]
      exact ⟨_, _, _, _, _, _, _, _, _, _, x4, _, x17, x18, x19, x20, x21, x22, x23, rfl, rfl, { T with e9 := fun _ => rfl }⟩
  · rintro listed a v ⟨l0, l1, l2, l3, l4, l5, l6, l7, l8, l9, x4, x5, x17, x18, x19, x20, x21, x22, x23, rfl, rfl, T⟩ hr
    have k0 : l0 = true := done_of hr 0 _ n0 (by simp)
    have k1 : l1 = true := done_of hr 1 _ n1 (by simp)
    have k2 : l2 = true := done_of hr 2 _ n2 (by simp [k1])
    have k3 : l3 = true := done_of hr 3 _ n3 (by simp [k0, k2])
    have k4 : l4 = true := done_of hr 4 _ n4 (by simp [k3])
    have k5 : l5 = true := done_of hr 5 _ n5 (by simp [k4])
    have k6 : l6 = true := done_of hr 6 _ n6 (by simp [k4])
    have k7 : l7 = true := done_of hr 7 _ n7 (by simp)
    have k8 : l8 = true := done_of hr 8 _ n8 (by simp [k0, k1, k2, k3, k4, k5, k7])
    have k9 : l9 = true := done_of hr 9 _ n9 (by simp [k0, k1, k2, k3, k4, k5, k6, k7, k8])
    obtain ⟨b, q1, q2, q3, q4⟩ := T.e7 k7
    rw [k8] at q4
    rw [q1, T.e9 k9]
    exact hQ b _ _ _ _ _ _ _ v T.bel T.src T.two q2 q3.1 q3.2.1 q4
  · unfold todo; rw [hsz]; decide
  · refine ⟨false, false, false, false, false, false, false, false, false, false, undef, undef, undef, undef, undef, undef, undef, undef, undef, rfl, rfl, ?_⟩
    exact { bel := hbel.drew, src := hsrc, two := htwo, wz := hwz, e0 := nofun, e1 := nofun, e2 := nofun, e3 := nofun, e4 := nofun, e5 := nofun, e6 := nofun, e7 := nofun, e9 := nofun, l87 := nofun }
end Go.Proofs.YtfilolmbppjbjaaGreat
