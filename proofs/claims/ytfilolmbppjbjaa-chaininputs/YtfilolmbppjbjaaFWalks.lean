/-
  The walks of ChainFirsts, case by case.
-/
import Derived.Test.YtfilolmbppjbjaaGworks
namespace Go.Proofs.Ytfilolmbppjbjaa
open Go Go.RowKit
set_option linter.unusedVariables false

theorem tld_len (d : List UInt8) (l : List Ev) : (tld d l).length = l.length := by
  induction l generalizing d with
  | nil => rfl
  | cons e l ih => simp [tld, ih]
theorem told_ok_len {l : List Ev} (h : l.all okP = true) : (told l).length = l.length + 1 := by unfold told; rw [h, if_pos rfl]; simp [tld_len]
theorem tld_at (d : List UInt8) (l : List Ev) (k : Nat) (hk : k < (tld d l).length) : ((tld d l)[k]).2 = headD d (l.take (k + 1)) := by
  induction l generalizing d k with
  | nil => simp [tld] at hk
  | cons e l ih =>
    cases k with
    | zero => rfl
    | succ k => simp only [tld, List.getElem_cons_succ]; rw [ih]; rfl
theorem told_at {l : List Ev} (h : l.all okP = true) (k : Nat) (hk : k < (told l).length) : ((told l)[k]).2 = headD startD (l.take k) := by
  have ht : told l = (CEN, startD) :: tld startD l := by unfold told; rw [h, if_pos rfl]
  have key : ∀ (T : List (List UInt8 × List UInt8)) (e : told l = T) (hk2 : k < T.length), ((told l)[k]).2 = (T[k]).2 := fun T e hk2 => by subst e; rfl
  have hk3 : k < ((CEN, startD) :: tld startD l).length := by rw [← ht]; exact hk
  rw [key _ ht hk3]
  cases k with
  | zero => rfl
  | succ k => rw [List.getElem_cons_succ]; exact tld_at startD l k (by simpa using hk3)
theorem all_take {l : List Ev} (h : l.all okP = true) (k : Nat) : (l.take k).all okP = true := by
  rw [List.all_eq_true] at *
  exact fun e he => h e (List.mem_of_mem_take he)
theorem Fit.take {l : List Ev} (h : Fit l) (k : Nat) : Fit (l.take k) := fun e he => h e (List.mem_of_mem_take he)
theorem EvsAt.take {B : Nat} {w : World} {p : Option Addr} {l : List Ev} (h : EvsAt B w p l) (k : Nat) : EvsAt B w p (l.take k) := by
  rcases h with h | ⟨b, o, hp, hb, hr⟩
  · left; rw [h]; simp
  · refine .inr ⟨b, o, hp, hb, fun j hj => ?_⟩
    have hjl : j < l.length := by rw [List.length_take] at hj; omega
    have := hr j hjl
    rw [List.getElem_take]
    exact this
theorem slice22 (p : Option Addr) (L cap m : Nat) (hm : m ≤ L) (hc : L ≤ cap) (v : World) : (Instr.sliceAt 22 (.slice p L cap) none (some (.int .i64 (m : Int))) none).run Try.prog v = .ok (.slice p m cap) v := by
  have ht : Try.prog.underlying 22 = some (.slice (Try.prog.elem 22)) := by kernel_rfl
  have e1 : Try.prog.elem 22 = 41 := by kernel_rfl
  rw [run_sliceAt_slice v 22 _ _ _ _ ht, run_slice_h v 22 p L cap ht .i64 (m : Int) (by omega) (by omega), e1, Try.sizeOf41]
  have : p.map (fun a : Addr => a.add 0) = p := by cases p <;> simp [Addr.add]
  simp [Result.andThen, sliced, this]
theorem wpList_sl {ops : Array Oper} {op : Oper} {rest : List Oper} {a : Act} {w : World} {Q : Exit → Act → World → Prop} (hw : Region.wanted op (yielded ops a.tmps) = true) (t : TypeId) (x y : Operand) (ho : op.op = .slice t x none (some y) none) (vx vy : Value) (hx : a.eval x = vx) (hy : a.eval y = vy) (v : Value)
    (hv : ∀ w, (Instr.sliceAt t vx none (some vy) none).run Try.prog w = .ok v w) (h : wpList Try.prog ops Q rest (a.put op.dst v) w) : wpList Try.prog ops Q (op :: rest) a w := by
  have he : (execOp a.eval op).run Try.prog w = .ok (.value v) w := by subst hx hy; unfold execOp; simp only [ho, Option.map_none, Option.map_some]; exact run_val (hv w)
  unfold wpList
  rw [if_pos hw]
  unfold Oper.wp
  rw [he]
  exact .inl h
def frF (p : Option Addr) (L cap m : Nat) (vh vk y11 y12 y13 y14 y15 y16 y17 y18 y19 y20 y21 y22 y23 y24 y25 y26 y27 y28 y29 y30 y31 y32 y33 y34 y35 y36 y37 y38 : Value) (x9 x10 x39 x40 x41 x42 x43 x44 x45 x46 : Value) : Act := { tmps := #[.slice p L cap, .int .i64 (m : Int), undef, undef, .bool false, .bool true, .bool true, vh, vk, x9, x10, y11, y12, y13, y14, y15, y16, y17, y18, y19, y20, y21, y22, y23, y24, y25, y26, y27, y28, y29, y30, y31, y32, y33, y34, y35, y36, y37, y38, x39, x40, x41, x42, x43, x44, x45, x46, undef, undef, undef, undef, undef, undef, undef, undef, undef, undef, undef, undef, undef, undef, undef, undef, undef, undef, undef, undef, undef, undef, undef, undef, undef, undef, undef, undef, undef, undef, undef, undef, undef, undef, undef, undef, undef, undef], defers := [] }
theorem KW.fresh {B : Nat} {w v : World} {L : List (Nat × Obj)} (h : KW B w L v) : v.heap.size ∉ L.map Prod.fst := fun hm => by
  obtain ⟨x, hx, e⟩ := List.mem_map.1 hm
  have := lt_of_some (h.has x hx)
  omega
/-- What holds at each step of 'd, ok := Head(Start(), l[:n])', in whatever order. -/
structure WF (w : World) (K : List (Nat × Obj)) (D S : List UInt8) (p : Option Addr) (L cap m : Nat) (vh vk y11 y12 y13 y14 y15 y16 y17 y18 y19 y20 y21 y22 y23 y24 y25 y26 y27 y28 y29 y30 y31 y32 y33 y34 y35 y36 y37 y38 : Value) (l0 l1 l2 l3 l4 l5 l6 l7 l8 l9 l10 : Bool) (x9 x10 x39 x40 x41 x42 x43 x44 x45 x46 : Value) (v : World) : Prop where
  kw : KW w.heap.size w K v
  e0 : l0 = true → x40 = .agg (row S)
  e1 : l1 = true → x41 = .slice p L cap
  e2 : l2 = true → x42 = .int .i64 (m : Int)
  e3 : l3 = true → x43 = .slice p m cap
  e4 : l4 = true → x44 = .tuple #[.agg (row D), .bool true]
  e5 : l5 = true → x39 = .tuple #[.agg (row D), .bool true]
  e6 : l6 = true → x45 = .agg (row D)
  e7 : l7 = true → x46 = .bool true
  e8 : l8 = true → ∃ b, x9 = .pointer (some ⟨b, 0, none⟩) ∧ w.heap.size ≤ b ∧ b ∉ K.map Prod.fst ∧ v.heap[b]? = some (.cells (if l9 then row D else row zs) 26)
  e10 : l10 = true → x10 = .bool true
  l98 : l9 = true → l8 = true
theorem WF.past {w : World} {K : List (Nat × Obj)} {D S : List UInt8} {p : Option Addr} {L cap m : Nat} {vh vk y11 y12 y13 y14 y15 y16 y17 y18 y19 y20 y21 y22 y23 y24 y25 y26 y27 y28 y29 y30 y31 y32 y33 y34 y35 y36 y37 y38 : Value} {v v' : World} {l0 l1 l2 l3 l4 l5 l6 l7 l8 l9 l10 : Bool} {x9 x10 x39 x40 x41 x42 x43 x44 x45 x46 : Value} (T : WF w K D S p L cap m vh vk y11 y12 y13 y14 y15 y16 y17 y18 y19 y20 y21 y22 y23 y24 y25 y26 y27 y28 y29 y30 y31 y32 y33 y34 y35 y36 y37 y38 l0 l1 l2 l3 l4 l5 l6 l7 l8 l9 l10 x9 x10 x39 x40 x41 x42 x43 x44 x45 x46 v) (hb : Below v.heap.size v v') : WF w K D S p L cap m vh vk y11 y12 y13 y14 y15 y16 y17 y18 y19 y20 y21 y22 y23 y24 y25 y26 y27 y28 y29 y30 y31 y32 y33 y34 y35 y36 y37 y38 l0 l1 l2 l3 l4 l5 l6 l7 l8 l9 l10 x9 x10 x39 x40 x41 x42 x43 x44 x45 x46 v' :=
  { T with kw := T.kw.past hb, e8 := fun h => by obtain ⟨b, h1, h2, h3, h4⟩ := T.e8 h; exact ⟨b, h1, h2, h3, (hb.block _ (lt_of_some h4)).trans h4⟩ }
theorem firstsA {ops : Array Oper} {Q : Exit → Act → World → Prop} {id : Nat} (w : World) (K : List (Nat × Obj)) (D S : List UInt8) (p : Option Addr) (L cap m : Nat) (vh vk y11 y12 y13 y14 y15 y16 y17 y18 y19 y20 y21 y22 y23 y24 y25 y26 y27 y28 y29 y30 y31 y32 y33 y34 y35 y36 y37 y38 : Value) (v : World) (hcS : ∀ v, Calls Try.prog 10 #[] v fun e v' => e = .returned (.agg (row S)) ∧ Below v.heap.size v v') (hD : D.length = 32) (hsl : ∀ v, (Instr.sliceAt 22 (.slice p L cap) none (some (.int .i64 (m : Int))) none).run Try.prog v = .ok (.slice p m cap) v) (hc : ∀ v, KW w.heap.size w K v → Calls Try.prog 9 #[.agg (row S), .slice p m cap] v fun e v' => e = .returned (.tuple #[.agg (row D), .bool true]) ∧ Below v.heap.size v v')
    (o0 o1 o2 o3 o4 o5 o6 o7 o8 o9 o10 : Oper) (hsz : ops.size = 11) (h0 : ops[0]? = some o0) (h1 : ops[1]? = some o1) (h2 : ops[2]? = some o2) (h3 : ops[3]? = some o3) (h4 : ops[4]? = some o4) (h5 : ops[5]? = some o5) (h6 : ops[6]? = some o6) (h7 : ops[7]? = some o7) (h8 : ops[8]? = some o8) (h9 : ops[9]? = some o9) (h10 : ops[10]? = some o10)
    (p0 : o0.op = .call { callee := .value (.func 10), args := #[], argTypes := #[] }) (p1 : o1.op = .move (.tmp 0)) (p2 : o2.op = .move (.tmp 1)) (p3 : o3.op = .slice 22 (.tmp 41) none (some (.tmp 42)) none) (p4 : o4.op = .call { callee := .value (.func 9), args := #[.tmp 40, .tmp 43], argTypes := #[26, 22] }) (p5 : o5.op = .move (.tmp 44)) (p6 : o6.op = .extract (.tmp 39) 0) (p7 : o7.op = .extract (.tmp 39) 1) (p8 : o8.op = .alloc 26) (p9 : o9.op = .store 26 (.tmp 9) (.tmp 45)) (p10 : o10.op = .assign (.tmp 46))
    (d0 : o0.dst = some 40) (d1 : o1.dst = some 41) (d2 : o2.dst = some 42) (d3 : o3.dst = some 43) (d4 : o4.dst = some 44) (d5 : o5.dst = some 39) (d6 : o6.dst = some 45) (d7 : o7.dst = some 46) (d8 : o8.dst = some 9) (d9 : o9.dst = none) (d10 : o10.dst = some 10)
    (g0 : o0.guard = none) (g1 : o1.guard = none) (g2 : o2.guard = none) (g3 : o3.guard = none) (g4 : o4.guard = none) (g5 : o5.guard = none) (g6 : o6.guard = none) (g7 : o7.guard = none) (g8 : o8.guard = none) (g9 : o9.guard = none) (g10 : o10.guard = none)
    (e3_1 : edgeB ops 3 1 = true) (e3_2 : edgeB ops 3 2 = true) (e4_0 : edgeB ops 4 0 = true) (e4_3 : edgeB ops 4 3 = true) (e5_4 : edgeB ops 5 4 = true) (e6_5 : edgeB ops 6 5 = true) (e7_5 : edgeB ops 7 5 = true) (e9_8 : edgeB ops 9 8 = true) (e9_6 : edgeB ops 9 6 = true) (e10_7 : edgeB ops 10 7 = true)
    (n0 : onlyB ops 0 [] = true) (n1 : onlyB ops 1 [] = true) (n2 : onlyB ops 2 [] = true) (n3 : onlyB ops 3 [1, 2] = true) (n4 : onlyB ops 4 [0, 3] = true) (n5 : onlyB ops 5 [4] = true) (n6 : onlyB ops 6 [5] = true) (n7 : onlyB ops 7 [5] = true) (n8 : onlyB ops 8 [] = true) (n9 : onlyB ops 9 [0, 1, 2, 3, 4, 5, 6, 8] = true) (n10 : onlyB ops 10 [0, 1, 2, 3, 4, 5, 6, 7, 8, 9] = true)
    (hkw : KW w.heap.size w K v)
    (hQ : ∀ b x39 x40 x41 x42 x43 x44 x45 x46 v', KW w.heap.size w ((b, .cells (row D) 26) :: K) v' → w.heap.size ≤ b → Q .normal (frF p L cap m vh vk y11 y12 y13 y14 y15 y16 y17 y18 y19 y20 y21 y22 y23 y24 y25 y26 y27 y28 y29 y30 y31 y32 y33 y34 y35 y36 y37 y38 (.pointer (some ⟨b, 0, none⟩)) (.bool true) x39 x40 x41 x42 x43 x44 x45 x46) v') :
    (Code.region id ops true).wp Try.prog Q (frF p L cap m vh vk y11 y12 y13 y14 y15 y16 y17 y18 y19 y20 y21 y22 y23 y24 y25 y26 y27 y28 y29 y30 y31 y32 y33 y34 y35 y36 y37 y38 undef undef undef undef undef undef undef undef undef undef) v := by
  refine wp_region_any (by kernel_rfl) ?_
  rw [hsz]
  refine wpAny_inv (fun listed a v => ∃ l0 l1 l2 l3 l4 l5 l6 l7 l8 l9 l10 x9 x10 x39 x40 x41 x42 x43 x44 x45 x46, listed = #[l0, l1, l2, l3, l4, l5, l6, l7, l8, l9, l10] ∧ a = frF p L cap m vh vk y11 y12 y13 y14 y15 y16 y17 y18 y19 y20 y21 y22 y23 y24 y25 y26 y27 y28 y29 y30 y31 y32 y33 y34 y35 y36 y37 y38 x9 x10 x39 x40 x41 x42 x43 x44 x45 x46 ∧ WF w K D S p L cap m vh vk y11 y12 y13 y14 y15 y16 y17 y18 y19 y20 y21 y22 y23 y24 y25 y26 y27 y28 y29 y30 y31 y32 y33 y34 y35 y36 y37 y38 l0 l1 l2 l3 l4 l5 l6 l7 l8 l9 l10 x9 x10 x39 x40 x41 x42 x43 x44 x45 x46 v) ?_ ?_ _ _ _ _ ?_ ?_
  · rintro listed a v ⟨l0, l1, l2, l3, l4, l5, l6, l7, l8, l9, l10, x9, x10, x39, x40, x41, x42, x43, x44, x45, x46, rfl, rfl, T⟩ i hi
    have hlt := ready_lt hi
    have hno := ready_not hi
    rw [hsz] at hlt
    obtain rfl | rfl | rfl | rfl | rfl | rfl | rfl | rfl | rfl | rfl | rfl : i = 0 ∨ i = 1 ∨ i = 2 ∨ i = 3 ∨ i = 4 ∨ i = 5 ∨ i = 6 ∨ i = 7 ∨ i = 8 ∨ i = 9 ∨ i = 10 := by omega
    · refine wpOp_plain h0 g0 (wp_call_fn0 10 p0 ent10 ((hcS v).mono ?_))
      rintro e v' ⟨rfl, hb⟩
      refine ⟨_, rfl, ?_⟩
      rw [d0]
      exact ⟨_, _, _, _, _, _, _, _, _, _, _, x9, x10, x39, _, x41, x42, x43, x44, x45, x46, rfl, rfl, { T.past hb with e0 := fun _ => rfl }⟩
    · refine wpOp_plain h1 g1 (wp_val (.slice p L cap) (by unfold execOp; simp only [p1]; rfl) ?_)
      rw [d1]
      exact ⟨_, _, _, _, _, _, _, _, _, _, _, x9, x10, x39, x40, _, x42, x43, x44, x45, x46, rfl, rfl, { T with e1 := fun _ => rfl }⟩
    · refine wpOp_plain h2 g2 (wp_val (.int .i64 (m : Int)) (by unfold execOp; simp only [p2]; rfl) ?_)
      rw [d2]
      exact ⟨_, _, _, _, _, _, _, _, _, _, _, x9, x10, x39, x40, x41, _, x43, x44, x45, x46, rfl, rfl, { T with e2 := fun _ => rfl }⟩
    · have k1 := T.e1 (ready_edge hi e3_1)
      have k2 := T.e2 (ready_edge hi e3_2)
      refine wpOp_plain h3 g3 (wp_val (.slice p m cap) (by unfold execOp; simp only [p3]; subst k1 k2; exact run_val (hsl v)) ?_)
      rw [d3]
      exact ⟨_, _, _, _, _, _, _, _, _, _, _, x9, x10, x39, x40, x41, x42, _, x44, x45, x46, rfl, rfl, { T with e3 := fun _ => rfl }⟩
    · have k0 := T.e0 (ready_edge hi e4_0)
      have k3 := T.e3 (ready_edge hi e4_3)
      refine wpOp_plain h4 g4 (wp_call_fn2 9 40 43 26 22 p4 ent9 _ _ k0 k3 ((hc v T.kw).mono ?_))
      rintro e v' ⟨rfl, hb⟩
      refine ⟨_, rfl, ?_⟩
      rw [d4]
      exact ⟨_, _, _, _, _, _, _, _, _, _, _, x9, x10, x39, x40, x41, x42, x43, _, x45, x46, rfl, rfl, { T.past hb with e4 := fun _ => rfl }⟩
    · have k2 := T.e4 (ready_edge hi e5_4)
      refine wpOp_plain h5 g5 (wp_val (.tuple #[.agg (row D), .bool true]) (by unfold execOp; simp only [p5]; subst k2; rfl) ?_)
      rw [d5]
      exact ⟨_, _, _, _, _, _, _, _, _, _, _, x9, x10, _, x40, x41, x42, x43, x44, x45, x46, rfl, rfl, { T with e5 := fun _ => rfl }⟩
    · have k3 := T.e5 (ready_edge hi e6_5)
      refine wpOp_plain h6 g6 (wp_val (.agg (row D)) (by unfold execOp; simp only [p6]; subst k3; rfl) ?_)
      rw [d6]
      exact ⟨_, _, _, _, _, _, _, _, _, _, _, x9, x10, x39, x40, x41, x42, x43, x44, _, x46, rfl, rfl, { T with e6 := fun _ => rfl }⟩
    · have k3 := T.e5 (ready_edge hi e7_5)
      refine wpOp_plain h7 g7 (wp_val (.bool true) (by unfold execOp; simp only [p7]; subst k3; rfl) ?_)
      rw [d7]
      exact ⟨_, _, _, _, _, _, _, _, _, _, _, x9, x10, x39, x40, x41, x42, x43, x44, x45, _, rfl, rfl, { T with e7 := fun _ => rfl }⟩
    · have k9 : l9 = false := by
        cases hq : l9 with
        | false => rfl
        | true =>
          have := T.l98 hq
          have hno' : l8 = false := hno
          rw [hno'] at this
          cases this
      refine wpOp_plain h8 g8 (wp_alloc_row 26 p8 (row zs) (zero26 v) ?_)
      rw [d8]
      have hB : Below v.heap.size v (v.alloc (.cells (row zs) 26)) := (Below.refl _ _).alloc (Nat.le_refl _) _
      exact ⟨_, _, _, _, _, _, _, _, _, _, _, _, x10, x39, x40, x41, x42, x43, x44, x45, x46, rfl, rfl, { T.past hB with e8 := fun _ => ⟨v.heap.size, rfl, T.kw.size, T.kw.fresh, by rw [k9, heap_alloc_if, if_pos rfl]; rfl⟩, l98 := fun _ => rfl }⟩
    · have k9 : l9 = false := hno
      have k6 := T.e6 (ready_edge hi e9_6)
      have k8 : l8 = true := ready_edge hi e9_8
      obtain ⟨b, q1, q2, q3, q4⟩ := T.e8 k8
      rw [k9] at q4
      subst q1
      refine wpOp_plain h9 g9 (wp_store_row 26 _ _ p9 b (row D) rfl k6 26 (row zs) q4 (row26 D hD) (row_eq _ _ zs_len hD) (row_one D) ?_)
      rw [d9]
      exact ⟨_, _, _, _, _, _, _, _, _, _, _, _, x10, x39, x40, x41, x42, x43, x44, x45, x46, rfl, rfl, { T with kw := T.kw.rowOther q2 q3 _, e8 := fun _ => ⟨b, rfl, q2, q3, setRow_heap _ _ _ _ _ _ q4⟩, l98 := fun _ => k8 }⟩
    · have k7 := T.e7 (ready_edge hi e10_7)
      refine wpOp_plain h10 g10 (wp_val (.bool true) (by unfold execOp; simp only [p10]; subst k7; rfl) ?_)
      rw [d10]
      exact ⟨_, _, _, _, _, _, _, _, _, _, _, x9, _, x39, x40, x41, x42, x43, x44, x45, x46, rfl, rfl, { T with e10 := fun _ => rfl }⟩
  · rintro listed a v ⟨l0, l1, l2, l3, l4, l5, l6, l7, l8, l9, l10, x9, x10, x39, x40, x41, x42, x43, x44, x45, x46, rfl, rfl, T⟩ hr
    have k0 : l0 = true := done_of hr 0 _ n0 (by simp)
    have k1 : l1 = true := done_of hr 1 _ n1 (by simp)
    have k2 : l2 = true := done_of hr 2 _ n2 (by simp)
    have k3 : l3 = true := done_of hr 3 _ n3 (by simp [k1, k2])
    have k4 : l4 = true := done_of hr 4 _ n4 (by simp [k0, k3])
    have k5 : l5 = true := done_of hr 5 _ n5 (by simp [k4])
    have k6 : l6 = true := done_of hr 6 _ n6 (by simp [k5])
    have k7 : l7 = true := done_of hr 7 _ n7 (by simp [k5])
    have k8 : l8 = true := done_of hr 8 _ n8 (by simp)
    have k9 : l9 = true := done_of hr 9 _ n9 (by simp [k0, k1, k2, k3, k4, k5, k6, k8])
    have k10 : l10 = true := done_of hr 10 _ n10 (by simp [k0, k1, k2, k3, k4, k5, k6, k7, k8, k9])
    obtain ⟨b, q1, q2, q3, q4⟩ := T.e8 k8
    rw [k9] at q4
    rw [q1, T.e10 k10]
    exact hQ b _ _ _ _ _ _ _ _ v (T.kw.know b _ q4 q3) q2
  · unfold todo; rw [hsz]; decide
  · refine ⟨false, false, false, false, false, false, false, false, false, false, false, undef, undef, undef, undef, undef, undef, undef, undef, undef, undef, rfl, rfl, ?_⟩
    exact { kw := hkw.drew, e0 := nofun, e1 := nofun, e2 := nofun, e3 := nofun, e4 := nofun, e5 := nofun, e6 := nofun, e7 := nofun, e8 := nofun, e10 := nofun, l98 := nofun }
set_option maxRecDepth 100000 in
set_option maxHeartbeats 2000000 in
theorem firsts_ok (l : List Ev) (m : Nat) (hm : m ≤ l.length) (hl : Hid ((l.length : Int) ≤ 9223372036854775807 ∧ (∀ e ∈ l, e.name.length ≤ 9223372036854775807) ∧ ∀ e ∈ l, e.wf)) (p : Option Addr) (cap : Nat) (w : World) (hE : Hid (EvsAt w.heap.size w p l)) (hcap : Hid (l.length ≤ cap)) (hq : Hid (fewB l = true)) (fl : Hid (Fit l ∧ l.length ≤ 20)) (ol : Hid (l.all okP = true)) :
    Calls Try.prog 6 #[.slice p l.length cap, .int .i64 (m : Int)] w fun e w' => e = .returned (.bool true) ∧ Below w.heap.size w w' := by
  have h20 : l.length ≤ 20 := fl.out.2
  have hTl : Hid ((told l).length = l.length + 1) := Lib.hid (told_ok_len ol.out)
  have hmt : Hid ((l.take m).length = m) := Lib.hid (by rw [List.length_take]; omega)
  have hTk : Hid ((told (l.take m)).length = m + 1) := Lib.hid (by rw [told_ok_len (all_take ol.out m), hmt.out])
  obtain ⟨D, hDe⟩ : ∃ D, Hid (headD startD (l.take m) = D) := ⟨_, Lib.hid rfl⟩
  have hD : Hid (D.length = 32) := Lib.hid (by rw [← hDe.out]; exact headD_len _ _ startD_len)
  have t0 : ¬ ((m : Int) < 0) := by omega
  have t3 : ¬ ((l.length : Int) < (m : Int)) := by omega
  have t4 : (m : Int) ≤ (cap : Int) := by have := hcap.out; omega
  have sl : Hid (∀ v, (Instr.sliceAt 22 (.slice p l.length cap) none (some (.int .i64 (m : Int))) none).run Try.prog v = .ok (.slice p m cap) v) := Lib.hid (fun v => slice22 p l.length cap m hm hcap.out v)
  go_enter Try.func6, Try.ntmps6
  go_wp2_with fail
  refine (works_any _).mono ?_
  rintro e v0 ⟨rfl, b0⟩
  have K0 := Lib.hid ((KW.start w).past b0)
  have fa := Lib.hid (few_any l hl.out.1 hl.out.2.1 p cap v0 ((hE.out.past b0).mono b0.size))
  rw [hq.out] at fa
  clear b0
  go_wp2_with fail
  refine fa.out.mono ?_
  rintro e u ⟨rfl, rfl⟩
  clear fa
  have ch1 := Lib.hid (heads_any l fl.out.1 (by omega) p cap v0 ((hE.out.past K0.out.bel).mono K0.out.size))
  go_wp2_with fail
  refine ch1.out.mono ?_
  rintro r v1 ⟨x, rfl, ho, b1⟩
  rcases own_digs (fun y hy => (told_fine l fl.out.1 y hy).2) ho with ⟨_, h0⟩ | ⟨gh, ch, curh, hxe, hg1, hgh, hld⟩
  · exfalso; have := hTl.out; rw [h0] at this; simp at this
  rw [hTl.out] at hxe
  subst hxe
  have K1 : Hid (KW w.heap.size w [(gh, .cells curh 26)] v1) := Lib.hid ((K0.out.past b1).know gh _ hgh (by simp))
  have ldh : Hid (∀ u : World, u.heap[gh]? = some (.cells curh 26) → (Instr.loadAt 26 (.pointer (some ⟨gh, m * 32, none⟩))).run Try.prog u = .ok (.agg (row D)) u) := Lib.hid (fun u hu => by
    have h := hld m (by rw [hTl.out]; omega) u hu
    rw [told_at ol.out m, hDe.out] at h
    exact h)
  clear ho b1 hg1 hgh hld ch1
  have hn0 : ¬ ((l.length : Int) + 1 = 0) := by omega
  have ch2 := Lib.hid (heads_any (l.take m) (fl.out.1.take m) (by have := hmt.out; omega) p cap v1 (((hE.out.take m).past K1.out.bel).mono K1.out.size))
  rw [hmt.out] at ch2
  go_wp2_with (with_reducible refine wpList_sl (by with_unfolding_all rfl) 22 (.tmp 35) (.tmp 36) rfl _ _ rfl rfl _ sl.out ?_)
  refine ch2.out.mono ?_
  rintro r v2 ⟨x, rfl, ho, b2⟩
  rcases own_digs (fun y hy => (told_fine (l.take m) (fl.out.1.take m) y hy).2) ho with ⟨_, h0⟩ | ⟨gk, ck, curk, hxe, hg2, hgk, hld⟩
  · exfalso; have := hTk.out; rw [h0] at this; simp at this
  rw [hTk.out] at hxe
  subst hxe
  have K2 : Hid (KW w.heap.size w [(gk, .cells curk 26), (gh, .cells curh 26)] v2) := Lib.hid ((K1.out.past b2).know gk _ hgk (by have := K1.out.lt 0 rfl; simp; omega))
  have ldk : Hid (∀ u : World, u.heap[gk]? = some (.cells curk 26) → (Instr.loadAt 26 (.pointer (some ⟨gk, m * 32, none⟩))).run Try.prog u = .ok (.agg (row D)) u) := Lib.hid (fun u hu => by
    have h := hld m (by rw [hTk.out]; omega) u hu
    rw [told_at (all_take ol.out m) m, List.take_take, Nat.min_self, hDe.out] at h
    exact h)
  clear ho b2 hg2 hgk hld ch2
  have hc : Hid (∀ v, KW w.heap.size w [(gk, .cells curk 26), (gh, .cells curh 26)] v → Calls Try.prog 9 #[.agg (row startD), .slice p m cap] v fun e v' => e = .returned (.tuple #[.agg (row D), .bool true]) ∧ Below v.heap.size v v') := Lib.hid (fun v h => by
    have hh := head_any startD startD_len (l.take m) (fl.out.1.take m) (by have := hmt.out; omega) p cap v (((hE.out.take m).past h.bel).mono h.size)
    have e1 := all_take ol.out m
    have e2 : hdR startD (l.take m) = D := by unfold hdR; rw [e1, ← hDe.out]; rfl
    rw [e1, e2, hmt.out] at hh
    exact hh)
  go_wp2_with (refine park_region (fun Pk hX => ?_))
  refine hX.out ?_
  refine firstsA w [(gk, .cells curk 26), (gh, .cells curh 26)] D startD p l.length cap m (.slice (some ⟨gh, 0, none⟩) (l.length + 1) ch) (.slice (some ⟨gk, 0, none⟩) (m + 1) ck) _ _ _ _ _ _ _ _ _ _ _ _ _ _ _ _ _ _ _ _ _ _ _ _ _ _ _ _ _ (fun v => start_any v) hD.out sl.out hc.out _ _ _ _ _ _ _ _ _ _ _ rfl rfl rfl rfl rfl rfl rfl rfl rfl rfl rfl rfl rfl rfl rfl rfl rfl rfl rfl rfl rfl rfl rfl rfl rfl rfl rfl rfl rfl rfl rfl rfl rfl rfl rfl rfl rfl rfl rfl rfl rfl rfl rfl rfl rfl
    (by kernel_rfl) (by kernel_rfl) (by kernel_rfl) (by kernel_rfl) (by kernel_rfl) (by kernel_rfl) (by kernel_rfl) (by kernel_rfl) (by kernel_rfl) (by kernel_rfl) (by kernel_rfl) (by kernel_rfl) (by kernel_rfl) (by kernel_rfl) (by kernel_rfl) (by kernel_rfl) (by kernel_rfl) (by kernel_rfl) (by kernel_rfl) (by kernel_rfl) (by kernel_rfl) K2.out ?_
  intro b x39 x40 x41 x42 x43 x44 x45 x46 v3 hK3 hb3
  clear hX
  simp only [frF]
  have K3 := Lib.hid hK3.drew
  clear hK3
  have eqD : Hid (∀ v, (Op.equalIn 10000 26 (.agg (row D)) (.agg (row D))).run Try.prog v = .ok true v) := Lib.hid (fun v => (eql_dig D D hD.out hD.out v).trans (by simp))
  have ixk : Hid (∀ v, (Instr.indexAt 35 (.slice (some ⟨gk, 0, none⟩) (m + 1) ck) (.int .i64 (m : Int))).run Try.prog v = .ok (.pointer (some ⟨gk, m * 32, none⟩)) v) := Lib.hid (fun v => index35 gk (m + 1) ck m (by omega) v)
  have ixh : Hid (∀ v, (Instr.indexAt 35 (.slice (some ⟨gh, 0, none⟩) (l.length + 1) ch) (.int .i64 (m : Int))).run Try.prog v = .ok (.pointer (some ⟨gh, m * 32, none⟩)) v) := Lib.hid (fun v => index35 gh (l.length + 1) ch m (by omega) v)
  have t1 : (((l.length + 1 : Nat) : Int) == (l.length : Int) + 1) = true := by simp
  have t2 : (((m + 1 : Nat) : Int) == (m : Int) + 1) = true := by simp
  have add1 : Hid (∀ (k : Nat), k ≤ 20 → ∀ u : World, (do pure (Next.value (← binOp .add 3 (.int .i64 (k : Int)) (.int .i64 1))) : Sem Next).run Try.prog u = .ok (.value (.int .i64 ((k : Int) + 1))) u) := Lib.hid (fun k hk u => by
    have e : IntKind.i64.wrap ((k : Int) + 1) = (k : Int) + 1 := by
      simp [IntKind.wrap, IntKind.signed, IntKind.bits]
      omega
    simp [binOp, go_sem, e])
  go_wp2_with (refine park_region (fun Pk hX => ?_))
  refine hX.out ?_
  clear hX
  refine wp_region_class (KW w.heap.size w [(b, .cells (row D) 26), (gk, .cells curk 26), (gh, .cells curh 26)]) (by kernel_rfl) (by kernel_rfl) K3.out ?_
  refine wpQuiet_move (by rfl) _ (.inl rfl) (.bool true) rfl ?_
  refine wpQuiet_move (by rfl) _ (.inl rfl) (.bool true) rfl ?_
  refine wpQuiet_move (by rfl) _ (.inl rfl) (.bool true) rfl ?_
  refine wpQuiet_pick (by rfl) _ _ _ rfl true rfl (.bool true) rfl ?_
  refine wpQuiet_move (by rfl) _ (.inl rfl) (.bool true) rfl ?_
  simp only [Act.put, List.setIfInBounds_toArray, List.set_cons_zero, List.set_cons_succ]
  refine wpQuiet_move (by rfl) _ (.inl rfl) (.slice (some ⟨gh, 0, none⟩) (l.length + 1) ch) rfl ?_
  refine wpQuiet_slen (by rfl) 35 26 _ rfl _ (l.length + 1) _ rfl Try.underlying35 ?_
  simp only [Act.put, List.setIfInBounds_toArray, List.set_cons_zero, List.set_cons_succ]
  refine wpQuiet_move (by rfl) _ (.inl rfl) (.slice p l.length cap) rfl ?_
  refine wpQuiet_slen (by rfl) 22 41 _ rfl _ l.length _ rfl Try.underlying22 ?_
  simp only [Act.put, List.setIfInBounds_toArray, List.set_cons_zero, List.set_cons_succ]
  refine wpQuiet_val (by rfl) (.int .i64 ((l.length : Int) + 1)) (fun u _ => add1.out _ (by omega) u) ?_
  simp only [Act.put, List.setIfInBounds_toArray, List.set_cons_zero, List.set_cons_succ]
  refine wpQuiet_ieq (by rfl) _ _ _ _ rfl .i64 _ _ rfl rfl true t1 ?_
  refine wpQuiet_pick (by rfl) _ _ _ rfl true rfl (.bool true) rfl ?_
  refine wpQuiet_move (by rfl) _ (.inl rfl) (.bool true) rfl ?_
  simp only [Act.put, List.setIfInBounds_toArray, List.set_cons_zero, List.set_cons_succ]
  refine wpQuiet_move (by rfl) _ (.inl rfl) (.slice (some ⟨gk, 0, none⟩) (m + 1) ck) rfl ?_
  refine wpQuiet_slen (by rfl) 35 26 _ rfl _ (m + 1) _ rfl Try.underlying35 ?_
  simp only [Act.put, List.setIfInBounds_toArray, List.set_cons_zero, List.set_cons_succ]
  refine wpQuiet_move (by rfl) _ (.inl rfl) (.int .i64 (m : Int)) rfl ?_
  refine wpQuiet_val (by rfl) (.int .i64 ((m : Int) + 1)) (fun u _ => add1.out _ (by omega) u) ?_
  simp only [Act.put, List.setIfInBounds_toArray, List.set_cons_zero, List.set_cons_succ]
  refine wpQuiet_ieq (by rfl) _ _ _ _ rfl .i64 _ _ rfl rfl true t2 ?_
  refine wpQuiet_pick (by rfl) _ _ _ rfl true rfl (.bool true) rfl ?_
  refine wpQuiet_move (by rfl) _ (.inl rfl) (.bool true) rfl ?_
  simp only [Act.put, List.setIfInBounds_toArray, List.set_cons_zero, List.set_cons_succ]
  refine wpQuiet_move (by rfl) _ (.inl rfl) (.slice (some ⟨gk, 0, none⟩) (m + 1) ck) rfl ?_
  refine wpQuiet_move (by rfl) _ (.inl rfl) (.int .i64 (m : Int)) rfl ?_
  refine wpQuiet_index (by rfl) 35 _ _ rfl _ _ rfl rfl _ ixk.out ?_
  refine wpQuiet_mid (by rfl) 26 _ rfl gk (m * 32) rfl (.agg (row D)) (fun v h => ldk.out v (h.at 1 rfl)) ?_
  simp only [Act.put, List.setIfInBounds_toArray, List.set_cons_zero, List.set_cons_succ]
  refine wpQuiet_move (by rfl) _ (.inl rfl) (.slice (some ⟨gh, 0, none⟩) (l.length + 1) ch) rfl ?_
  refine wpQuiet_move (by rfl) _ (.inl rfl) (.int .i64 (m : Int)) rfl ?_
  refine wpQuiet_index (by rfl) 35 _ _ rfl _ _ rfl rfl _ ixh.out ?_
  refine wpQuiet_mid (by rfl) 26 _ rfl gh (m * 32) rfl (.agg (row D)) (fun v h => ldh.out v (h.at 2 rfl)) ?_
  simp only [Act.put, List.setIfInBounds_toArray, List.set_cons_zero, List.set_cons_succ]
  refine wpQuiet_deq (by rfl) _ _ _ _ rfl (row D) (row D) rfl rfl (by kernel_rfl) true eqD.out ?_
  refine wpQuiet_pick (by rfl) _ _ _ rfl true rfl (.bool true) rfl ?_
  refine wpQuiet_move (by rfl) _ (.inl rfl) (.bool true) rfl ?_
  simp only [Act.put, List.setIfInBounds_toArray, List.set_cons_zero, List.set_cons_succ]
  refine wpQuiet_load (by rfl) 26 (.tmp 9) rfl _ rfl 26 (row D) _ (fun _ h => h.at 0 rfl) Try.underlying26 rfl (row26 D hD.out) ?_
  refine wpQuiet_move (by rfl) _ (.inl rfl) (.slice (some ⟨gh, 0, none⟩) (l.length + 1) ch) rfl ?_
  refine wpQuiet_move (by rfl) _ (.inl rfl) (.int .i64 (m : Int)) rfl ?_
  refine wpQuiet_index (by rfl) 35 _ _ rfl _ _ rfl rfl _ ixh.out ?_
  refine wpQuiet_mid (by rfl) 26 _ rfl gh (m * 32) rfl (.agg (row D)) (fun v h => ldh.out v (h.at 2 rfl)) ?_
  simp only [Act.put, List.setIfInBounds_toArray, List.set_cons_zero, List.set_cons_succ]
  refine wpQuiet_deq (by rfl) _ _ _ _ rfl (row D) (row D) rfl rfl (by kernel_rfl) true eqD.out ?_
  refine wpQuiet_pick (by rfl) _ _ _ rfl true rfl (.bool true) rfl ?_
  refine wpQuiet_move (by rfl) _ (.inr rfl) (.bool true) rfl ?_
  simp only [Act.put, List.setIfInBounds_toArray, List.set_cons_zero, List.set_cons_succ]
  refine wpQuiet_nil ?_
  intro x hx
  go_wp2_with fail
  go_ret
  exact ⟨rfl, hx.bel⟩
end Go.Proofs.Ytfilolmbppjbjaa
