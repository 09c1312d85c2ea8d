/-
  The document's example, as the statements begin with it: works.
-/
import Derived.Test.YtfilolmbppjbjaaGreatTick
namespace Go.Proofs.YtfilolmbppjbjaaGreat
open Go Go.RowKit

def d1L : List UInt8 := nextD startD E1
theorem told_none : told [] = [(CEN, startD)] := rfl
theorem told_E1 : told [E1] = [(CEN, startD), (startD ++ [7, 1], d1L)] := by
  unfold told
  have h : [E1].all okP = true := by simp [E1_ok]
  rw [h, if_pos rfl]
  show [(CEN, startD), (startD ++ putE E1, nextD startD E1)] = _
  rw [E1_put]; rfl
theorem D1_ne : d1L ≠ startD := by
  unfold d1L nextD
  rw [E1_put, startD_eq]
  decide +kernel
theorem fit_none : Fit [] := fun e h => (by cases h)
theorem fit_E1 : Fit [E1] := fun e h => by rw [List.mem_singleton] at h; rw [h]; exact E1_fit
theorem evs_none (B : Nat) (w : World) (p : Option Addr) : EvsAt B w p [] := .inl rfl
theorem evs_one {B : Nat} {w : World} {g : Nat} (h : w.heap[g]? = some (.cells (evr E1) 34)) (hB : g < B) : EvsAt B w (some ⟨g, 0, none⟩) [E1] := by
  refine .inr ⟨g, 0, rfl, hB, fun k hk j x hx => ?_⟩
  have : k = 0 := by simp at hk; omega
  subst this
  rw [cell_of_row w g _ _ _ _ h]
  simpa using hx
section
variable {P : Program} {ops : Array Oper} {C : World → Prop} {Q : Act → Prop} {a : Act} {o : Oper} {rest : List Oper}
theorem wpQuiet_call0 (hw : Region.wanted o (yielded ops a.tmps) = true) (f : FuncId) (ts : Array TypeId) (ho : o.op = .call { callee := .value (.func f), args := #[], argTypes := ts })
    (he : ∀ args w, (callFunc f args).run P w = .ok (.enter f args) w) (v : Value) (hc : ∀ w, C w → Calls P f #[] w fun e w' => e = .returned v ∧ C w')
    (h : wpQuiet P ops C Q rest (a.put o.dst v)) : wpQuiet P ops C Q (o :: rest) a :=
  wpQuiet_call hw f _ ts ho he _ (by simp) v hc h
theorem wpQuiet_slen (hw : Region.wanted o (yielded ops a.tmps) = true) (t e : TypeId) (x : Operand) (ho : o.op = .call { callee := .builtin .len, args := #[x], argTypes := #[t] }) (p : Option Addr) (k c : Nat) (hx : a.eval x = .slice p k c) (ht : P.underlying t = some (.slice e))
    (h : wpQuiet P ops C Q rest (a.put o.dst (.int .i64 (k : Int)))) : wpQuiet P ops C Q (o :: rest) a :=
  wpQuiet_val hw _ (fun w _ => by unfold execOp; simp only [ho]; simp only [resolve, List.map_toArray, List.map_cons, List.map_nil, hx]; simp [invoke, builtin, Builtin.len_, run_underlying ht, goInt, go_sem]) h
theorem wpQuiet_dne (hw : Region.wanted o (yielded ops a.tmps) = true) (t t' : TypeId) (x y : Operand) (ho : o.op = .binOp .neq t x y t') (c d : Array Value) (hx : a.eval x = .agg c) (hy : a.eval y = .agg d) (hp : P.eqGuardType P.depth t = false) (r : Bool) (hr : ∀ w, (Op.equalIn 10000 t (.agg c) (.agg d)).run P w = .ok r w)
    (h : wpQuiet P ops C Q rest (a.put o.dst (.bool (!r)))) : wpQuiet P ops C Q (o :: rest) a :=
  wpQuiet_val hw _ (fun w _ => by unfold execOp; simp only [ho, hx, hy]; simp [eqGuard, hp, run_neq_struct, hr, go_sem]) h
theorem wpList_build2 {w : World} {Q : Exit → Act → World → Prop} (hgd : o.guard = none) (t : TypeId) (i j : Nat) (x y : Operand) (ho : o.op = .build t #[(i, x), (j, y)]) (u1 u2 : Value) (hx : a.eval x = u1) (hy : a.eval y = u2) (v : Value) (hv : ∀ w, (Instr.build t #[(i, u1), (j, u2)]).run P w = .ok v w)
    (h : wpList P ops Q rest (a.put o.dst v) w) : wpList P ops Q (o :: rest) a w :=
  wpList_plain hgd fun _ hK => by
    unfold Oper.wp execOp
    simp only [ho, List.map_toArray, List.map_cons, List.map_nil, hx, hy, Sem.run_bind, hv, Result.andThen_ok, Sem.run_pure]
    exact hK _ _ h
end
theorem seg_build1 {P : Program} {Q : Exit → Act → World → Prop} {a : Act} {w : World} {l : List Oper} (k : Nat) (o : Oper) (ho : l.toArray[k]? = some o) (hr : (Region.ready .any l.toArray (upto l.toArray.size k) == [k]) = true) (hw : Region.wanted o (yielded l.toArray a.tmps) = true)
    (t : TypeId) (x : Operand) (hop : o.op = .buildSlice t 1 #[(0, x)]) (d : Option Tmp) (hd : o.dst = d) (u v : Value) (hx : a.eval x = u) (w' : World) (hv : (Instr.buildSlice t 1 #[(0, u)]).run P w = .ok v w') (h : Seg P l.toArray Q (k + 1) (a.put d v) w') : Seg P l.toArray Q k a w :=
  seg_one k o ho hr hw (wp_build1 t x hop u v hx hv (by rw [hd]; exact h))
theorem ent18 : ∀ args w, (callFunc 18 args).run Tryz.prog w = .ok (.enter 18 args) w := enters_of Tryz.func18 (by kernel_rfl) rfl
theorem ent13 : ∀ args w, (callFunc 13 args).run Tryz.prog w = .ok (.enter 13 args) w := enters_of Tryz.func13 (by kernel_rfl) rfl
theorem buildE1 (v : World) : (Instr.build 34 #[(0, .int .i64 7), (3, .int .i64 1)]).run Tryz.prog v = .ok (.agg (evr E1)) v := run_build v 34 _ _ (by kernel_rfl)
theorem index35 (g n c k : Nat) (hk : k < n) (v : World) : (Instr.indexAt 29 (.slice (some ⟨g, 0, none⟩) n c) (.int .i64 (k : Int))).run Tryz.prog v = .ok (.pointer (some ⟨g, k * 32, none⟩)) v := by
  rw [run_indexAt_slice (P := Tryz.prog) v 29 ⟨g, 0, none⟩ n c .i64 (k : Int) (by kernel_rfl)]
  have e1 : Tryz.prog.elem 29 = 23 := by kernel_rfl
  simp [e1, Tryz.sizeOf23, hk, Addr.add_mid]
/-- What 'Heads' returned, once more: a row of digests. -/
theorem own_digs {n₀ : Nat} {w : World} {v : Value} {T : List (List UInt8 × List UInt8)} (hT : ∀ x ∈ T, x.2.length = 32) (h : w.ownsRow n₀ 23 32 v T.length (digs T)) : (v = .slice none 0 0 ∧ T = []) ∨ ∃ g cap cur, v = .slice (some ⟨g, 0, none⟩) T.length cap ∧ n₀ ≤ g ∧ w.heap[g]? = some (.cells cur 23) ∧ ∀ k (hk : k < T.length), ∀ u : World, u.heap[g]? = some (.cells cur 23) → (Instr.loadAt 23 (.pointer (some ⟨g, k * 32, none⟩))).run Tryz.prog u = .ok (.agg (row T[k].2)) u := by
  rcases h.2 with ⟨h1, h0⟩ | ⟨g, cap, cur, h1, h2, h3, h4, h5, h6, h7⟩
  · exact .inl ⟨h1, List.eq_nil_of_length_eq_zero h0⟩
  · refine .inr ⟨g, cap, cur, h1, h2, h3, fun k hk u hu => ?_⟩
    have key : ∀ (T : List (List UInt8 × List UInt8)), (∀ x ∈ T, x.2.length = 32) → ∀ k (hk : k < T.length) j, j < 32 → (digs T)[k * 32 + j]? = (row T[k].2).toList[j]? := by
      intro T
      induction T with
      | nil => intro _ k hk; simp at hk
      | cons x T ih =>
        intro hT k hk j hj
        have hx : (row x.2).toList.length = 32 := by rw [Array.length_toList, row_size, hT x (by simp)]
        have hd : digs (x :: T) = (row x.2).toList ++ digs T := by simp [digs]
        cases k with
        | zero => rw [hd, Nat.zero_mul, Nat.zero_add, List.getElem?_append_left (by omega)]; rfl
        | succ k =>
          rw [hd, List.getElem?_append_right (by omega), hx, show (k + 1) * 32 + j - 32 = k * 32 + j by omega]
          exact ih (fun y hy => hT y (by simp [hy])) k (by simpa using hk) j hj
    have hl : (T[k].2).length = 32 := hT _ (List.getElem_mem hk)
    have := run_loadAt_mid (P := Tryz.prog) u g (k * 32) 23 (row T[k].2).toList _ (fun j x hx => by
      have hj : j < 32 := by
        have := (List.getElem?_eq_some_iff.1 hx).1
        rw [Array.length_toList, row_size, hl] at this; exact this
      rw [cell_of_row u g _ _ _ _ hu, ← Array.getElem?_toList]
      have h8 : (cur.toList.take (T.length * 32))[k * 32 + j]? = (digs T)[k * 32 + j]? := by rw [h7]
      rw [List.getElem?_take_of_lt (by omega)] at h8
      rw [h8, key T hT k hk j hj]; exact hx) Tryz.underlying23 rfl (by rw [Array.length_toList, row_size, hl]; exact info28)
    simpa using this

set_option maxRecDepth 100000 in
set_option maxHeartbeats 2000000 in
theorem works_gen (E : Ev) (S D1 : List UInt8) (I1 : ByteArray) (hEs : Hid (E.sum.length = 32)) (hD : Hid (D1.length = 32)) (hS : Hid (S.length = 32))
    (cN : Hid (∀ v, Calls Tryz.prog 11 #[.agg (row S), .agg (evr E)] v fun e v' => e = .returned (.tuple #[.agg (row D1), .bool true]) ∧ Below v.heap.size v v'))
    (cH : Hid (∀ v g, v.heap[g]? = some (.cells (evr E) 34) → Calls Tryz.prog 7 #[.agg (row S), .slice (some ⟨g, 0, none⟩) 1 1] v fun e v' => e = .returned (.tuple #[.agg (row D1), .bool true]) ∧ Below v.heap.size v v'))
    (cS0 : Hid (∀ v, Calls Tryz.prog 17 #[] v fun e v' => e = .returned (.agg (row S)) ∧ Below v.heap.size v v'))
    (cO0 : Hid (∀ v, Calls Tryz.prog 18 #[.string ⟨#[99, 101, 110, 111, 116, 97, 112, 104]⟩] v fun e v' => e = .returned (.agg (row S)) ∧ Below v.heap.size v v'))
    (cHs : Hid (∀ v g, v.heap[g]? = some (.cells (evr E) 34) → Calls Tryz.prog 9 #[.slice (some ⟨g, 0, none⟩) 1 1] v fun r v' => ∃ x, r = .returned x ∧ (∃ g cap cur, x = .slice (some ⟨g, 0, none⟩) 2 cap ∧ v.heap.size ≤ g ∧ v'.heap[g]? = some (.cells cur 23) ∧ ∀ u : World, u.heap[g]? = some (.cells cur 23) → (Instr.loadAt 23 (.pointer (some ⟨g, 32, none⟩))).run Tryz.prog u = .ok (.agg (row D1)) u) ∧ Below v.heap.size v v'))
    (cC : Hid (∀ v g, v.heap[g]? = some (.cells (evr E) 34) → Calls Tryz.prog 15 #[.slice none 0 0, .slice (some ⟨g, 0, none⟩) 1 1] v fun r v' => r = .returned (.tuple #[.string ⟨#[]⟩, .string ⟨#[]⟩, .bool false]) ∧ Below v.heap.size v v'))
    (hI1 : Hid ((I1.size : Int) = 34))
    (cI : Hid (∀ g (i : Nat) v, v.heap[g]? = some (.cells (evr E) 34) → Calls Tryz.prog 13 #[.slice (some ⟨g, 0, none⟩) 1 1, .int .i64 (i : Int)] v fun r v' => r = .returned (.string (if i = 0 then ⟨#[99, 101, 110, 111, 116, 97, 112, 104]⟩ else if i = 1 then I1 else ⟨#[]⟩)) ∧ Below v.heap.size v v'))
    (eqN : Hid (∀ v, (Op.equalIn 10000 23 (.agg (row D1)) (.agg (row S))).run Tryz.prog v = .ok false v))
    (bE : Hid ((((evr zeroE).setIfInBounds 0 (.int .i64 7)).setIfInBounds 3 (.int .i64 1)) = evr E)) (w : World) :
    Calls Tryz.prog 5 #[] w fun e w' => e = .returned (.bool true) ∧ Below w.heap.size w w' := by
  have eqS : Hid (∀ v, (Op.equalIn 10000 23 (.agg (row S)) (.agg (row S))).run Tryz.prog v = .ok true v) := Lib.hid (fun v => (eql_dig S S hS.out hS.out v).trans (by simp))
  have eqD : Hid (∀ v, (Op.equalIn 10000 23 (.agg (row D1)) (.agg (row D1))).run Tryz.prog v = .ok true v) := Lib.hid (fun v => (eql_dig D1 D1 hD.out hD.out v).trans (by simp))
  have hz := zero26
  have hz41 := z41
  have hE0 : Hid ((w.alloc (.cells (evr zeroE) 34)).heap[w.heap.size]? = some (.cells (evr zeroE) 34)) := Lib.hid (by rw [heap_alloc_if, if_pos rfl])
  have hK0 : Hid (KW w.heap.size w [(w.heap.size, .cells (evr E) 34)] ((w.alloc (.cells (evr zeroE) 34)).setRow w.heap.size (evr E))) := Lib.hid (((KW.start w).new (.cells (evr zeroE) 34)).row 0 rfl (Nat.le_refl _) (evr E))
  have hE1 : Hid ((Tryz.prog.info? 34).map (·.size) = some (((evr zeroE).setIfInBounds 0 (.int .i64 7)).setIfInBounds 3 (.int .i64 1)).size ∧ (evr zeroE).size = (((evr zeroE).setIfInBounds 0 (.int .i64 7)).setIfInBounds 3 (.int .i64 1)).size ∧ (((evr zeroE).setIfInBounds 0 (.int .i64 7)).setIfInBounds 3 (.int .i64 1)).all (·.oneCell') = true) := Lib.hid (by rw [bE.out]; exact ⟨row41 E hEs.out, evr_same _ _ rfl hEs.out, evr_one E⟩)
  go_enter Tryz.func5, Tryz.ntmps5
  go_wp2_with (first
    | (refine park_region (fun Pk hX => ?_))
    | (with_reducible refine wpList_store_row rfl 34 (.tmp 1) (.tmp 10) rfl _ (((evr zeroE).setIfInBounds 0 (.int .i64 7)).setIfInBounds 3 (.int .i64 1)) rfl rfl 34 _ hE0.out hE1.out.1 hE1.out.2.1 hE1.out.2.2 ?_))
  refine hX.out ?_
  rw [bE.out]
  refine tickA E w w.heap.size D1 S _ hEs.out cS0.out hD.out cN.out _ _ _ _ _ _ _ _ _ rfl rfl rfl rfl rfl rfl rfl rfl rfl rfl rfl rfl rfl rfl rfl rfl rfl rfl rfl rfl rfl rfl rfl rfl rfl rfl rfl rfl rfl rfl rfl rfl rfl rfl rfl rfl rfl
    (by kernel_rfl) (by kernel_rfl) (by kernel_rfl) (by kernel_rfl) (by kernel_rfl) (by kernel_rfl) (by kernel_rfl) (by kernel_rfl) (by kernel_rfl) (by kernel_rfl) (by kernel_rfl) (by kernel_rfl) (by kernel_rfl) (by kernel_rfl) (by kernel_rfl) (by kernel_rfl) (by kernel_rfl) hK0.out.bel (hK0.out.at 0 rfl) (Nat.le_refl _) ?_
  intro b2 x11 x12 x13 x14 x15 x16 v1 hB1 hz1 hb2 hn2 h21
  clear hX
  simp only [frA]
  go_wp2_with (refine park_region (fun Pk hX => ?_))
  refine hX.out ?_
  refine tickB E w w.heap.size b2 D1 S _ _ _ _ _ _ _ _ _ hEs.out cS0.out hD.out cH.out _ _ _ _ _ _ _ _ _ _ rfl rfl rfl rfl rfl rfl rfl rfl rfl rfl rfl rfl rfl rfl rfl rfl rfl rfl rfl rfl rfl rfl rfl rfl rfl rfl rfl rfl rfl rfl rfl rfl rfl rfl rfl rfl rfl rfl rfl rfl rfl
    (by kernel_rfl) (by kernel_rfl) (by kernel_rfl) (by kernel_rfl) (by kernel_rfl) (by kernel_rfl) (by kernel_rfl) (by kernel_rfl) (by kernel_rfl) (by kernel_rfl) (by kernel_rfl) (by kernel_rfl) (by kernel_rfl) (by kernel_rfl) (by kernel_rfl) (by kernel_rfl) (by kernel_rfl) (by kernel_rfl) (by kernel_rfl) hB1 hz1 h21 (Nat.le_refl _) ?_
  intro b4 x17 x18 x19 x20 x21 x22 x23 v2 hB2 hz2 h22 hb4 hn4 hn42 h24
  clear hX
  simp only [frB]
  have hK2 : Hid (KW w.heap.size w [(b4, .cells (row D1) 23), (b2, .cells (row D1) 23), (w.heap.size, .cells (evr E) 34)] v2) := Lib.hid ⟨Nat.le_refl _, hB2, fun x hx => by
    simp only [List.mem_cons, List.not_mem_nil, or_false] at hx
    rcases hx with rfl | rfl | rfl
    · exact h24
    · exact h22
    · exact hz2, by simp; omega⟩
  clear hB1 hz1 hb2 hn2 h21 hB2 hz2 h22 hb4 hn4 hn42 h24 hK0 hE0
  have hK3 := Lib.hid (hK2.out.new (.cells (evr E) 34))
  have ch := Lib.hid (cHs.out _ _ (hK3.out.at 0 rfl))
  have bv2 := Lib.hid (build_ev E hEs.out v2)
  go_wp2_with (first
    | (with_reducible refine wpList_load_row rfl 34 (.tmp 1) rfl _ rfl 34 (evr E) _ (hK2.out.at 2 rfl) Tryz.underlying34 rfl (row41 E hEs.out) ?_)
    | (with_reducible refine wpList_build1 rfl 24 (.tmp 24) rfl (.agg (evr E)) (.slice (some ⟨v2.heap.size, 0, none⟩) 1 1) rfl (v2.alloc (.cells (evr E) 34)) bv2.out ?_))
  refine ch.out.mono ?_
  rintro r v3 ⟨x, rfl, ⟨g6, cp, cur, rfl, hg6, hg6h, hld⟩, hB3⟩
  have ld6 := Lib.hid hld
  have hK4 : Hid (KW w.heap.size w [(g6, .cells cur 23), (b4, .cells (row D1) 23), (b2, .cells (row D1) 23), (w.heap.size, .cells (evr E) 34)] v3) := Lib.hid ((hK3.out.past hB3).drop.know g6 _ hg6h (by
    have l1 := hK2.out.lt 0 rfl
    have l2 := hK2.out.lt 1 rfl
    have l3 := hK2.out.lt 2 rfl
    simp at hg6 ⊢
    omega))
  clear hB3 hg6 hg6h hld ch hK3 hK2 bv2
  have hK5 := Lib.hid (hK4.out.new (.cells (evr E) 34))
  have cc := Lib.hid (cC.out _ _ (hK5.out.at 0 rfl))
  have bv3 := Lib.hid (build_ev E hEs.out v3)
  go_wp2_with (first
    | (with_reducible refine wpList_load_row rfl 34 (.tmp 1) rfl _ rfl 34 (evr E) _ (hK4.out.at 3 rfl) Tryz.underlying34 rfl (row41 E hEs.out) ?_)
    | (with_reducible refine wpList_build1 rfl 24 (.tmp 28) rfl (.agg (evr E)) (.slice (some ⟨v3.heap.size, 0, none⟩) 1 1) rfl (v3.alloc (.cells (evr E) 34)) bv3.out ?_))
  refine cc.out.mono ?_
  rintro r v4 ⟨rfl, hB4⟩
  have hK6 := Lib.hid (hK5.out.past hB4).drop.drew
  clear hB4 cc hK5 hK4 bv3
  have ix : Hid (∀ v, (Instr.indexAt 29 (.slice (some ⟨g6, 0, none⟩) 2 cp) (.int .i64 1)).run Tryz.prog v = .ok (.pointer (some ⟨g6, 32, none⟩)) v) := Lib.hid (fun v => index35 g6 2 cp 1 (by omega) v)
  have cS : Hid (∀ v, KW w.heap.size w [(g6, .cells cur 23), (b4, .cells (row D1) 23), (b2, .cells (row D1) 23), (w.heap.size, .cells (evr E) 34)] v → Calls Tryz.prog 17 #[] v fun e v' => e = .returned (.agg (row S)) ∧ KW w.heap.size w [(g6, .cells cur 23), (b4, .cells (row D1) 23), (b2, .cells (row D1) 23), (w.heap.size, .cells (evr E) 34)] v') := Lib.hid (fun v h => (cS0.out v).mono fun _ _ k => ⟨k.1, h.past k.2⟩)
  have cO : Hid (∀ v, KW w.heap.size w [(g6, .cells cur 23), (b4, .cells (row D1) 23), (b2, .cells (row D1) 23), (w.heap.size, .cells (evr E) 34)] v → Calls Tryz.prog 18 #[.string ⟨#[99, 101, 110, 111, 116, 97, 112, 104]⟩] v fun e v' => e = .returned (.agg (row S)) ∧ KW w.heap.size w [(g6, .cells cur 23), (b4, .cells (row D1) 23), (b2, .cells (row D1) 23), (w.heap.size, .cells (evr E) 34)] v') := Lib.hid (fun v h => (cO0.out v).mono fun _ _ k => ⟨k.1, h.past k.2⟩)
  go_wp2_with (refine park_region (fun Pk hX => ?_))
  refine hX.out ?_
  clear hX
  refine seg_start (by kernel_rfl) ?_
  refine seg_quiet (KW w.heap.size w [(g6, .cells cur 23), (b4, .cells (row D1) 23), (b2, .cells (row D1) 23), (w.heap.size, .cells (evr E) 34)]) 0 32 (by kernel_rfl) hK6.out ?_
  simp only [List.take_succ_cons, List.take_zero, List.drop_zero]
  refine wpQuiet_call0 (by rfl) 17 _ rfl ent17 (.agg (row S)) cS.out ?_
  refine wpQuiet_call1 (by rfl) 18 (.const (.string ⟨#[99, 101, 110, 111, 116, 97, 112, 104]⟩)) _ rfl ent18 (.string ⟨#[99, 101, 110, 111, 116, 97, 112, 104]⟩) rfl (.agg (row S)) cO.out ?_
  simp only [Act.put, List.setIfInBounds_toArray, List.set_cons_zero, List.set_cons_succ]
  refine wpQuiet_deq (by rfl) _ _ _ _ rfl (row S) (row S) rfl rfl (by kernel_rfl) true eqS.out ?_
  refine wpQuiet_move (by rfl) _ (.inl rfl) (.bool true) rfl ?_
  refine wpQuiet_move (by rfl) _ (.inl rfl) (.bool true) rfl ?_
  simp only [Act.put, List.setIfInBounds_toArray, List.set_cons_zero, List.set_cons_succ]
  refine wpQuiet_pick (by rfl) _ _ _ rfl true rfl (.bool true) rfl ?_
  refine wpQuiet_move (by rfl) _ (.inl rfl) (.bool true) rfl ?_
  refine wpQuiet_move (by rfl) _ (.inl rfl) (.bool true) rfl ?_
  simp only [Act.put, List.setIfInBounds_toArray, List.set_cons_zero, List.set_cons_succ]
  refine wpQuiet_pick (by rfl) _ _ _ rfl true rfl (.bool true) rfl ?_
  refine wpQuiet_move (by rfl) _ (.inl rfl) (.bool true) rfl ?_
  simp only [Act.put, List.setIfInBounds_toArray, List.set_cons_zero, List.set_cons_succ]
  refine wpQuiet_load (by rfl) 23 (.tmp 2) rfl _ rfl 23 (row D1) _ (fun _ h => h.at 2 rfl) Tryz.underlying23 rfl (row26 D1 hD.out) ?_
  refine wpQuiet_load (by rfl) 23 (.tmp 4) rfl _ rfl 23 (row D1) _ (fun _ h => h.at 1 rfl) Tryz.underlying23 rfl (row26 D1 hD.out) ?_
  simp only [Act.put, List.setIfInBounds_toArray, List.set_cons_zero, List.set_cons_succ]
  refine wpQuiet_deq (by rfl) _ _ _ _ rfl (row D1) (row D1) rfl rfl (by kernel_rfl) true eqD.out ?_
  refine wpQuiet_pick (by rfl) _ _ _ rfl true rfl (.bool true) rfl ?_
  refine wpQuiet_move (by rfl) _ (.inl rfl) (.bool true) rfl ?_
  simp only [Act.put, List.setIfInBounds_toArray, List.set_cons_zero, List.set_cons_succ]
  refine wpQuiet_move (by rfl) _ (.inl rfl) (.slice (some ⟨g6, 0, none⟩) 2 cp) rfl ?_
  refine wpQuiet_slen (by rfl) 29 23 _ rfl _ 2 _ rfl Tryz.underlying29 ?_
  simp only [Act.put, List.setIfInBounds_toArray, List.set_cons_zero, List.set_cons_succ]
  refine wpQuiet_ieq (by rfl) _ _ _ _ rfl .i64 _ _ rfl rfl true rfl ?_
  refine wpQuiet_pick (by rfl) _ _ _ rfl true rfl (.bool true) rfl ?_
  refine wpQuiet_move (by rfl) _ (.inl rfl) (.bool true) rfl ?_
  simp only [Act.put, List.setIfInBounds_toArray, List.set_cons_zero, List.set_cons_succ]
  refine wpQuiet_move (by rfl) _ (.inl rfl) (.slice (some ⟨g6, 0, none⟩) 2 cp) rfl ?_
  refine wpQuiet_index (by rfl) 29 _ _ rfl _ _ rfl rfl (.pointer (some ⟨g6, 32, none⟩)) ix.out ?_
  refine wpQuiet_mid (by rfl) 23 _ rfl g6 32 rfl (.agg (row D1)) (fun v h => ld6.out v (h.at 0 rfl)) ?_
  simp only [Act.put, List.setIfInBounds_toArray, List.set_cons_zero, List.set_cons_succ]
  refine wpQuiet_load (by rfl) 23 (.tmp 2) rfl _ rfl 23 (row D1) _ (fun _ h => h.at 2 rfl) Tryz.underlying23 rfl (row26 D1 hD.out) ?_
  refine wpQuiet_deq (by rfl) _ _ _ _ rfl (row D1) (row D1) rfl rfl (by kernel_rfl) true eqD.out ?_
  refine wpQuiet_pick (by rfl) _ _ _ rfl true rfl (.bool true) rfl ?_
  refine wpQuiet_move (by rfl) _ (.inl rfl) (.bool true) rfl ?_
  simp only [Act.put, List.setIfInBounds_toArray, List.set_cons_zero, List.set_cons_succ]
  refine wpQuiet_move (by rfl) _ (.inl rfl) (.bool false) rfl ?_
  refine wpQuiet_not (by rfl) _ _ rfl false rfl ?_
  simp only [Act.put, List.setIfInBounds_toArray, List.set_cons_zero, List.set_cons_succ]
  refine wpQuiet_pick (by rfl) _ _ _ rfl true rfl (.bool true) rfl ?_
  refine wpQuiet_move (by rfl) _ (.inl rfl) (.bool true) rfl ?_
  refine wpQuiet_load (by rfl) 34 (.tmp 1) rfl _ rfl 34 (evr E) _ (fun _ h => h.at 3 rfl) Tryz.underlying34 rfl (row41 E hEs.out) ?_
  simp only [Act.put, List.setIfInBounds_toArray, List.set_cons_zero, List.set_cons_succ]
  refine wpQuiet_nil ?_
  intro v hv
  have hv' := Lib.hid hv
  clear hv
  refine seg_build1 32 _ rfl (by kernel_rfl) (by rfl) 24 (.tmp 65) rfl (some 66) rfl (.agg (evr E)) (.slice (some ⟨v.heap.size, 0, none⟩) 1 1) rfl (v.alloc (.cells (evr E) 34)) (build_ev E hEs.out v) ?_
  simp only [Act.put, List.setIfInBounds_toArray, List.set_cons_zero, List.set_cons_succ]
  have hK2 := Lib.hid (hv'.out.new (.cells (evr E) 34))
  have ci0 := Lib.hid (cI.out v.heap.size 0)
  refine seg_quiet (KW w.heap.size w ((v.heap.size, .cells (evr E) 34) :: [(g6, .cells cur 23), (b4, .cells (row D1) 23), (b2, .cells (row D1) 23), (w.heap.size, .cells (evr E) 34)])) 33 38 (by kernel_rfl) hK2.out ?_
  simp only [List.take_succ_cons, List.take_zero, List.drop_succ_cons, List.drop_zero]
  refine wpQuiet_call2 (by rfl) 13 (.tmp 66) (.const (.int .i64 0)) _ rfl ent13 (.slice (some ⟨v.heap.size, 0, none⟩) 1 1) (.int .i64 0) rfl rfl (.string ⟨#[99, 101, 110, 111, 116, 97, 112, 104]⟩) (fun u h => (ci0.out u (h.at 0 rfl)).mono fun _ _ k => ⟨k.1, h.past k.2⟩) ?_
  simp only [Act.put, List.setIfInBounds_toArray, List.set_cons_zero, List.set_cons_succ]
  refine wpQuiet_seq (by rfl) _ _ _ _ rfl ⟨#[99, 101, 110, 111, 116, 97, 112, 104]⟩ ⟨#[99, 101, 110, 111, 116, 97, 112, 104]⟩ rfl rfl true (by simp) ?_
  refine wpQuiet_pick (by rfl) _ _ _ rfl true rfl (.bool true) rfl ?_
  refine wpQuiet_move (by rfl) _ (.inl rfl) (.bool true) rfl ?_
  simp only [Act.put, List.setIfInBounds_toArray, List.set_cons_zero, List.set_cons_succ]
  refine wpQuiet_load (by rfl) 34 (.tmp 1) rfl _ rfl 34 (evr E) _ (fun _ h => h.at 4 rfl) Tryz.underlying34 rfl (row41 E hEs.out) ?_
  simp only [Act.put, List.setIfInBounds_toArray, List.set_cons_zero, List.set_cons_succ]
  refine wpQuiet_nil ?_
  intro u hu
  have hu' := Lib.hid hu.drop
  clear hu hK2
  refine seg_build1 38 _ rfl (by kernel_rfl) (by rfl) 24 (.tmp 71) rfl (some 72) rfl (.agg (evr E)) (.slice (some ⟨u.heap.size, 0, none⟩) 1 1) rfl (u.alloc (.cells (evr E) 34)) (build_ev E hEs.out u) ?_
  simp only [Act.put, List.setIfInBounds_toArray, List.set_cons_zero, List.set_cons_succ]
  have hK3 := Lib.hid (hu'.out.new (.cells (evr E) 34))
  have ci1 := Lib.hid (cI.out u.heap.size 1)
  refine seg_end (KW w.heap.size w ((u.heap.size, .cells (evr E) 34) :: [(g6, .cells cur 23), (b4, .cells (row D1) 23), (b2, .cells (row D1) 23), (w.heap.size, .cells (evr E) 34)])) 39 (by kernel_rfl) (by kernel_rfl) hK3.out ?_
  simp only [List.drop_succ_cons, List.drop_zero]
  refine wpQuiet_call2 (by rfl) 13 (.tmp 72) (.const (.int .i64 1)) _ rfl ent13 (.slice (some ⟨u.heap.size, 0, none⟩) 1 1) (.int .i64 1) rfl rfl (.string I1) (fun u h => (ci1.out u (h.at 0 rfl)).mono fun _ _ k => ⟨k.1, h.past k.2⟩) ?_
  simp only [Act.put, List.setIfInBounds_toArray, List.set_cons_zero, List.set_cons_succ]
  refine wpQuiet_len (by rfl) _ _ rfl I1 rfl Tryz.underlying9 ?_
  rw [hI1.out]
  simp only [Act.put, List.setIfInBounds_toArray, List.set_cons_zero, List.set_cons_succ]
  refine wpQuiet_ieq (by rfl) _ _ _ _ rfl .i64 _ _ rfl rfl true rfl ?_
  refine wpQuiet_pick (by rfl) _ _ _ rfl true rfl (.bool true) rfl ?_
  refine wpQuiet_move (by rfl) _ (.inl rfl) (.bool true) rfl ?_
  simp only [Act.put, List.setIfInBounds_toArray, List.set_cons_zero, List.set_cons_succ]
  refine wpQuiet_load (by rfl) 23 (.tmp 2) rfl _ rfl 23 (row D1) _ (fun _ h => h.at 3 rfl) Tryz.underlying23 rfl (row26 D1 hD.out) ?_
  refine wpQuiet_call0 (by rfl) 17 _ rfl ent17 (.agg (row S)) (fun v h => (cS0.out v).mono fun _ _ k => ⟨k.1, h.past k.2⟩) ?_
  simp only [Act.put, List.setIfInBounds_toArray, List.set_cons_zero, List.set_cons_succ]
  refine wpQuiet_dne (by rfl) _ _ _ _ rfl (row D1) (row S) rfl rfl (by kernel_rfl) false eqN.out ?_
  refine wpQuiet_pick (by rfl) _ _ _ rfl true rfl (.bool true) rfl ?_
  refine wpQuiet_move (by rfl) _ (.inr rfl) (.bool true) rfl ?_
  simp only [Act.put, List.setIfInBounds_toArray, List.set_cons_zero, List.set_cons_succ]
  refine wpQuiet_nil ?_
  intro x hx
  go_wp2_with fail
  go_ret
  exact ⟨rfl, hx.bel⟩

set_option maxRecDepth 100000 in
theorem works_any (w : World) :
    Calls Tryz.prog 5 #[] w fun e w' => e = .returned (.bool true) ∧ Below w.heap.size w w' := by
  have hD : Hid (d1L.length = 32) := Lib.hid (nextD_len _ _)
  have hS : Hid (startD.length = 32) := Lib.hid (sha_len _)
  have cN : Hid (∀ v, Calls Tryz.prog 11 #[.agg (row startD), .agg (evr E1)] v fun e v' => e = .returned (.tuple #[.agg (row d1L), .bool true]) ∧ Below v.heap.size v v') := Lib.hid (fun v => next_true startD hS.out E1 E1_fit E1_ok v)
  have cH : Hid (∀ v g, v.heap[g]? = some (.cells (evr E1) 34) → Calls Tryz.prog 7 #[.agg (row startD), .slice (some ⟨g, 0, none⟩) 1 1] v fun e v' => e = .returned (.tuple #[.agg (row d1L), .bool true]) ∧ Below v.heap.size v v') := Lib.hid (fun v g hg => by
    have h := head_any startD hS.out [E1] fit_E1 (by decide) (some ⟨g, 0, none⟩) 1 v (evs_one hg (lt_of_some hg))
    have e1 : [E1].all okP = true := by simp [E1_ok]
    have e2 : hdR startD [E1] = d1L := by unfold hdR; rw [e1]; rfl
    rw [e1, e2] at h
    exact h)
  have cS0 := Lib.hid (fun v => start_any v)
  have cO0 : Hid (∀ v, Calls Tryz.prog 18 #[.string ⟨#[99, 101, 110, 111, 116, 97, 112, 104]⟩] v fun e v' => e = .returned (.agg (row startD)) ∧ Below v.heap.size v v') := Lib.hid (fun v => sh.of_any ⟨#[99, 101, 110, 111, 116, 97, 112, 104]⟩ (by decide) v)
  have cHs : Hid (∀ v g, v.heap[g]? = some (.cells (evr E1) 34) → Calls Tryz.prog 9 #[.slice (some ⟨g, 0, none⟩) 1 1] v fun r v' => ∃ x, r = .returned x ∧ v'.ownsRow v.heap.size 23 32 x (told [E1]).length (digs (told [E1])) ∧ Below v.heap.size v v') := Lib.hid (fun v g hg => heads_any [E1] fit_E1 (by decide) (some ⟨g, 0, none⟩) 1 v (evs_one hg (lt_of_some hg)))
  have cC : Hid (∀ v g, v.heap[g]? = some (.cells (evr E1) 34) → Calls Tryz.prog 15 #[.slice none 0 0, .slice (some ⟨g, 0, none⟩) 1 1] v fun r v' => r = .returned (.tuple #[.string ⟨#[]⟩, .string ⟨#[]⟩, .bool false]) ∧ Below v.heap.size v v') := Lib.hid (fun v g hg => by
    have h := collide_any [] [E1] fit_none fit_E1 (by decide) (by decide) none (some ⟨g, 0, none⟩) 0 1 v (evs_none _ _ _) (evs_one hg (lt_of_some hg))
    have e1 : colR [] [E1] = .tuple #[.string ⟨#[]⟩, .string ⟨#[]⟩, .bool false] := by
      unfold colR
      rw [told_none, told_E1, if_neg]
      intro h
      exact D1_ne (by simpa [lastD] using h.symm)
    rw [e1] at h
    exact h)
  obtain ⟨I1, hI1e⟩ : ∃ I1 : ByteArray, Hid (I1 = ⟨(startD ++ [7, 1]).toArray⟩) := ⟨_, Lib.hid rfl⟩
  have hI1 : Hid ((I1.size : Int) = 34) := Lib.hid (by rw [hI1e.out, mk_size, List.length_append, hS.out]; rfl)
  have cI : Hid (∀ g (i : Nat) v, v.heap[g]? = some (.cells (evr E1) 34) → Calls Tryz.prog 13 #[.slice (some ⟨g, 0, none⟩) 1 1, .int .i64 (i : Int)] v fun r v' => r = .returned (.string (if i = 0 then ⟨#[99, 101, 110, 111, 116, 97, 112, 104]⟩ else if i = 1 then I1 else ⟨#[]⟩)) ∧ Below v.heap.size v v') := Lib.hid (fun g i v hg => by
    have h := input_any [E1] fit_E1 (by decide) (i : Int) (some ⟨g, 0, none⟩) 1 v (evs_one hg (lt_of_some hg))
    have e1 : (⟨(inpD [E1] (i : Int)).toArray⟩ : ByteArray) = if i = 0 then ⟨#[99, 101, 110, 111, 116, 97, 112, 104]⟩ else if i = 1 then I1 else ⟨#[]⟩ := by
      unfold inpD
      rw [told_E1, if_pos (by omega), Int.toNat_natCast]
      match i with
      | 0 => rfl
      | 1 => rw [hI1e.out]; rfl
      | i + 2 => simp
    rw [e1] at h
    exact h)
  have eqN : Hid (∀ v, (Op.equalIn 10000 23 (.agg (row d1L)) (.agg (row startD))).run Tryz.prog v = .ok false v) := Lib.hid (fun v => by rw [eql_dig d1L startD hD.out hS.out v, beq_eq_false_iff_ne.2 D1_ne])
  have od : Hid (∀ (n₀ : Nat) (u : World) (x : Value), u.ownsRow n₀ 23 32 x (told [E1]).length (digs (told [E1])) → ∃ g cap cur, x = .slice (some ⟨g, 0, none⟩) 2 cap ∧ n₀ ≤ g ∧ u.heap[g]? = some (.cells cur 23) ∧ ∀ v : World, v.heap[g]? = some (.cells cur 23) → (Instr.loadAt 23 (.pointer (some ⟨g, 32, none⟩))).run Tryz.prog v = .ok (.agg (row d1L)) v) := Lib.hid (fun n₀ u x h => by
    rcases own_digs (fun y hy => (told_fine [E1] fit_E1 y hy).2) h with ⟨_, h0⟩ | ⟨g, cap, cur, h1, h2, h3, h4⟩
    · rw [told_E1] at h0; cases h0
    · have h5 : (told [E1]).length = 2 := by rw [told_E1]; rfl
      refine ⟨g, cap, cur, by rw [h1, h5], h2, h3, fun v hv => ?_⟩
      have h6 := h4 1 (by omega) v hv
      have h7 : ((told [E1])[1]'(by omega)).2 = d1L := by simp [told_E1]
      rw [h7] at h6
      exact h6)
  exact works_gen E1 startD d1L I1 (Lib.hid rfl) hD hS cN cH cS0 cO0 (Lib.hid (fun v g hg => (cHs.out v g hg).mono fun _ _ k => by
    obtain ⟨x, h1, h2, h3⟩ := k
    obtain ⟨g', cap, cur, q1, q2, q3, q4⟩ := od.out _ _ _ h2
    exact ⟨x, h1, ⟨g', cap, cur, q1, q2, q3, q4⟩, h3⟩)) cC hI1 cI eqN (Lib.hid (by rw [evr_kind, evr_time]; rfl)) w
end Go.Proofs.YtfilolmbppjbjaaGreat
