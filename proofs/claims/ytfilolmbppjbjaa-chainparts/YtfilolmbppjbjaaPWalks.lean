/-
  The walks of ChainParts, case by case.
-/
import Derived.Test.YtfilolmbppjbjaaPApp
import Derived.Test.YtfilolmbppjbjaaCWalks
namespace Go.Proofs.Ytfilolmbppjbjaa
open Go Go.RowKit
set_option linter.unusedVariables false

theorem fit_app {a b : List Ev} (ha : Fit a) (hb : Fit b) : Fit (a ++ b) := fun e he => (List.mem_append.1 he).elim (ha e) (hb e)
theorem wpQuiet_ige {P : Program} {ops : Array Oper} {rest : List Oper} {o : Oper} {a : Act} {C : World → Prop} {Q : Act → Prop} (hw : Region.wanted o (yielded ops a.tmps) = true) (t t' : TypeId) (x y : Operand) (ho : o.op = .binOp .geq t x y t') (k : IntKind) (m n : Int) (hx : a.eval x = .int k m) (hy : a.eval y = .int k n) (r : Bool) (hr : decide (n ≤ m) = r)
    (h : wpQuiet P ops C Q rest (a.put o.dst (.bool r))) : wpQuiet P ops C Q (o :: rest) a :=
  wpQuiet_val hw _ (fun w _ => by unfold execOp; simp only [ho, hx, hy]; simp [eqGuard, binOp, Op.intCmp, go_sem, hr]) h
set_option maxRecDepth 100000 in
set_option maxHeartbeats 4000000 in
theorem parts_many_a (d : List UInt8) (hd : Hid (d.length = 32)) (la lb : List Ev) (hla : Hid ((la.length : Int) ≤ 9223372036854775807 ∧ (∀ e ∈ la, e.name.length ≤ 9223372036854775807) ∧ ∀ e ∈ la, e.wf)) (hlb : Hid ((lb.length : Int) ≤ 9223372036854775807 ∧ (∀ e ∈ lb, e.name.length ≤ 9223372036854775807) ∧ ∀ e ∈ lb, e.wf)) (pa pb : Option Addr) (ca cb : Nat) (w : World) (hEa : Hid (EvsAt w.heap.size w pa la)) (hEb : Hid (EvsAt w.heap.size w pb lb)) (qa : Hid (fewB la = false)) :
    Calls Try.prog 4 #[.agg (row d), .slice pa la.length ca, .slice pb lb.length cb] w fun e w' => e = .returned (.bool true) ∧ Below w.heap.size w w' := by
  go_enter Try.func4, Try.ntmps4
  go_wp2_with fail
  refine (works_any _).mono ?_
  rintro e v0 ⟨rfl, b0⟩
  have K0 := Lib.hid (((KW.start w).new (.cells (row d) 26)).past b0)
  clear b0
  have fa := Lib.hid (few_any la hla.out.1 hla.out.2.1 pa ca v0 ((hEa.out.past K0.out.bel).mono K0.out.size))
  rw [qa.out] at fa
  go_wp2_with fail
  refine fa.out.mono ?_
  rintro e u ⟨rfl, rfl⟩
  clear fa
  go_wp2_with fail
  go_ret
  exact ⟨rfl, K0.out.bel⟩
set_option maxRecDepth 100000 in
set_option maxHeartbeats 4000000 in
theorem parts_many_b (d : List UInt8) (hd : Hid (d.length = 32)) (la lb : List Ev) (hla : Hid ((la.length : Int) ≤ 9223372036854775807 ∧ (∀ e ∈ la, e.name.length ≤ 9223372036854775807) ∧ ∀ e ∈ la, e.wf)) (hlb : Hid ((lb.length : Int) ≤ 9223372036854775807 ∧ (∀ e ∈ lb, e.name.length ≤ 9223372036854775807) ∧ ∀ e ∈ lb, e.wf)) (pa pb : Option Addr) (ca cb : Nat) (w : World) (hEa : Hid (EvsAt w.heap.size w pa la)) (hEb : Hid (EvsAt w.heap.size w pb lb)) (qa : Hid (fewB la = true)) (qb : Hid (fewB lb = false)) :
    Calls Try.prog 4 #[.agg (row d), .slice pa la.length ca, .slice pb lb.length cb] w fun e w' => e = .returned (.bool true) ∧ Below w.heap.size w w' := by
  go_enter Try.func4, Try.ntmps4
  go_wp2_with fail
  refine (works_any _).mono ?_
  rintro e v0 ⟨rfl, b0⟩
  have K0 := Lib.hid (((KW.start w).new (.cells (row d) 26)).past b0)
  clear b0
  have fa := Lib.hid (few_any la hla.out.1 hla.out.2.1 pa ca v0 ((hEa.out.past K0.out.bel).mono K0.out.size))
  have fb := Lib.hid (few_any lb hlb.out.1 hlb.out.2.1 pb cb v0 ((hEb.out.past K0.out.bel).mono K0.out.size))
  rw [qa.out] at fa
  rw [qb.out] at fb
  go_wp2_with fail
  refine fa.out.mono ?_
  rintro e u ⟨rfl, rfl⟩
  go_wp2_with fail
  refine fb.out.mono ?_
  rintro e u ⟨rfl, rfl⟩
  clear fb
  clear fa
  go_wp2_with fail
  go_ret
  exact ⟨rfl, K0.out.bel⟩
set_option maxRecDepth 100000 in
set_option maxHeartbeats 4000000 in
theorem parts_ok (d : List UInt8) (hd : Hid (d.length = 32)) (la lb : List Ev) (hla : Hid ((la.length : Int) ≤ 9223372036854775807 ∧ (∀ e ∈ la, e.name.length ≤ 9223372036854775807) ∧ ∀ e ∈ la, e.wf)) (hlb : Hid ((lb.length : Int) ≤ 9223372036854775807 ∧ (∀ e ∈ lb, e.name.length ≤ 9223372036854775807) ∧ ∀ e ∈ lb, e.wf)) (pa pb : Option Addr) (ca cb : Nat) (w : World) (hEa : Hid (EvsAt w.heap.size w pa la)) (hEb : Hid (EvsAt w.heap.size w pb lb)) (na : Hid (pa = none → la = [] ∧ ca = 0)) (nb : Hid (pb = none → lb = [] ∧ cb = 0)) (qa : Hid (fewB la = true)) (qb : Hid (fewB lb = true)) (fla : Hid (Fit la ∧ la.length ≤ 20)) (flb : Hid (Fit lb ∧ lb.length ≤ 20)) (oa : Hid (la.all okP = true)) (ob : Hid (lb.all okP = true)) (oc : Hid ((la ++ lb).all okP = true)) (X Y Z : List UInt8) (lX : Hid (X.length = 32)) (lY : Hid (Y.length = 32)) (lZ : Hid (Z.length = 32)) (hX : Hid (hdR d la = X)) (hY : Hid (hdR X lb = Y)) (hZ : Hid (hdR d (la ++ lb) = Z)) (hZy : Hid (Z = Y)) :
    Calls Try.prog 4 #[.agg (row d), .slice pa la.length ca, .slice pb lb.length cb] w fun e w' => e = .returned (.bool true) ∧ Below w.heap.size w w' := by
  go_enter Try.func4, Try.ntmps4
  go_wp2_with fail
  refine (works_any _).mono ?_
  rintro e v0 ⟨rfl, b0⟩
  have K0 := Lib.hid (((KW.start w).new (.cells (row d) 26)).past b0)
  clear b0
  have fa := Lib.hid (few_any la hla.out.1 hla.out.2.1 pa ca v0 ((hEa.out.past K0.out.bel).mono K0.out.size))
  have fb := Lib.hid (few_any lb hlb.out.1 hlb.out.2.1 pb cb v0 ((hEb.out.past K0.out.bel).mono K0.out.size))
  rw [qa.out] at fa
  rw [qb.out] at fb
  go_wp2_with fail
  refine fa.out.mono ?_
  rintro e u ⟨rfl, rfl⟩
  go_wp2_with fail
  refine fb.out.mono ?_
  rintro e u ⟨rfl, rfl⟩
  clear fb
  clear fa
  have sa : Hid (∀ e ∈ la, e.sum.length = 32) := Lib.hid (fun e he => (hla.out.2.2 e he).s)
  have sb : Hid (∀ e ∈ lb, e.sum.length = 32) := Lib.hid (fun e he => (hlb.out.2.2 e he).s)
  have sz : Hid (la.length ≤ 20 ∧ lb.length ≤ 20) := Lib.hid ⟨fla.out.2, flb.out.2⟩
  have Ea0 := Lib.hid ((hEa.out.past K0.out.bel).mono K0.out.size)
  have Eb0 := Lib.hid ((hEb.out.past K0.out.bel).mono K0.out.size)
  go_wp2_with (with_reducible refine wpList_append_evs rfl (.tmp 31) (.tmp 32) rfl v0.heap.size (.slice none 0 0) [] rfl (evs_nil _ _) pa ca la rfl sa.out Ea0.out na.out (by have := sz.out; simp; omega) (Nat.le_refl _) ?_)
  intro x1 v1 o1 b1
  have o1' := Lib.hid o1
  have b1' := Lib.hid b1
  have Eb1 := Lib.hid ((Eb0.out.past b1).mono b1.size)
  have sz1 : Hid (v0.heap.size ≤ v1.heap.size) := Lib.hid b1.size
  clear o1 b1
  go_wp2_with (with_reducible refine wpList_append_evs rfl (.tmp 34) (.tmp 35) rfl v0.heap.size x1 la rfl o1'.out pb cb lb rfl sb.out Eb1.out nb.out (by have := sz.out; omega) sz1.out ?_)
  intro x2 v2 o2 b2
  rw [← List.length_append] at o2
  obtain ⟨pp, cc, rfl, Eall⟩ := own_evs (fun e he => (List.mem_append.1 he).elim (sa.out e) (sb.out e)) o2
  have K2 := Lib.hid (K0.out.past (b1'.out.trans b2))
  clear o1' o2 b1' b2 Ea0 Eb0 Eb1 sz1 K0
  have Ea := Lib.hid ((hEa.out.past K2.out.bel).mono K2.out.size)
  have Eb := Lib.hid ((hEb.out.past K2.out.bel).mono K2.out.size)
  have Ec := Lib.hid Eall
  clear Eall
  have M0 : Hid (KW v2.heap.size v2 [(w.heap.size, .cells (row d) 26)] v2) := Lib.hid ((KW.start v2).know _ _ (K2.out.at 0 rfl) (by simp))
  obtain ⟨N, hN⟩ : ∃ N, Hid ((la ++ lb).length = N) := ⟨_, Lib.hid rfl⟩
  rw [hN.out]
  have h1 := Lib.hid (head_any d hd.out la fla.out.1 (by have := sz.out; omega) pa ca v2 Ea.out)
  rw [oa.out, hX.out] at h1
  go_wp2_with (with_reducible refine wpList_load_row_g (by with_unfolding_all rfl) 26 (.tmp 3) rfl _ rfl 26 (row d) _ (M0.out.at 0 rfl) Try.underlying26 rfl (row26 d hd.out) ?_)
  refine h1.out.mono ?_
  rintro e v3 ⟨rfl, b3⟩
  have M1 := Lib.hid ((M0.out.past b3).new (.cells (row zs) 26))
  have M2 := Lib.hid (M1.out.row 0 rfl (M0.out.past b3).size (row X))
  clear b3 h1
  have h2 := Lib.hid (head_any X lX.out lb flb.out.1 (by have := sz.out; omega) pb cb _ ((Eb.out.past M2.out.bel).mono M2.out.size))
  rw [ob.out, hY.out] at h2
  go_wp2_with (first
    | (with_reducible refine wpList_store_row rfl 26 (.tmp 10) (.tmp 41) rfl _ (row X) rfl rfl 26 _ (M1.out.at 0 rfl) (row26 X lX.out) (row_eq _ _ zs_len lX.out) (row_one X) ?_)
    | (with_reducible refine wpList_load_row_g (by with_unfolding_all rfl) 26 (.tmp 10) rfl _ rfl 26 (row X) _ (M2.out.at 0 rfl) Try.underlying26 rfl (row26 X lX.out) ?_))
  refine h2.out.mono ?_
  rintro e v4 ⟨rfl, b4⟩
  have M3 := Lib.hid ((M2.out.past b4).new (.cells (row zs) 26))
  have M4 := Lib.hid (M3.out.row 0 rfl (M2.out.past b4).size (row Y))
  clear b4 h2
  have h3 := Lib.hid (head_any d hd.out (la ++ lb) (fit_app fla.out.1 flb.out.1) (by have := sz.out; simp; omega) pp cc _ ((Ec.out.past M4.out.bel).mono M4.out.size))
  rw [hN.out, oc.out, hZ.out] at h3
  go_wp2_with (first
    | (with_reducible refine wpList_store_row rfl 26 (.tmp 12) (.tmp 47) rfl _ (row Y) rfl rfl 26 _ (M3.out.at 0 rfl) (row26 Y lY.out) (row_eq _ _ zs_len lY.out) (row_one Y) ?_)
    | (with_reducible refine wpList_load_row_g (by with_unfolding_all rfl) 26 (.tmp 3) rfl _ rfl 26 (row d) _ (M4.out.at 2 rfl) Try.underlying26 rfl (row26 d hd.out) ?_))
  refine h3.out.mono ?_
  rintro e v5 ⟨rfl, b5⟩
  have M5 := Lib.hid ((M4.out.past b5).new (.cells (row zs) 26))
  have M6 := Lib.hid (M5.out.row 0 rfl (M4.out.past b5).size (row Z))
  clear b5 h3
  obtain ⟨T, hT⟩ : ∃ T, Hid ((told la).length = T) := ⟨_, Lib.hid rfl⟩
  obtain ⟨S, hS⟩ : ∃ S, Hid ((told (la ++ lb)).length = S) := ⟨_, Lib.hid rfl⟩
  have hTl : Hid (T = la.length + 1) := Lib.hid (by rw [← hT.out, told_ok_len oa.out])
  have hSl : Hid (S = N + 1) := Lib.hid (by rw [← hS.out, told_ok_len oc.out, hN.out])
  have hTS : Hid (T ≤ S ∧ T ≤ 21 ∧ 0 < T) := Lib.hid (by have h1 := hTl.out; have h2 := hSl.out; have h3 := hN.out; have h4 := sz.out; simp at h3; omega)
  have g1 := Lib.hid (heads_any (la ++ lb) (fit_app fla.out.1 flb.out.1) (by have := sz.out; simp; omega) pp cc _ ((Ec.out.past M6.out.bel).mono M6.out.size))
  rw [hN.out] at g1
  go_wp2_with (with_reducible refine wpList_store_row rfl 26 (.tmp 14) (.tmp 53) rfl _ (row Z) rfl rfl 26 _ (M5.out.at 0 rfl) (row26 Z lZ.out) (row_eq _ _ zs_len lZ.out) (row_one Z) ?_)
  refine g1.out.mono ?_
  rintro r v6 ⟨x, rfl, ho, b6⟩
  rcases own_digs (fun y hy => (told_fine (la ++ lb) (fit_app fla.out.1 flb.out.1) y hy).2) ho with ⟨_, h0⟩ | ⟨gc, chc, curc, hxe, hg1, hgc, hld⟩
  · exfalso; have h1 := hS.out; have h2 := hTS.out; rw [h0] at h1; simp at h1; omega
  rw [hS.out] at hxe
  subst hxe
  have M7 := Lib.hid ((M6.out.past b6).know gc _ hgc (by have := M6.out.lt 0 rfl; have := M6.out.lt 1 rfl; have := M6.out.lt 2 rfl; have := M6.out.lt 3 rfl; simp at *; omega))
  have lc : Hid (∀ k, k < T → ∀ u : World, u.heap[gc]? = some (.cells curc 26) → (Instr.loadAt 26 (.pointer (some ⟨gc, k * 32, none⟩))).run Try.prog u = .ok (.agg (row (headD startD (la.take k)))) u) := Lib.hid (fun k hk u hu => by
    have hk2 : k ≤ la.length := by have := hTl.out; omega
    have h := hld k (by have := hTS.out; have := hS.out; omega) u hu
    rw [told_at oc.out k, List.take_append_of_le_length hk2] at h
    exact h)
  clear ho b6 hg1 hgc hld g1
  have g2 := Lib.hid (heads_any la fla.out.1 (by have := sz.out; omega) pa ca _ ((Ea.out.past M7.out.bel).mono M7.out.size))
  go_wp2_with fail
  refine g2.out.mono ?_
  rintro r v7 ⟨x, rfl, ho, b7⟩
  rcases own_digs (fun y hy => (told_fine la fla.out.1 y hy).2) ho with ⟨_, h0⟩ | ⟨ga, cha, cura, hxe, hg1, hga, hld⟩
  · exfalso; have h1 := hT.out; have h2 := hTS.out; rw [h0] at h1; simp at h1; omega
  rw [hT.out] at hxe
  subst hxe
  have M8 := Lib.hid ((M7.out.past b7).know ga _ hga (by have := M7.out.lt 0 rfl; have := M7.out.lt 1 rfl; have := M7.out.lt 2 rfl; have := M7.out.lt 3 rfl; have := M7.out.lt 4 rfl; simp at *; omega))
  have ll : Hid (∀ k, k < T → ∀ u : World, u.heap[ga]? = some (.cells cura 26) → (Instr.loadAt 26 (.pointer (some ⟨ga, k * 32, none⟩))).run Try.prog u = .ok (.agg (row (headD startD (la.take k)))) u) := Lib.hid (fun k hk u hu => by
    have h := hld k (by have := hT.out; omega) u hu
    rw [told_at oa.out k] at h
    exact h)
  clear ho b7 hg1 hga hld g2 M0 M1 M2 M3 M4 M5 M6 M7
  simp only [List.set_cons_zero] at M8
  generalize v5.heap.size = B14 at *
  generalize v4.heap.size = B12 at *
  generalize v3.heap.size = B10 at *
  go_wp2_with fail
  go_loopw [18] (fun i wr => ∃ k : Nat, k ≤ T ∧ i = .int .i64 (k : Int) ∧ Hid (KW v2.heap.size v2 [(ga, .cells cura 26), (gc, .cells curc 26), (B14, .cells (row Z) 26), (B12, .cells (row Y) 26), (B10, .cells (row X) 26), (w.heap.size, .cells (row d) 26)] wr)) (fun i _ => T - (intOf i).toNat)
  case atStart => exact ⟨0, Nat.zero_le _, rfl, M8⟩
  case round =>
    obtain ⟨k, hk, rfl, hK⟩ := hrel
    by_cases hlt : k < T
    · have hb : (k : Int) < (T : Int) := by omega
      have hT21 : (T : Int) ≤ 21 := by have := hTS.out; omega
      have hge : decide ((S : Int) ≤ (k : Int)) = false := by have := hTS.out; simp; omega
      obtain ⟨D, hD⟩ : ∃ D, Hid (headD startD (la.take k) = D) := ⟨_, Lib.hid rfl⟩
      have hDl : Hid (D.length = 32) := Lib.hid (by rw [← hD.out]; exact headD_len _ _ startD_len)
      have la1 := Lib.hid (ll.out k hlt)
      have lc1 := Lib.hid (lc.out k hlt)
      rw [hD.out] at la1 lc1
      have ia : Hid (∀ v, (Instr.indexAt 35 (.slice (some ⟨ga, 0, none⟩) T cha) (.int .i64 (k : Int))).run Try.prog v = .ok (.pointer (some ⟨ga, k * 32, none⟩)) v) := Lib.hid (fun v => index35 ga T cha k hlt v)
      have ic : Hid (∀ v, (Instr.indexAt 35 (.slice (some ⟨gc, 0, none⟩) S chc) (.int .i64 (k : Int))).run Try.prog v = .ok (.pointer (some ⟨gc, k * 32, none⟩)) v) := Lib.hid (fun v => index35 gc S chc k (by have := hTS.out; omega) v)
      have eqD : Hid (∀ v, (Op.equalIn 10000 26 (.agg (row D)) (.agg (row D))).run Try.prog v = .ok true v) := Lib.hid (fun v => (eql_dig D D hDl.out hDl.out v).trans (by simp))
      have hKd := Lib.hid hK.out.drew
      go_wp2_with (refine park_region (fun Pk hX => ?_))
      refine hX.out ?_
      refine wp_region_class (KW v2.heap.size v2 [(ga, .cells cura 26), (gc, .cells curc 26), (B14, .cells (row Z) 26), (B12, .cells (row Y) 26), (B10, .cells (row X) 26), (w.heap.size, .cells (row d) 26)]) (by kernel_rfl) (by kernel_rfl) hKd.out ?_
      refine wpQuiet_move (by rfl) _ (.inl rfl) (.int .i64 (k : Int)) rfl ?_
      refine wpQuiet_move (by rfl) _ (.inl rfl) (.slice (some ⟨gc, 0, none⟩) S chc) rfl ?_
      refine wpQuiet_slen (by rfl) 35 26 _ rfl _ S _ rfl Try.underlying35 ?_
      refine wpQuiet_ige (by rfl) _ _ _ _ rfl .i64 _ _ rfl rfl false hge ?_
      refine wpQuiet_move (by rfl) _ (.inl rfl) (.bool false) rfl ?_
      simp only [Act.put, List.setIfInBounds_toArray, List.set_cons_zero, List.set_cons_succ]
      refine wpQuiet_move (by rfl) _ (.inl rfl) (.slice (some ⟨ga, 0, none⟩) T cha) rfl ?_
      refine wpQuiet_move (by rfl) _ (.inl rfl) (.int .i64 (k : Int)) rfl ?_
      refine wpQuiet_index (by rfl) 35 _ _ rfl _ _ rfl rfl _ ia.out ?_
      refine wpQuiet_mid (by rfl) 26 _ rfl ga (k * 32) rfl (.agg (row D)) (fun v h => la1.out v (h.at 0 rfl)) ?_
      simp only [Act.put, List.setIfInBounds_toArray, List.set_cons_zero, List.set_cons_succ]
      refine wpQuiet_move (by rfl) _ (.inl rfl) (.slice (some ⟨gc, 0, none⟩) S chc) rfl ?_
      refine wpQuiet_move (by rfl) _ (.inl rfl) (.int .i64 (k : Int)) rfl ?_
      refine wpQuiet_index (by rfl) 35 _ _ rfl _ _ rfl rfl _ ic.out ?_
      refine wpQuiet_mid (by rfl) 26 _ rfl gc (k * 32) rfl (.agg (row D)) (fun v h => lc1.out v (h.at 1 rfl)) ?_
      simp only [Act.put, List.setIfInBounds_toArray, List.set_cons_zero, List.set_cons_succ]
      refine wpQuiet_dne (by rfl) _ _ _ _ rfl (row D) (row D) rfl rfl (by kernel_rfl) true eqD.out ?_
      refine wpQuiet_pick (by rfl) _ _ _ rfl false rfl (.bool false) rfl ?_
      simp only [Act.put, List.setIfInBounds_toArray, List.set_cons_zero, List.set_cons_succ]
      refine wpQuiet_nil ?_
      intro u hu
      have hu' := Lib.hid hu
      clear hu hX
      go_wp2_with fail
      go_roundw
      case rel => exact ⟨k + 1, by omega, by go_num, hu'⟩
      case measure => simp [intOf]; omega
    · obtain rfl : k = T := by omega
      have hb : ¬ (k : Int) < (k : Int) := by omega
      have eqZ : Hid (∀ v, (Op.equalIn 10000 26 (.agg (row Y)) (.agg (row Z))).run Try.prog v = .ok true v) := Lib.hid (fun v => by rw [eql_dig Y Z lY.out lZ.out v, hZy.out]; simp)
      go_wp2_with (first
        | (with_reducible refine wpList_load_row_g (by with_unfolding_all rfl) 26 (.tmp 12) rfl _ rfl 26 (row Y) _ (hK.out.at 3 rfl) Try.underlying26 rfl (row26 Y lY.out) ?_)
        | (with_reducible refine wpList_load_row_g (by with_unfolding_all rfl) 26 (.tmp 14) rfl _ rfl 26 (row Z) _ (hK.out.at 2 rfl) Try.underlying26 rfl (row26 Z lZ.out) ?_)
        | (with_reducible refine wpList_deq_g (by with_unfolding_all rfl) 26 26 (.tmp 101) (.tmp 102) rfl (row Y) (row Z) rfl rfl (by kernel_rfl) true eqZ.out ?_))
      go_ret
      exact ⟨rfl, K2.out.bel.trans (hK.out.bel.mono K2.out.size)⟩
set_option maxRecDepth 100000 in
set_option maxHeartbeats 4000000 in
theorem parts_bad_a (d : List UInt8) (hd : Hid (d.length = 32)) (la lb : List Ev) (hla : Hid ((la.length : Int) ≤ 9223372036854775807 ∧ (∀ e ∈ la, e.name.length ≤ 9223372036854775807) ∧ ∀ e ∈ la, e.wf)) (hlb : Hid ((lb.length : Int) ≤ 9223372036854775807 ∧ (∀ e ∈ lb, e.name.length ≤ 9223372036854775807) ∧ ∀ e ∈ lb, e.wf)) (pa pb : Option Addr) (ca cb : Nat) (w : World) (hEa : Hid (EvsAt w.heap.size w pa la)) (hEb : Hid (EvsAt w.heap.size w pb lb)) (na : Hid (pa = none → la = [] ∧ ca = 0)) (nb : Hid (pb = none → lb = [] ∧ cb = 0)) (qa : Hid (fewB la = true)) (qb : Hid (fewB lb = true)) (fla : Hid (Fit la ∧ la.length ≤ 20)) (flb : Hid (Fit lb ∧ lb.length ≤ 20)) (oa : Hid (la.all okP = false)) (ob : Hid (lb.all okP = true)) (oc : Hid ((la ++ lb).all okP = false)) (X Y Z : List UInt8) (lX : Hid (X.length = 32)) (lY : Hid (Y.length = 32)) (lZ : Hid (Z.length = 32)) (hX : Hid (hdR d la = X)) (hY : Hid (hdR X lb = Y)) (hZ : Hid (hdR d (la ++ lb) = Z)) (hZz : Hid (Z = zs)) :
    Calls Try.prog 4 #[.agg (row d), .slice pa la.length ca, .slice pb lb.length cb] w fun e w' => e = .returned (.bool true) ∧ Below w.heap.size w w' := by
  go_enter Try.func4, Try.ntmps4
  go_wp2_with fail
  refine (works_any _).mono ?_
  rintro e v0 ⟨rfl, b0⟩
  have K0 := Lib.hid (((KW.start w).new (.cells (row d) 26)).past b0)
  clear b0
  have fa := Lib.hid (few_any la hla.out.1 hla.out.2.1 pa ca v0 ((hEa.out.past K0.out.bel).mono K0.out.size))
  have fb := Lib.hid (few_any lb hlb.out.1 hlb.out.2.1 pb cb v0 ((hEb.out.past K0.out.bel).mono K0.out.size))
  rw [qa.out] at fa
  rw [qb.out] at fb
  go_wp2_with fail
  refine fa.out.mono ?_
  rintro e u ⟨rfl, rfl⟩
  go_wp2_with fail
  refine fb.out.mono ?_
  rintro e u ⟨rfl, rfl⟩
  clear fb
  clear fa
  have sa : Hid (∀ e ∈ la, e.sum.length = 32) := Lib.hid (fun e he => (hla.out.2.2 e he).s)
  have sb : Hid (∀ e ∈ lb, e.sum.length = 32) := Lib.hid (fun e he => (hlb.out.2.2 e he).s)
  have sz : Hid (la.length ≤ 20 ∧ lb.length ≤ 20) := Lib.hid ⟨fla.out.2, flb.out.2⟩
  have Ea0 := Lib.hid ((hEa.out.past K0.out.bel).mono K0.out.size)
  have Eb0 := Lib.hid ((hEb.out.past K0.out.bel).mono K0.out.size)
  go_wp2_with (with_reducible refine wpList_append_evs rfl (.tmp 31) (.tmp 32) rfl v0.heap.size (.slice none 0 0) [] rfl (evs_nil _ _) pa ca la rfl sa.out Ea0.out na.out (by have := sz.out; simp; omega) (Nat.le_refl _) ?_)
  intro x1 v1 o1 b1
  have o1' := Lib.hid o1
  have b1' := Lib.hid b1
  have Eb1 := Lib.hid ((Eb0.out.past b1).mono b1.size)
  have sz1 : Hid (v0.heap.size ≤ v1.heap.size) := Lib.hid b1.size
  clear o1 b1
  go_wp2_with (with_reducible refine wpList_append_evs rfl (.tmp 34) (.tmp 35) rfl v0.heap.size x1 la rfl o1'.out pb cb lb rfl sb.out Eb1.out nb.out (by have := sz.out; omega) sz1.out ?_)
  intro x2 v2 o2 b2
  rw [← List.length_append] at o2
  obtain ⟨pp, cc, rfl, Eall⟩ := own_evs (fun e he => (List.mem_append.1 he).elim (sa.out e) (sb.out e)) o2
  have K2 := Lib.hid (K0.out.past (b1'.out.trans b2))
  clear o1' o2 b1' b2 Ea0 Eb0 Eb1 sz1 K0
  have Ea := Lib.hid ((hEa.out.past K2.out.bel).mono K2.out.size)
  have Eb := Lib.hid ((hEb.out.past K2.out.bel).mono K2.out.size)
  have Ec := Lib.hid Eall
  clear Eall
  have M0 : Hid (KW v2.heap.size v2 [(w.heap.size, .cells (row d) 26)] v2) := Lib.hid ((KW.start v2).know _ _ (K2.out.at 0 rfl) (by simp))
  obtain ⟨N, hN⟩ : ∃ N, Hid ((la ++ lb).length = N) := ⟨_, Lib.hid rfl⟩
  rw [hN.out]
  have h1 := Lib.hid (head_any d hd.out la fla.out.1 (by have := sz.out; omega) pa ca v2 Ea.out)
  rw [oa.out, hX.out] at h1
  go_wp2_with (with_reducible refine wpList_load_row_g (by with_unfolding_all rfl) 26 (.tmp 3) rfl _ rfl 26 (row d) _ (M0.out.at 0 rfl) Try.underlying26 rfl (row26 d hd.out) ?_)
  refine h1.out.mono ?_
  rintro e v3 ⟨rfl, b3⟩
  have M1 := Lib.hid ((M0.out.past b3).new (.cells (row zs) 26))
  have M2 := Lib.hid (M1.out.row 0 rfl (M0.out.past b3).size (row X))
  clear b3 h1
  have h2 := Lib.hid (head_any X lX.out lb flb.out.1 (by have := sz.out; omega) pb cb _ ((Eb.out.past M2.out.bel).mono M2.out.size))
  rw [ob.out, hY.out] at h2
  go_wp2_with (first
    | (with_reducible refine wpList_store_row rfl 26 (.tmp 10) (.tmp 41) rfl _ (row X) rfl rfl 26 _ (M1.out.at 0 rfl) (row26 X lX.out) (row_eq _ _ zs_len lX.out) (row_one X) ?_)
    | (with_reducible refine wpList_load_row_g (by with_unfolding_all rfl) 26 (.tmp 10) rfl _ rfl 26 (row X) _ (M2.out.at 0 rfl) Try.underlying26 rfl (row26 X lX.out) ?_))
  refine h2.out.mono ?_
  rintro e v4 ⟨rfl, b4⟩
  have M3 := Lib.hid ((M2.out.past b4).new (.cells (row zs) 26))
  have M4 := Lib.hid (M3.out.row 0 rfl (M2.out.past b4).size (row Y))
  clear b4 h2
  have h3 := Lib.hid (head_any d hd.out (la ++ lb) (fit_app fla.out.1 flb.out.1) (by have := sz.out; simp; omega) pp cc _ ((Ec.out.past M4.out.bel).mono M4.out.size))
  rw [hN.out, oc.out, hZ.out] at h3
  go_wp2_with (first
    | (with_reducible refine wpList_store_row rfl 26 (.tmp 12) (.tmp 47) rfl _ (row Y) rfl rfl 26 _ (M3.out.at 0 rfl) (row26 Y lY.out) (row_eq _ _ zs_len lY.out) (row_one Y) ?_)
    | (with_reducible refine wpList_load_row_g (by with_unfolding_all rfl) 26 (.tmp 3) rfl _ rfl 26 (row d) _ (M4.out.at 2 rfl) Try.underlying26 rfl (row26 d hd.out) ?_))
  refine h3.out.mono ?_
  rintro e v5 ⟨rfl, b5⟩
  have M5 := Lib.hid ((M4.out.past b5).new (.cells (row zs) 26))
  have M6 := Lib.hid (M5.out.row 0 rfl (M4.out.past b5).size (row Z))
  clear b5 h3
  have eqZ : Hid (∀ v, (Op.equalIn 10000 26 (.agg (row Z)) (.agg (row zs))).run Try.prog v = .ok true v) := Lib.hid (fun v => by rw [eql_dig Z zs lZ.out zs_len v, hZz.out]; simp)
  have hz2 := zero26
  go_wp2_with (first
    | (with_reducible refine wpList_store_row rfl 26 (.tmp 14) (.tmp 53) rfl _ (row Z) rfl rfl 26 _ (M5.out.at 0 rfl) (row26 Z lZ.out) (row_eq _ _ zs_len lZ.out) (row_one Z) ?_)
    | (with_reducible refine wpList_load_row_g (by with_unfolding_all rfl) 26 (.tmp 14) rfl _ rfl 26 (row Z) _ (M6.out.at 0 rfl) Try.underlying26 rfl (row26 Z lZ.out) ?_)
    | (with_reducible refine wpList_deq_g (by with_unfolding_all rfl) 26 26 (.tmp 67) (.tmp 68) rfl (row Z) (row zs) rfl rfl (by kernel_rfl) true eqZ.out ?_))
  go_ret
  exact ⟨rfl, K2.out.bel.trans (M6.out.bel.mono K2.out.size)⟩
set_option maxRecDepth 100000 in
set_option maxHeartbeats 4000000 in
theorem parts_bad_b (d : List UInt8) (hd : Hid (d.length = 32)) (la lb : List Ev) (hla : Hid ((la.length : Int) ≤ 9223372036854775807 ∧ (∀ e ∈ la, e.name.length ≤ 9223372036854775807) ∧ ∀ e ∈ la, e.wf)) (hlb : Hid ((lb.length : Int) ≤ 9223372036854775807 ∧ (∀ e ∈ lb, e.name.length ≤ 9223372036854775807) ∧ ∀ e ∈ lb, e.wf)) (pa pb : Option Addr) (ca cb : Nat) (w : World) (hEa : Hid (EvsAt w.heap.size w pa la)) (hEb : Hid (EvsAt w.heap.size w pb lb)) (na : Hid (pa = none → la = [] ∧ ca = 0)) (nb : Hid (pb = none → lb = [] ∧ cb = 0)) (qa : Hid (fewB la = true)) (qb : Hid (fewB lb = true)) (fla : Hid (Fit la ∧ la.length ≤ 20)) (flb : Hid (Fit lb ∧ lb.length ≤ 20)) (oa : Hid (la.all okP = true)) (ob : Hid (lb.all okP = false)) (oc : Hid ((la ++ lb).all okP = false)) (X Y Z : List UInt8) (lX : Hid (X.length = 32)) (lY : Hid (Y.length = 32)) (lZ : Hid (Z.length = 32)) (hX : Hid (hdR d la = X)) (hY : Hid (hdR X lb = Y)) (hZ : Hid (hdR d (la ++ lb) = Z)) (hZz : Hid (Z = zs)) :
    Calls Try.prog 4 #[.agg (row d), .slice pa la.length ca, .slice pb lb.length cb] w fun e w' => e = .returned (.bool true) ∧ Below w.heap.size w w' := by
  go_enter Try.func4, Try.ntmps4
  go_wp2_with fail
  refine (works_any _).mono ?_
  rintro e v0 ⟨rfl, b0⟩
  have K0 := Lib.hid (((KW.start w).new (.cells (row d) 26)).past b0)
  clear b0
  have fa := Lib.hid (few_any la hla.out.1 hla.out.2.1 pa ca v0 ((hEa.out.past K0.out.bel).mono K0.out.size))
  have fb := Lib.hid (few_any lb hlb.out.1 hlb.out.2.1 pb cb v0 ((hEb.out.past K0.out.bel).mono K0.out.size))
  rw [qa.out] at fa
  rw [qb.out] at fb
  go_wp2_with fail
  refine fa.out.mono ?_
  rintro e u ⟨rfl, rfl⟩
  go_wp2_with fail
  refine fb.out.mono ?_
  rintro e u ⟨rfl, rfl⟩
  clear fb
  clear fa
  have sa : Hid (∀ e ∈ la, e.sum.length = 32) := Lib.hid (fun e he => (hla.out.2.2 e he).s)
  have sb : Hid (∀ e ∈ lb, e.sum.length = 32) := Lib.hid (fun e he => (hlb.out.2.2 e he).s)
  have sz : Hid (la.length ≤ 20 ∧ lb.length ≤ 20) := Lib.hid ⟨fla.out.2, flb.out.2⟩
  have Ea0 := Lib.hid ((hEa.out.past K0.out.bel).mono K0.out.size)
  have Eb0 := Lib.hid ((hEb.out.past K0.out.bel).mono K0.out.size)
  go_wp2_with (with_reducible refine wpList_append_evs rfl (.tmp 31) (.tmp 32) rfl v0.heap.size (.slice none 0 0) [] rfl (evs_nil _ _) pa ca la rfl sa.out Ea0.out na.out (by have := sz.out; simp; omega) (Nat.le_refl _) ?_)
  intro x1 v1 o1 b1
  have o1' := Lib.hid o1
  have b1' := Lib.hid b1
  have Eb1 := Lib.hid ((Eb0.out.past b1).mono b1.size)
  have sz1 : Hid (v0.heap.size ≤ v1.heap.size) := Lib.hid b1.size
  clear o1 b1
  go_wp2_with (with_reducible refine wpList_append_evs rfl (.tmp 34) (.tmp 35) rfl v0.heap.size x1 la rfl o1'.out pb cb lb rfl sb.out Eb1.out nb.out (by have := sz.out; omega) sz1.out ?_)
  intro x2 v2 o2 b2
  rw [← List.length_append] at o2
  obtain ⟨pp, cc, rfl, Eall⟩ := own_evs (fun e he => (List.mem_append.1 he).elim (sa.out e) (sb.out e)) o2
  have K2 := Lib.hid (K0.out.past (b1'.out.trans b2))
  clear o1' o2 b1' b2 Ea0 Eb0 Eb1 sz1 K0
  have Ea := Lib.hid ((hEa.out.past K2.out.bel).mono K2.out.size)
  have Eb := Lib.hid ((hEb.out.past K2.out.bel).mono K2.out.size)
  have Ec := Lib.hid Eall
  clear Eall
  have M0 : Hid (KW v2.heap.size v2 [(w.heap.size, .cells (row d) 26)] v2) := Lib.hid ((KW.start v2).know _ _ (K2.out.at 0 rfl) (by simp))
  obtain ⟨N, hN⟩ : ∃ N, Hid ((la ++ lb).length = N) := ⟨_, Lib.hid rfl⟩
  rw [hN.out]
  have h1 := Lib.hid (head_any d hd.out la fla.out.1 (by have := sz.out; omega) pa ca v2 Ea.out)
  rw [oa.out, hX.out] at h1
  go_wp2_with (with_reducible refine wpList_load_row_g (by with_unfolding_all rfl) 26 (.tmp 3) rfl _ rfl 26 (row d) _ (M0.out.at 0 rfl) Try.underlying26 rfl (row26 d hd.out) ?_)
  refine h1.out.mono ?_
  rintro e v3 ⟨rfl, b3⟩
  have M1 := Lib.hid ((M0.out.past b3).new (.cells (row zs) 26))
  have M2 := Lib.hid (M1.out.row 0 rfl (M0.out.past b3).size (row X))
  clear b3 h1
  have h2 := Lib.hid (head_any X lX.out lb flb.out.1 (by have := sz.out; omega) pb cb _ ((Eb.out.past M2.out.bel).mono M2.out.size))
  rw [ob.out, hY.out] at h2
  go_wp2_with (first
    | (with_reducible refine wpList_store_row rfl 26 (.tmp 10) (.tmp 41) rfl _ (row X) rfl rfl 26 _ (M1.out.at 0 rfl) (row26 X lX.out) (row_eq _ _ zs_len lX.out) (row_one X) ?_)
    | (with_reducible refine wpList_load_row_g (by with_unfolding_all rfl) 26 (.tmp 10) rfl _ rfl 26 (row X) _ (M2.out.at 0 rfl) Try.underlying26 rfl (row26 X lX.out) ?_))
  refine h2.out.mono ?_
  rintro e v4 ⟨rfl, b4⟩
  have M3 := Lib.hid ((M2.out.past b4).new (.cells (row zs) 26))
  have M4 := Lib.hid (M3.out.row 0 rfl (M2.out.past b4).size (row Y))
  clear b4 h2
  have h3 := Lib.hid (head_any d hd.out (la ++ lb) (fit_app fla.out.1 flb.out.1) (by have := sz.out; simp; omega) pp cc _ ((Ec.out.past M4.out.bel).mono M4.out.size))
  rw [hN.out, oc.out, hZ.out] at h3
  go_wp2_with (first
    | (with_reducible refine wpList_store_row rfl 26 (.tmp 12) (.tmp 47) rfl _ (row Y) rfl rfl 26 _ (M3.out.at 0 rfl) (row26 Y lY.out) (row_eq _ _ zs_len lY.out) (row_one Y) ?_)
    | (with_reducible refine wpList_load_row_g (by with_unfolding_all rfl) 26 (.tmp 3) rfl _ rfl 26 (row d) _ (M4.out.at 2 rfl) Try.underlying26 rfl (row26 d hd.out) ?_))
  refine h3.out.mono ?_
  rintro e v5 ⟨rfl, b5⟩
  have M5 := Lib.hid ((M4.out.past b5).new (.cells (row zs) 26))
  have M6 := Lib.hid (M5.out.row 0 rfl (M4.out.past b5).size (row Z))
  clear b5 h3
  have eqZ : Hid (∀ v, (Op.equalIn 10000 26 (.agg (row Z)) (.agg (row zs))).run Try.prog v = .ok true v) := Lib.hid (fun v => by rw [eql_dig Z zs lZ.out zs_len v, hZz.out]; simp)
  have hz2 := zero26
  go_wp2_with (first
    | (with_reducible refine wpList_store_row rfl 26 (.tmp 14) (.tmp 53) rfl _ (row Z) rfl rfl 26 _ (M5.out.at 0 rfl) (row26 Z lZ.out) (row_eq _ _ zs_len lZ.out) (row_one Z) ?_)
    | (with_reducible refine wpList_load_row_g (by with_unfolding_all rfl) 26 (.tmp 14) rfl _ rfl 26 (row Z) _ (M6.out.at 0 rfl) Try.underlying26 rfl (row26 Z lZ.out) ?_)
    | (with_reducible refine wpList_deq_g (by with_unfolding_all rfl) 26 26 (.tmp 67) (.tmp 68) rfl (row Z) (row zs) rfl rfl (by kernel_rfl) true eqZ.out ?_))
  go_ret
  exact ⟨rfl, K2.out.bel.trans (M6.out.bel.mono K2.out.size)⟩
set_option maxRecDepth 100000 in
set_option maxHeartbeats 4000000 in
theorem parts_bad_c (d : List UInt8) (hd : Hid (d.length = 32)) (la lb : List Ev) (hla : Hid ((la.length : Int) ≤ 9223372036854775807 ∧ (∀ e ∈ la, e.name.length ≤ 9223372036854775807) ∧ ∀ e ∈ la, e.wf)) (hlb : Hid ((lb.length : Int) ≤ 9223372036854775807 ∧ (∀ e ∈ lb, e.name.length ≤ 9223372036854775807) ∧ ∀ e ∈ lb, e.wf)) (pa pb : Option Addr) (ca cb : Nat) (w : World) (hEa : Hid (EvsAt w.heap.size w pa la)) (hEb : Hid (EvsAt w.heap.size w pb lb)) (na : Hid (pa = none → la = [] ∧ ca = 0)) (nb : Hid (pb = none → lb = [] ∧ cb = 0)) (qa : Hid (fewB la = true)) (qb : Hid (fewB lb = true)) (fla : Hid (Fit la ∧ la.length ≤ 20)) (flb : Hid (Fit lb ∧ lb.length ≤ 20)) (oa : Hid (la.all okP = false)) (ob : Hid (lb.all okP = false)) (oc : Hid ((la ++ lb).all okP = false)) (X Y Z : List UInt8) (lX : Hid (X.length = 32)) (lY : Hid (Y.length = 32)) (lZ : Hid (Z.length = 32)) (hX : Hid (hdR d la = X)) (hY : Hid (hdR X lb = Y)) (hZ : Hid (hdR d (la ++ lb) = Z)) (hZz : Hid (Z = zs)) :
    Calls Try.prog 4 #[.agg (row d), .slice pa la.length ca, .slice pb lb.length cb] w fun e w' => e = .returned (.bool true) ∧ Below w.heap.size w w' := by
  go_enter Try.func4, Try.ntmps4
  go_wp2_with fail
  refine (works_any _).mono ?_
  rintro e v0 ⟨rfl, b0⟩
  have K0 := Lib.hid (((KW.start w).new (.cells (row d) 26)).past b0)
  clear b0
  have fa := Lib.hid (few_any la hla.out.1 hla.out.2.1 pa ca v0 ((hEa.out.past K0.out.bel).mono K0.out.size))
  have fb := Lib.hid (few_any lb hlb.out.1 hlb.out.2.1 pb cb v0 ((hEb.out.past K0.out.bel).mono K0.out.size))
  rw [qa.out] at fa
  rw [qb.out] at fb
  go_wp2_with fail
  refine fa.out.mono ?_
  rintro e u ⟨rfl, rfl⟩
  go_wp2_with fail
  refine fb.out.mono ?_
  rintro e u ⟨rfl, rfl⟩
  clear fb
  clear fa
  have sa : Hid (∀ e ∈ la, e.sum.length = 32) := Lib.hid (fun e he => (hla.out.2.2 e he).s)
  have sb : Hid (∀ e ∈ lb, e.sum.length = 32) := Lib.hid (fun e he => (hlb.out.2.2 e he).s)
  have sz : Hid (la.length ≤ 20 ∧ lb.length ≤ 20) := Lib.hid ⟨fla.out.2, flb.out.2⟩
  have Ea0 := Lib.hid ((hEa.out.past K0.out.bel).mono K0.out.size)
  have Eb0 := Lib.hid ((hEb.out.past K0.out.bel).mono K0.out.size)
  go_wp2_with (with_reducible refine wpList_append_evs rfl (.tmp 31) (.tmp 32) rfl v0.heap.size (.slice none 0 0) [] rfl (evs_nil _ _) pa ca la rfl sa.out Ea0.out na.out (by have := sz.out; simp; omega) (Nat.le_refl _) ?_)
  intro x1 v1 o1 b1
  have o1' := Lib.hid o1
  have b1' := Lib.hid b1
  have Eb1 := Lib.hid ((Eb0.out.past b1).mono b1.size)
  have sz1 : Hid (v0.heap.size ≤ v1.heap.size) := Lib.hid b1.size
  clear o1 b1
  go_wp2_with (with_reducible refine wpList_append_evs rfl (.tmp 34) (.tmp 35) rfl v0.heap.size x1 la rfl o1'.out pb cb lb rfl sb.out Eb1.out nb.out (by have := sz.out; omega) sz1.out ?_)
  intro x2 v2 o2 b2
  rw [← List.length_append] at o2
  obtain ⟨pp, cc, rfl, Eall⟩ := own_evs (fun e he => (List.mem_append.1 he).elim (sa.out e) (sb.out e)) o2
  have K2 := Lib.hid (K0.out.past (b1'.out.trans b2))
  clear o1' o2 b1' b2 Ea0 Eb0 Eb1 sz1 K0
  have Ea := Lib.hid ((hEa.out.past K2.out.bel).mono K2.out.size)
  have Eb := Lib.hid ((hEb.out.past K2.out.bel).mono K2.out.size)
  have Ec := Lib.hid Eall
  clear Eall
  have M0 : Hid (KW v2.heap.size v2 [(w.heap.size, .cells (row d) 26)] v2) := Lib.hid ((KW.start v2).know _ _ (K2.out.at 0 rfl) (by simp))
  obtain ⟨N, hN⟩ : ∃ N, Hid ((la ++ lb).length = N) := ⟨_, Lib.hid rfl⟩
  rw [hN.out]
  have h1 := Lib.hid (head_any d hd.out la fla.out.1 (by have := sz.out; omega) pa ca v2 Ea.out)
  rw [oa.out, hX.out] at h1
  go_wp2_with (with_reducible refine wpList_load_row_g (by with_unfolding_all rfl) 26 (.tmp 3) rfl _ rfl 26 (row d) _ (M0.out.at 0 rfl) Try.underlying26 rfl (row26 d hd.out) ?_)
  refine h1.out.mono ?_
  rintro e v3 ⟨rfl, b3⟩
  have M1 := Lib.hid ((M0.out.past b3).new (.cells (row zs) 26))
  have M2 := Lib.hid (M1.out.row 0 rfl (M0.out.past b3).size (row X))
  clear b3 h1
  have h2 := Lib.hid (head_any X lX.out lb flb.out.1 (by have := sz.out; omega) pb cb _ ((Eb.out.past M2.out.bel).mono M2.out.size))
  rw [ob.out, hY.out] at h2
  go_wp2_with (first
    | (with_reducible refine wpList_store_row rfl 26 (.tmp 10) (.tmp 41) rfl _ (row X) rfl rfl 26 _ (M1.out.at 0 rfl) (row26 X lX.out) (row_eq _ _ zs_len lX.out) (row_one X) ?_)
    | (with_reducible refine wpList_load_row_g (by with_unfolding_all rfl) 26 (.tmp 10) rfl _ rfl 26 (row X) _ (M2.out.at 0 rfl) Try.underlying26 rfl (row26 X lX.out) ?_))
  refine h2.out.mono ?_
  rintro e v4 ⟨rfl, b4⟩
  have M3 := Lib.hid ((M2.out.past b4).new (.cells (row zs) 26))
  have M4 := Lib.hid (M3.out.row 0 rfl (M2.out.past b4).size (row Y))
  clear b4 h2
  have h3 := Lib.hid (head_any d hd.out (la ++ lb) (fit_app fla.out.1 flb.out.1) (by have := sz.out; simp; omega) pp cc _ ((Ec.out.past M4.out.bel).mono M4.out.size))
  rw [hN.out, oc.out, hZ.out] at h3
  go_wp2_with (first
    | (with_reducible refine wpList_store_row rfl 26 (.tmp 12) (.tmp 47) rfl _ (row Y) rfl rfl 26 _ (M3.out.at 0 rfl) (row26 Y lY.out) (row_eq _ _ zs_len lY.out) (row_one Y) ?_)
    | (with_reducible refine wpList_load_row_g (by with_unfolding_all rfl) 26 (.tmp 3) rfl _ rfl 26 (row d) _ (M4.out.at 2 rfl) Try.underlying26 rfl (row26 d hd.out) ?_))
  refine h3.out.mono ?_
  rintro e v5 ⟨rfl, b5⟩
  have M5 := Lib.hid ((M4.out.past b5).new (.cells (row zs) 26))
  have M6 := Lib.hid (M5.out.row 0 rfl (M4.out.past b5).size (row Z))
  clear b5 h3
  have eqZ : Hid (∀ v, (Op.equalIn 10000 26 (.agg (row Z)) (.agg (row zs))).run Try.prog v = .ok true v) := Lib.hid (fun v => by rw [eql_dig Z zs lZ.out zs_len v, hZz.out]; simp)
  have hz2 := zero26
  go_wp2_with (first
    | (with_reducible refine wpList_store_row rfl 26 (.tmp 14) (.tmp 53) rfl _ (row Z) rfl rfl 26 _ (M5.out.at 0 rfl) (row26 Z lZ.out) (row_eq _ _ zs_len lZ.out) (row_one Z) ?_)
    | (with_reducible refine wpList_load_row_g (by with_unfolding_all rfl) 26 (.tmp 14) rfl _ rfl 26 (row Z) _ (M6.out.at 0 rfl) Try.underlying26 rfl (row26 Z lZ.out) ?_)
    | (with_reducible refine wpList_deq_g (by with_unfolding_all rfl) 26 26 (.tmp 67) (.tmp 68) rfl (row Z) (row zs) rfl rfl (by kernel_rfl) true eqZ.out ?_))
  go_ret
  exact ⟨rfl, K2.out.bel.trans (M6.out.bel.mono K2.out.size)⟩
end Go.Proofs.Ytfilolmbppjbjaa
