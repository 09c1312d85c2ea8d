/-
  The walk of ChainHeads.
-/
import Derived.Test.YtfilolmbppjbjaaGreatRInput
import Derived.Test.YtfilolmbppjbjaaGreatFew
namespace Go.Proofs.YtfilolmbppjbjaaGreat
open Go Go.RowKit
set_option linter.unusedVariables false

section
variable {P : Program} {ops : Array Oper} {rest : List Oper} {op : Oper} {a : Act} {w : World} {Q : Exit → Act → World → Prop}
theorem wpList_dne_g (hw : Region.wanted op (yielded ops a.tmps) = true) (t t' : TypeId) (x y : Operand) (ho : op.op = .binOp .neq t x y t') (c d : Array Value) (hx : a.eval x = .agg c) (hy : a.eval y = .agg d) (hp : P.eqGuardType P.depth t = false) (r : Bool) (hr : ∀ v, (Op.equalIn 10000 t (.agg c) (.agg d)).run P v = .ok r v)
    (h : wpList P ops Q rest (a.put op.dst (.bool (!r))) w) : wpList P ops Q (op :: rest) a w :=
  wpList_exec_g hw _ (by unfold execOp; simp only [ho, hx, hy]; simp [eqGuard, hp, run_neq_struct, hr, go_sem]) h
end
theorem own_dat {n₀ : Nat} {w : World} {v : Value} {T : List (List UInt8 × List UInt8)} (hT : ∀ x ∈ T, x.2.length = 32) (h : w.ownsRow n₀ 23 32 v T.length (digs T)) : ∃ A c, v = .slice A T.length c ∧ ∀ k (hk : k < T.length), ∃ g, A = some ⟨g, 0, none⟩ ∧ ∀ u, sh.Belo w.heap.size w u → (Instr.loadAt 23 (.pointer (some ⟨g, k * 32, none⟩))).run Tryz.prog u = .ok (.agg (row T[k].2)) u := by
  rcases own_digs hT h with ⟨rfl, rfl⟩ | ⟨g, cap, cur, rfl, _, hg, hld⟩
  · exact ⟨none, 0, rfl, fun k hk => by simp at hk⟩
  · exact ⟨_, cap, rfl, fun k hk => ⟨g, rfl, fun u hu => hld k hk u ((hu.block g (lt_of_some hg)).trans hg)⟩⟩
theorem hdR_len (d : List UInt8) (hd : d.length = 32) (l : List Ev) : (hdR d l).length = 32 := by
  unfold hdR
  split
  · exact headD_len _ _ hd
  · rfl
theorem entN11 : ∀ args w, (callFunc 11 args).run Tryz.prog w = .ok (.enter 11 args) w := enters_of Tryz.func11 (by kernel_rfl) rfl
def nxt (d : List UInt8) (e : Ev) : List UInt8 := if okP e then nextD d e else zs
theorem nxt_len (d : List UInt8) (e : Ev) : (nxt d e).length = 32 := by
  unfold nxt
  split
  · exact nextD_len _ _
  · rfl
theorem next_both (d : List UInt8) (hd : d.length = 32) (e : Ev) (he : e.fit) (w : World) :
    Calls Tryz.prog 11 #[.agg (row d), .agg (evr e)] w fun r w' => r = .returned (.tuple #[.agg (row (nxt d e)), .bool (okP e)]) ∧ sh.Belo w.heap.size w w' := by
  unfold nxt
  cases h : okP e with
  | true => exact (next_true d hd e he h w).mono fun r w' ⟨h1, h2⟩ => ⟨h1, sh.Belo.of h2⟩
  | false => exact (next_false d hd e he h w).mono fun r w' ⟨h1, h2⟩ => ⟨h1, sh.Belo.of h2⟩
theorem rnext_both (d : List UInt8) (hd : d.length = 32) (e : Ev) (he : e.fit) (w : World) :
    Calls Tryz.prog 12 #[.agg (row d), .agg (evr e)] w fun r w' => r = .returned (.tuple #[.agg (row (nxt d e)), .bool (okP e)]) ∧ sh.Belo w.heap.size w w' := by
  unfold nxt
  cases h : okP e with
  | true => exact rnext_true d hd e he h w
  | false => exact rnext_false d hd e he h w

set_option maxRecDepth 100000 in
set_option maxHeartbeats 4000000 in
theorem heads_many (d : List UInt8) (l : List Ev) (hl : Hid ((l.length : Int) ≤ 9223372036854775807 ∧ (∀ e ∈ l, e.name.length ≤ 9223372036854775807) ∧ ∀ e ∈ l, e.wf)) (i : Int) (p : Option Addr) (cap : Nat) (w : World) (hE : Hid (EvsAt w.heap.size w p l)) (hq : Hid (fewB l = false)) :
    Calls Tryz.prog 3 #[.agg (row d), .slice p l.length cap, .int .i64 i] w fun e w' => e = .returned (.bool true) ∧ sh.Belo w.heap.size w w' := by
  go_enter Tryz.func3, Tryz.ntmps3
  go_wp2_with fail
  refine (works_any _).mono ?_
  rintro e v0 ⟨rfl, b0⟩
  have K0 := Lib.hid (((KW.start w).new (.cells (row d) 23)).past b0)
  clear b0
  have fa := Lib.hid (few_any l hl.out.1 hl.out.2.1 p cap v0 ((hE.out.past K0.out.bel).mono K0.out.size))
  rw [hq.out] at fa
  go_wp2_with fail
  refine fa.out.mono ?_
  rintro e u ⟨rfl, rfl⟩
  clear fa
  go_wp2_with fail
  go_ret
  exact ⟨rfl, K0.out.kb.bel⟩

set_option maxRecDepth 100000 in
set_option maxHeartbeats 8000000 in
theorem heads_few (d : List UInt8) (hd : Hid (d.length = 32)) (l : List Ev) (hl : Hid ((l.length : Int) ≤ 9223372036854775807 ∧ (∀ e ∈ l, e.name.length ≤ 9223372036854775807) ∧ ∀ e ∈ l, e.wf)) (i : Int) (p : Option Addr) (cap : Nat) (w : World) (hE : Hid (EvsAt w.heap.size w p l)) (hq : Hid (fewB l = true)) (fl : Hid (Fit l ∧ l.length ≤ 20)) :
    Calls Tryz.prog 3 #[.agg (row d), .slice p l.length cap, .int .i64 i] w fun e w' => e = .returned (.bool true) ∧ sh.Belo w.heap.size w w' := by
  have h20 : l.length ≤ 20 := fl.out.2
  have hz := zero26
  obtain ⟨A, hA⟩ : ∃ A, Hid (hdR d l = A) := ⟨_, Lib.hid rfl⟩
  have hAl : Hid (A.length = 32) := Lib.hid (by rw [← hA.out]; exact hdR_len d hd.out l)
  have hTl : (told l).length ≤ 21 := by have := told_len l; omega
  have hTf := Lib.hid (fun x hx => (told_fine l fl.out.1 x hx).2)
  have eqA := Lib.hid (fun v => (eql_dig A A hAl.out hAl.out v).trans (by rw [beq_self_eq_true]))
  have hK0 : Hid (KB w.heap.size w [(w.heap.size, .cells (row d) 23)] (w.alloc (.cells (row d) 23))) := Lib.hid ((KW.start w).kb.new _)
  go_enter Tryz.func3, Tryz.ntmps3
  go_wp2_with fail
  refine (works_any _).mono ?_
  rintro e v0 ⟨rfl, b0⟩
  have K0 := Lib.hid (hK0.out.past (sh.Belo.of b0))
  clear b0 hK0
  have E0 : Hid (EvsAt v0.heap.size v0 p l) := Lib.hid ((hE.out.pastB K0.out.bel).mono K0.out.size)
  have fa := Lib.hid (few_any l hl.out.1 hl.out.2.1 p cap v0 E0.out)
  rw [hq.out] at fa
  go_wp2_with fail
  refine fa.out.mono ?_
  rintro e u ⟨rfl, rfl⟩
  clear fa
  have ch := Lib.hid (head_any d hd.out l fl.out.1 (by omega) p cap v0 E0.out)
  rw [hA.out] at ch
  go_wp2_with (with_reducible refine wpList_load_row rfl 23 (.tmp 3) rfl _ rfl 23 (row d) _ (K0.out.at 0 rfl) Tryz.underlying23 rfl (row26 d hd.out) ?_)
  refine ch.out.mono ?_
  rintro e v1 ⟨rfl, b1⟩
  have K1 := Lib.hid (K0.out.past (sh.Belo.of b1))
  clear b1 ch E0
  have K2 := Lib.hid (K1.out.new (.cells (row zs) 23))
  have K3 := Lib.hid (K2.out.row 0 rfl K1.out.size (row A))
  have ch := Lib.hid (rhead_any d hd.out l fl.out.1 (by omega) p cap _ ((hE.out.pastB K3.out.bel).mono K3.out.size))
  rw [hA.out] at ch
  go_wp2_with (first
    | (with_reducible refine wpList_store_row rfl 23 (.tmp 9) (.tmp 32) rfl _ (row A) rfl rfl 23 _ (K2.out.at 0 rfl) (row26 A hAl.out) (row_eq _ _ zs_len hAl.out) (row_one A) ?_)
    | (with_reducible refine wpList_load_row rfl 23 (.tmp 3) rfl _ rfl 23 (row d) _ (K3.out.at 1 rfl) Tryz.underlying23 rfl (row26 d hd.out) ?_))
  refine ch.out.mono ?_
  rintro e v2 ⟨rfl, b2⟩
  have K4 := Lib.hid (K3.out.past b2)
  clear b2 ch K2 K3
  have K5 := Lib.hid (K4.out.new (.cells (row zs) 23))
  have K6 := Lib.hid (K5.out.row 0 rfl K4.out.size (row A))
  have ch := Lib.hid (heads_any l fl.out.1 (by omega) p cap _ ((hE.out.pastB K6.out.bel).mono K6.out.size))
  go_wp2_with (with_reducible refine wpList_store_row rfl 23 (.tmp 11) (.tmp 38) rfl _ (row A) rfl rfl 23 _ (K5.out.at 0 rfl) (row26 A hAl.out) (row_eq _ _ zs_len hAl.out) (row_one A) ?_)
  refine ch.out.mono ?_
  rintro e v3 ⟨x, rfl, hx, b3⟩
  have K7 := Lib.hid (K6.out.past (sh.Belo.of b3))
  obtain ⟨Ax, cx, rfl, hx'⟩ := own_dat hTf.out hx
  have dx := Lib.hid hx'
  clear b3 ch K5 K6 hx hx'
  have ch := Lib.hid (rheads_any l fl.out.1 (by omega) p cap v3 ((hE.out.pastB K7.out.bel).mono K7.out.size))
  go_wp2_with fail
  refine ch.out.mono ?_
  rintro e v4 ⟨y, rfl, hy, b4⟩
  have K8 := Lib.hid (K7.out.past b4)
  have b4' := Lib.hid b4
  obtain ⟨Ay, cy, rfl, hy'⟩ := own_dat hTf.out hy
  have dy := Lib.hid hy'
  clear b4 ch hy hy'
  go_upto_region 13 with (first
    | (refine wpList_exec_g (by rfl) _ (x_load_row 23 (.tmp 9) rfl _ rfl 23 (row A) _ (K8.out.at 1 rfl) Tryz.underlying23 rfl (row26 A hAl.out)) ?_)
    | (refine wpList_exec_g (by rfl) _ (x_load_row 23 (.tmp 11) rfl _ rfl 23 (row A) _ (K8.out.at 0 rfl) Tryz.underlying23 rfl (row26 A hAl.out)) ?_)
    | (refine wpList_dne_g (by rfl) 23 _ _ _ rfl (row A) (row A) rfl rfl (by kernel_rfl) true eqA.out ?_))
  obtain ⟨T, hT⟩ : ∃ T, told l = T := ⟨_, rfl⟩
  rw [hT]
  rw [hT] at dx dy hTl
  have hTf' : Hid (∀ x ∈ T, x.2.length = 32) := Lib.hid (by rw [← hT]; exact hTf.out)
  clear hTf hT
  have hTi : (T.length : Int) ≤ 21 := by omega
  go_wp2_with fail
  go_loopw [15] (fun j wr => ∃ k : Nat, k ≤ T.length ∧ j = .int .i64 (k : Int) ∧ Hid (KB w.heap.size w [(v2.heap.size, .cells (row A) 23), (v1.heap.size, .cells (row A) 23), (w.heap.size, .cells (row d) 23)] wr) ∧ Hid (sh.Belo v4.heap.size v4 wr)) (fun j _ => T.length - (intOf j).toNat)
  case atStart => exact ⟨0, Nat.zero_le _, rfl, K8, Lib.hid (sh.Belo.refl _ _)⟩
  case round =>
    obtain ⟨k, hk, rfl, K9, B9⟩ := hrel
    by_cases hlt : k < T.length
    · have hb : (k : Int) < (T.length : Int) := by omega
      obtain ⟨gx, rfl, lx⟩ := dx.out k hlt
      obtain ⟨gy, rfl, ly⟩ := dy.out k hlt
      have lx' := Lib.hid lx
      have ly' := Lib.hid ly
      have hXl := Lib.hid (hTf'.out _ (List.getElem_mem hlt))
      have b4o := b4'
      clear lx ly
      generalize (T[k]).2 = X at *
      have eqX := Lib.hid (fun v => (eql_dig X X hXl.out hXl.out v).trans (by rw [beq_self_eq_true]))
      go_upto_region 16 with fail
      refine wp_region_class (sh.Belo wr.heap.size wr) (by kernel_rfl) (by kernel_rfl) (by exact sh.Belo.drewN (sh.Belo.refl _ _) 1) ?_
      refine wpQuiet_val (by rfl) _ (fun u hu => x_move (.tmp 13) (.inl rfl) _ rfl) ?_
      refine wpQuiet_val (by rfl) _ (fun u hu => x_move (.tmp 15) (.inl rfl) _ rfl) ?_
      simp only [Act.put, List.setIfInBounds_toArray, List.set_cons_zero, List.set_cons_succ]
      refine wpQuiet_val (by rfl) _ (fun u hu => x_index 29 (.tmp 65) (.tmp 66) rfl _ _ _ rfl rfl (index35 gx T.length cx k hlt u)) ?_
      simp only [Act.put, List.setIfInBounds_toArray, List.set_cons_zero, List.set_cons_succ]
      refine wpQuiet_val (by rfl) _ (fun u hu => x_load 23 (.tmp 67) rfl _ _ rfl (lx'.out u (b4o.out.trans ((B9.out.trans (hu.mono B9.out.size)).mono b4o.out.size)))) ?_
      refine wpQuiet_val (by rfl) _ (fun u hu => x_move (.tmp 14) (.inl rfl) _ rfl) ?_
      refine wpQuiet_val (by rfl) _ (fun u hu => x_move (.tmp 15) (.inl rfl) _ rfl) ?_
      simp only [Act.put, List.setIfInBounds_toArray, List.set_cons_zero, List.set_cons_succ]
      refine wpQuiet_val (by rfl) _ (fun u hu => x_index 29 (.tmp 69) (.tmp 70) rfl _ _ _ rfl rfl (index35 gy T.length cy k hlt u)) ?_
      simp only [Act.put, List.setIfInBounds_toArray, List.set_cons_zero, List.set_cons_succ]
      refine wpQuiet_val (by rfl) _ (fun u hu => x_load 23 (.tmp 71) rfl _ _ rfl (ly'.out u (B9.out.trans (hu.mono B9.out.size)))) ?_
      simp only [Act.put, List.setIfInBounds_toArray, List.set_cons_zero, List.set_cons_succ]
      refine wpQuiet_dne (by rfl) 23 _ _ _ rfl (row X) (row X) rfl rfl (by kernel_rfl) true eqX.out ?_
      simp only [Act.put, List.setIfInBounds_toArray, List.set_cons_zero, List.set_cons_succ]
      intro u hu
      have K10 := Lib.hid (K9.out.past hu)
      have B10 := Lib.hid (B9.out.trans (hu.mono B9.out.size))
      clear hu
      go_wp2_with fail
      go_roundw
      case rel => exact ⟨k + 1, by omega, by go_num, K10, B10⟩
      case measure => simp [intOf]; omega
    · obtain rfl : k = T.length := by omega
      have hb : ¬ (T.length : Int) < (T.length : Int) := by omega
      by_cases h0 : l.length = 0
      · have hb0 : ¬ (0 : Int) < (l.length : Int) := by omega
        clear K8 b4' B9 dx dy h0
        have ci := Lib.hid (input_any l fl.out.1 (by omega) i p cap wr ((hE.out.pastB K9.out.bel).mono K9.out.size))
        go_wp2_with fail
        refine ci.out.mono ?_
        rintro r z1 ⟨rfl, hz1⟩
        have Z1 := Lib.hid (K9.out.past (sh.Belo.of hz1))
        clear hz1 ci
        have ci := Lib.hid (rinput_any l fl.out.1 (by omega) i p cap z1 ((hE.out.pastB Z1.out.bel).mono Z1.out.size))
        go_wp2_with fail
        refine ci.out.mono ?_
        rintro r z2 ⟨rfl, hz2⟩
        have Z2 := Lib.hid (Z1.out.past hz2)
        clear hz2 ci
        generalize ByteArray.mk (inpD l i).toArray = RS at *
        go_wp2_with fail
        go_returns
        exact ⟨by simp, Z2.out.bel⟩

      · have hpos : 0 < l.length := by omega
        have hb0 : (0 : Int) < (l.length : Int) := by omega
        obtain ⟨b, o, rfl, hr⟩ := hE.out.atB 0 hpos
        have hft := Lib.hid (fl.out.1 _ (List.getElem_mem hpos))
        have hr' := Lib.hid (fun (u : World) (hu : sh.Belo w.heap.size w u) => load_ev l[0] hft.out.w.s b (o + 0 * 37) u (hr u hu))
        have c11 := Lib.hid (fun v => next_both d hd.out l[0] hft.out v)
        have c12 := Lib.hid (fun v => rnext_both d hd.out l[0] hft.out v)
        obtain ⟨X, hX⟩ : ∃ X, Hid (nxt d l[0] = X) := ⟨_, Lib.hid rfl⟩
        have hXl : Hid (X.length = 32) := Lib.hid (by rw [← hX.out]; exact nxt_len d l[0])
        have eqX := Lib.hid (fun v => (eql_dig X X hXl.out hXl.out v).trans (by rw [beq_self_eq_true]))
        rw [hX.out] at c11 c12
        clear hX hr K8 b4' B9 dx dy h0
        generalize l[0] = e0 at *
        go_upto_region 19 with fail
        refine wp_region_one (P := Tryz.prog) 4 [.agg (row d), .slice (some ⟨b, o, none⟩) l.length cap, .pointer (some ⟨b, o + 0 * 37, none⟩), .agg (evr e0)] 11 _ _ #[.agg (row d), .agg (evr e0)] 82 77 83 84 16 17 23 (row zs) (row X) (.bool (okP e0)) (by kernel_rfl) (by kernel_rfl) rfl rfl ?head _ _ _ _ _ _ _ rfl rfl rfl rfl rfl rfl rfl rfl rfl rfl rfl rfl rfl rfl rfl rfl rfl rfl rfl rfl rfl (by kernel_rfl) (by kernel_rfl) (by kernel_rfl) (by kernel_rfl) (by kernel_rfl) (by kernel_rfl) entN11 ?args (fun u _ => c11.out u) (row26 _ hXl.out) (row_eq _ _ zs_len hXl.out) (row_one _) zero26 ?fin
        case head =>
          intro j oj vj ho hv a u hk hb hB
          have hu := K9.out.past hB
          match j, ho, hv with
          | 0, ho, hv =>
            obtain rfl := Option.some.inj ho
            obtain rfl := Option.some.inj hv
            exact x_load_row 23 (.tmp 3) rfl w.heap.size (eval_tmp ((hb 3 (by kernel_rfl)).trans rfl)) 23 (row d) _ (hu.at 2 rfl) Tryz.underlying23 rfl (row26 d hd.out)
          | 1, ho, hv =>
            obtain rfl := Option.some.inj ho
            obtain rfl := Option.some.inj hv
            exact x_move (.tmp 1) (.inl rfl) _ (eval_tmp ((hb 1 (by kernel_rfl)).trans rfl))
          | 2, ho, hv =>
            obtain rfl := Option.some.inj ho
            obtain rfl := Option.some.inj hv
            exact x_index 24 (.tmp 79) (.const (.int .i64 0)) rfl _ _ _ (eval_tmp (hk 1 _ 79 _ (by kernel_rfl) rfl rfl rfl)) rfl (index22 b o l.length cap 0 hpos u)
          | 3, ho, hv =>
            obtain rfl := Option.some.inj ho
            obtain rfl := Option.some.inj hv
            exact x_load 34 (.tmp 80) rfl _ _ (eval_tmp (hk 2 _ 80 _ (by kernel_rfl) rfl rfl rfl)) (hr'.out u hu.bel)
          | j + 4, ho, hv => simp at hv
        case args =>
          intro a hk hb
          have e1 := eval_tmp (hk 0 _ 78 _ (by kernel_rfl) rfl rfl rfl)
          have e2 := eval_tmp (hk 3 _ 81 _ (by kernel_rfl) rfl rfl rfl)
          simp only [List.map_toArray, List.map_cons, List.map_nil, e1, e2]
        case fin =>
          intro b19 u19 hB hA hbA
          have h0 := K9.out.lt 0 rfl
          have h1 := K9.out.lt 1 rfl
          have h2 := K9.out.lt 2 rfl
          have K10 := Lib.hid ((K9.out.past hB).know b19 _ hA (by simp; omega))
          clear hA hB hbA h0 h1 h2
          simp only [putAll, List.cons_append, List.nil_append, List.getD_cons_zero, List.getD_cons_succ, Nat.zero_add, Nat.reduceAdd]
          simp only [Act.put, List.setIfInBounds_toArray, List.set_cons_zero, List.set_cons_succ]

          go_upto_region 20 with fail
          refine wp_region_one (P := Tryz.prog) 4 [.agg (row d), .slice (some ⟨b, o, none⟩) l.length cap, .pointer (some ⟨b, o + 0 * 37, none⟩), .agg (evr e0)] 12 _ _ #[.agg (row d), .agg (evr e0)] 90 85 91 92 18 19 23 (row zs) (row X) (.bool (okP e0)) (by kernel_rfl) (by kernel_rfl) rfl rfl ?head _ _ _ _ _ _ _ rfl rfl rfl rfl rfl rfl rfl rfl rfl rfl rfl rfl rfl rfl rfl rfl rfl rfl rfl rfl rfl (by kernel_rfl) (by kernel_rfl) (by kernel_rfl) (by kernel_rfl) (by kernel_rfl) (by kernel_rfl) entR12 ?args (fun u _ => c12.out u) (row26 _ hXl.out) (row_eq _ _ zs_len hXl.out) (row_one _) zero26 ?fin
          case head =>
            intro j oj vj ho hv a u hk hb hB
            have hu := K10.out.past hB
            match j, ho, hv with
            | 0, ho, hv =>
              obtain rfl := Option.some.inj ho
              obtain rfl := Option.some.inj hv
              exact x_load_row 23 (.tmp 3) rfl w.heap.size (eval_tmp ((hb 3 (by kernel_rfl)).trans rfl)) 23 (row d) _ (hu.at 3 rfl) Tryz.underlying23 rfl (row26 d hd.out)
            | 1, ho, hv =>
              obtain rfl := Option.some.inj ho
              obtain rfl := Option.some.inj hv
              exact x_move (.tmp 1) (.inl rfl) _ (eval_tmp ((hb 1 (by kernel_rfl)).trans rfl))
            | 2, ho, hv =>
              obtain rfl := Option.some.inj ho
              obtain rfl := Option.some.inj hv
              exact x_index 24 (.tmp 87) (.const (.int .i64 0)) rfl _ _ _ (eval_tmp (hk 1 _ 87 _ (by kernel_rfl) rfl rfl rfl)) rfl (index22 b o l.length cap 0 hpos u)
            | 3, ho, hv =>
              obtain rfl := Option.some.inj ho
              obtain rfl := Option.some.inj hv
              exact x_load 34 (.tmp 88) rfl _ _ (eval_tmp (hk 2 _ 88 _ (by kernel_rfl) rfl rfl rfl)) (hr'.out u hu.bel)
            | j + 4, ho, hv => simp at hv
          case args =>
            intro a hk hb
            have e1 := eval_tmp (hk 0 _ 86 _ (by kernel_rfl) rfl rfl rfl)
            have e2 := eval_tmp (hk 3 _ 89 _ (by kernel_rfl) rfl rfl rfl)
            simp only [List.map_toArray, List.map_cons, List.map_nil, e1, e2]
          case fin =>
            intro b20 u20 hB hA hbA
            have h0 := K10.out.lt 0 rfl
            have h1 := K10.out.lt 1 rfl
            have h2 := K10.out.lt 2 rfl
            have h3 := K10.out.lt 3 rfl
            have K11 := Lib.hid ((K10.out.past hB).know b20 _ hA (by simp; omega))
            clear hA hB hbA h0 h1 h2
            simp only [putAll, List.cons_append, List.nil_append, List.getD_cons_zero, List.getD_cons_succ, Nat.zero_add, Nat.reduceAdd]
            simp only [Act.put, List.setIfInBounds_toArray, List.set_cons_zero, List.set_cons_succ]

            go_upto_region 23 with (first
              | (with_reducible refine wpList_load_row rfl 23 (.tmp 16) rfl _ rfl 23 (row X) _ (K11.out.at 1 rfl) Tryz.underlying23 rfl (row26 X hXl.out) ?_)
              | (with_reducible refine wpList_load_row rfl 23 (.tmp 18) rfl _ rfl 23 (row X) _ (K11.out.at 0 rfl) Tryz.underlying23 rfl (row26 X hXl.out) ?_)
              | (refine wpList_dne_g (by rfl) 23 _ _ _ rfl (row X) (row X) rfl rfl (by kernel_rfl) true eqX.out ?_))
            have ci := Lib.hid (input_any l fl.out.1 (by omega) i (some ⟨b, o, none⟩) cap u20 ((hE.out.pastB K11.out.bel).mono K11.out.size))
            go_wp2_with fail
            refine ci.out.mono ?_
            rintro r z1 ⟨rfl, hz1⟩
            have Z1 := Lib.hid (K11.out.past (sh.Belo.of hz1))
            clear hz1 ci
            have ci := Lib.hid (rinput_any l fl.out.1 (by omega) i (some ⟨b, o, none⟩) cap z1 ((hE.out.pastB Z1.out.bel).mono Z1.out.size))
            go_wp2_with fail
            refine ci.out.mono ?_
            rintro r z2 ⟨rfl, hz2⟩
            have Z2 := Lib.hid (Z1.out.past hz2)
            clear hz2 ci
            generalize ByteArray.mk (inpD l i).toArray = RS at *
            go_wp2_with fail
            go_returns
            exact ⟨by simp, Z2.out.bel⟩

theorem heads_walk (d : List UInt8) (l : List Ev) (p : Option Addr) (cap : Nat) (i : Int) (w : World) (hd : d.length = 32) (hE : EvsAt w.heap.size w p l) (hw : ∀ e ∈ l, e.wf ∧ e.name.length ≤ maxLen) (hm : l.length ≤ maxLen) :
    Calls Tryz.prog 3 #[.agg (row d), .slice p l.length cap, .int .i64 i] w fun e w' => e = .returned (.bool true) ∧ sh.Belo w.heap.size w w' := by
  have hl : Hid ((l.length : Int) ≤ 9223372036854775807 ∧ (∀ e ∈ l, e.name.length ≤ 9223372036854775807) ∧ ∀ e ∈ l, e.wf) :=
    Lib.hid ⟨by unfold maxLen at hm; omega, fun e he => by have := (hw e he).2; unfold maxLen at this; omega, fun e he => (hw e he).1⟩
  cases hq : fewB l with
  | false => exact heads_many d l hl i p cap w (Lib.hid hE) (Lib.hid hq)
  | true => exact heads_few d (Lib.hid hd) l hl i p cap w (Lib.hid hE) (Lib.hid hq) (Lib.hid (fewB_fit hq hl.out.2.2))
end Go.Proofs.YtfilolmbppjbjaaGreat
