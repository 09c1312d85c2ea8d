/-
  What Heads of the document's answer (chain) returns.
-/
import Derived.Test.YtfilolmbppjbjaaGreatRHead
import Derived.Test.YtfilolmbppjbjaaGreatHeadsOf
import Derived.Test.YtfilolmbppjbjaaGreatOpens
import Derived.Maps.AppendAt
namespace Go.Proofs.YtfilolmbppjbjaaGreat
open Go Go.RowKit

def TT (l : List Ev) (k : Nat) : List (List UInt8 × List UInt8) := (CEN, startD) :: tld startD (l.take k)
theorem tld_len (d : List UInt8) (l : List Ev) : (tld d l).length = l.length := by
  induction l generalizing d with
  | nil => rfl
  | cons e l ih => simp [tld, ih]
theorem TT_zero (l : List Ev) : digs (TT l 0) = (row startD).toList := by simp [TT, digs, tld]
theorem TT_next (l : List Ev) (k : Nat) (hk : k < l.length) : digs (TT l (k + 1)) = digs (TT l k) ++ (row (nextD (headD startD (l.take k)) l[k])).toList := by
  have h : TT l (k + 1) = TT l k ++ [(headD startD (l.take k) ++ putE l[k], nextD (headD startD (l.take k)) l[k])] := by
    unfold TT
    rw [List.take_succ_eq_append_getElem hk, tld_snoc]; rfl
  rw [h, digs_snoc]
theorem TT_told (l : List Ev) (h : l.all okP = true) : told l = TT l l.length := by
  unfold told TT; rw [h, List.take_length]; rfl
theorem TT_len (l : List Ev) : (TT l l.length).length = l.length + 1 := by
  unfold TT; rw [List.take_length, List.length_cons, tld_len]
theorem told_no (l : List Ev) (h : l.all okP = false) : told l = [] := by
  unfold told; rw [h]; rfl
theorem own_one (d : List UInt8) (hd : d.length = 32) (W : World) (base : Nat) (h : base ≤ W.heap.size) : (W.alloc (.cells (row d) 23)).ownsRow base 23 32 (.slice (some ⟨W.heap.size, 0, none⟩) 1 1) 1 (row d).toList := by
  have hl : (row d).toList.length = 32 := by rw [Array.length_toList, row_size, hd]
  refine ⟨by rw [hl], .inr ⟨W.heap.size, 1, row d, rfl, h, by rw [heap_alloc_if, if_pos rfl], Nat.le_refl _, by unfold maxLen; omega, by rw [row_size, hd], ?_⟩⟩
  rw [List.take_of_length_le (by omega)]
theorem KB.pastN {B N : Nat} {w v v' : World} {L : List (Nat × Obj)} (h : KB B w L v) (hb : sh.Belo N v v') (hBN : B ≤ N) (hL : ∀ x ∈ L, x.1 < N) : KB B w L v' :=
  ⟨h.le, h.bel.trans (hb.mono hBN), fun x hx => (hb.block _ (hL x hx)).trans (h.has x hx), h.nd⟩
theorem wpList_append_dig {ops : Array Oper} {rest : List Oper} {o : Oper} {a : Act} {w : World} {Q : Exit → Act → World → Prop} (hgd : o.guard = none) (s x : Operand)
    (ho : o.op = .call { callee := .builtin .append, args := #[s, x], argTypes := #[29, 29] }) (base : Nat) (v : Value) (n : Nat) (xs : List Value) (hs : a.eval s = v) (hown : w.ownsRow base 23 32 v n xs)
    (g : Nat) (d : List UInt8) (hd : d.length = 32) (hg : w.heap[g]? = some (.cells (row d) 23)) (hx : a.eval x = .slice (some ⟨g, 0, none⟩) 1 1) (hn : n ≤ 2000) (hbase : base ≤ w.heap.size)
    (h : ∀ v' w', w'.ownsRow base 23 32 v' (n + 1) (xs ++ (row d).toList) → sh.Belo base w w' → wpList Tryz.prog ops Q rest (a.put o.dst v') w') : wpList Tryz.prog ops Q (o :: rest) a w := by
  obtain ⟨i, hi, hz, hz1, hz2⟩ := info_parts info26
  refine wpList_append_own_at w hgd s x 29 ho base 23 i (.agg (row zs)) 32 32 Tryz.underlying29 hi hz hz1 hz2 rfl (by decide) v n xs hs hown ⟨g, 0, none⟩ 1 1 (row d).toList hx (by rw [Array.length_toList, row_size, hd]) (fun j u hj => ?_) (fun u hu => (Array.all_eq_true_iff_forall_mem.1 (row_one d)) u (by simpa using hu)) (by unfold maxLen; omega) (by omega) hbase ?_
  · rw [Addr.add_mid, Nat.zero_add, cell_of_row w g _ _ _ _ hg]
    simpa using hj
  · intro v' w' h1 h2 _ _
    exact h v' w' h1 (sh.Belo.of ((Below.refl base w).grown h2 hbase (fun k hk => by
      obtain ⟨_, _, hge⟩ := own_lt hown hk
      exact hge)))

set_option maxRecDepth 100000 in
set_option maxHeartbeats 4000000 in
theorem rheads_any (l : List Ev) (hl : Fit l) (hn : l.length ≤ 1000) (p : Option Addr) (cap : Nat) (w : World) (hE : EvsAt w.heap.size w p l) :
    Calls Tryz.prog 10 #[.slice p l.length cap] w fun r w' => ∃ v, r = .returned v ∧ w'.ownsRow w.heap.size 23 32 v (told l).length (digs (told l)) ∧ sh.Belo w.heap.size w w' := by
  have hz2 := zero26
  have hE' := Lib.hid hE
  have hfit := Lib.hid hl
  have hll : (l.length : Int) ≤ 1000 := by omega
  have cs := Lib.hid (fun v => rstart_any v)
  have hSl := Lib.hid (sha_len CEN)
  have hS : Hid (sha CEN = startD) := Lib.hid rfl
  rw [hS.out] at hSl
  have hT0 := Lib.hid (TT_zero l)
  clear hE hl hS
  go_enter Tryz.func10, Tryz.ntmps10
  go_wp2_with fail
  refine (cs.out _).mono ?_
  rintro r V ⟨rfl, hB⟩
  have hVs := hB.size
  have hK0 : Hid (KB w.heap.size w [] V) := Lib.hid ((KW.start w).kb.past hB)
  have hK1 := Lib.hid (hK0.out.new (.cells (row zs) 23))
  have hK2 := Lib.hid (hK1.out.row 0 rfl hVs (row startD))
  have hbd := Lib.hid (fun (U : World) => build_dig startD hSl.out U)
  clear hB
  go_wp2_with (first
    | (with_reducible refine wpList_store_row rfl 23 (.tmp 3) (.tmp 8) rfl _ (row startD) rfl rfl 23 _ (hK1.out.at 0 rfl) (row26 _ hSl.out) (row_eq _ _ zs_len hSl.out) (row_one _) ?_)
    | (with_reducible refine wpList_load_row rfl 23 (.tmp 3) rfl _ rfl 23 (row startD) _ (hK2.out.at 0 rfl) Tryz.underlying23 rfl (row26 _ hSl.out) ?_)
    | (with_reducible refine wpList_build1 rfl 29 (.tmp 9) rfl (.agg (row startD)) _ rfl _ (hbd.out _) ?_))
  have hK3 : Hid (KB w.heap.size w [(V.heap.size, .cells (row (headD startD (l.take 0))) 23)] (((V.alloc (.cells (row zs) 23)).setRow V.heap.size (row startD)).alloc (.cells (row startD) 23))) := Lib.hid ((hK2.out.new _).drop)
  have hO3 : Hid ((((V.alloc (.cells (row zs) 23)).setRow V.heap.size (row startD)).alloc (.cells (row startD) 23)).ownsRow (V.heap.size + 1) 23 32 (.slice (some ⟨V.heap.size + 1, 0, none⟩) 1 1) (0 + 1) (digs (TT l 0))) := Lib.hid (by
    rw [hT0.out]
    have h1 : ((V.alloc (.cells (row zs) 23)).setRow V.heap.size (row startD)).heap.size = V.heap.size + 1 := by rw [size_setRow]; simp
    have h2 := own_one startD hSl.out ((V.alloc (.cells (row zs) 23)).setRow V.heap.size (row startD)) (V.heap.size + 1) (by omega)
    rw [h1] at h2
    exact h2)
  clear hK0 hK1 hK2 hT0 hbd
  go_wp2_with fail
  go_loopw [4, 5] (fun v i wr => ∃ (k : Nat) (x : Value), k ≤ l.length ∧ i = .int .i64 (k : Int) ∧ x = v ∧ Hid ((l.take k).all okP = true) ∧ Hid (KB w.heap.size w [(V.heap.size, .cells (row (headD startD (l.take k))) 23)] wr) ∧ Hid (wr.ownsRow (V.heap.size + 1) 23 32 x (k + 1) (digs (TT l k)))) (fun _ i _ => l.length - (intOf i).toNat)
  case atStart => exact ⟨0, _, Nat.zero_le _, rfl, rfl, Lib.hid rfl, hK3, hO3⟩
  case round =>
    obtain ⟨k, v, hk, rfl, rfl, hall, hK, hO⟩ := hrel
    clear hK3 hO3
    by_cases hlt : k < l.length
    · have hb : (k : Int) < (l.length : Int) := by omega
      obtain ⟨b, o, rfl, hr⟩ := hE'.out.atB k hlt
      have hft := Lib.hid (hfit.out _ (List.getElem_mem hlt))
      have hr' := Lib.hid (fun (u : World) (hu : sh.Belo w.heap.size w u) => load_ev l[k] hft.out.w.s b (o + k * 37) u (hr u hu))
      have hts : Hid ((l.take (k + 1)).all okP = okP l[k]) := Lib.hid (by rw [List.take_succ_eq_append_getElem hlt, List.all_append, hall.out]; simp)
      have hhd : Hid (headD startD (l.take (k + 1)) = nextD (headD startD (l.take k)) l[k]) := Lib.hid (by rw [List.take_succ_eq_append_getElem hlt, headD_snoc])
      have hno : Hid (okP l[k] = false → l.all okP = false) := Lib.hid (fun h => by rw [List.all_eq_false]; exact ⟨_, List.getElem_mem hlt, by rw [h]; decide⟩)
      have hDl := Lib.hid (headD_len startD (l.take k) hSl.out)
      have hTn := Lib.hid (TT_next l k hlt)
      clear hr
      generalize l[k] = e at *
      generalize headD startD (l.take k) = D at *
      have hev : Hid (okP e = true ∨ okP e = false) := Lib.hid (by cases okP e <;> simp)
      rcases hev.out with ho | ho
      · have cn := Lib.hid (fun v => rnext_true D hDl.out e hft.out ho v)
        have hNl := Lib.hid (nextD_len D e)
        rw [ho] at hts
        clear hno ho
        generalize nextD D e = X at *
        go_upto_region 6 with fail
        have cn' := Lib.hid (fun (u : World) (_ : sh.Belo wr.heap.size wr u) => cn.out u)
        refine wp_region_one (P := Tryz.prog) 5 [.agg (row D), .slice (some ⟨b, o, none⟩) l.length cap, .int .i64 (k : Int), .pointer (some ⟨b, o + k * 37, none⟩), .agg (evr e)] 12 _ _ #[.agg (row D), .agg (evr e)] 23 17 24 25 6 7 23 (row zs) (row X) (.bool true) (by kernel_rfl) (by kernel_rfl) rfl rfl ?head _ _ _ _ _ _ _ rfl rfl rfl rfl rfl rfl rfl rfl rfl rfl rfl rfl rfl rfl rfl rfl rfl rfl rfl rfl rfl (by kernel_rfl) (by kernel_rfl) (by kernel_rfl) (by kernel_rfl) (by kernel_rfl) (by kernel_rfl) entR12 ?args cn'.out (row26 _ hNl.out) (row_eq _ _ zs_len hNl.out) (row_one _) zero26 ?fin
        case head =>
          intro j oj vj ho hv a u hk hb hB
          have hu := hK.out.past hB
          match j, ho, hv with
          | 0, ho, hv =>
            obtain rfl := Option.some.inj ho
            obtain rfl := Option.some.inj hv
            exact x_load_row 23 (.tmp 3) rfl V.heap.size (eval_tmp ((hb 3 (by kernel_rfl)).trans rfl)) 23 (row D) _ (hu.at 0 rfl) Tryz.underlying23 rfl (row26 D hDl.out)
          | 1, ho, hv =>
            obtain rfl := Option.some.inj ho
            obtain rfl := Option.some.inj hv
            exact x_move (.tmp 0) (.inl rfl) _ (eval_tmp ((hb 0 (by kernel_rfl)).trans rfl))
          | 2, ho, hv =>
            obtain rfl := Option.some.inj ho
            obtain rfl := Option.some.inj hv
            exact x_move (.tmp 5) (.inl rfl) _ (eval_tmp ((hb 5 (by kernel_rfl)).trans rfl))
          | 3, ho, hv =>
            obtain rfl := Option.some.inj ho
            obtain rfl := Option.some.inj hv
            exact x_index 24 (.tmp 19) (.tmp 20) rfl _ _ _ (eval_tmp (hk 1 _ 19 _ (by kernel_rfl) rfl rfl rfl)) (eval_tmp (hk 2 _ 20 _ (by kernel_rfl) rfl rfl rfl)) (index22 b o l.length cap k hlt u)
          | 4, ho, hv =>
            obtain rfl := Option.some.inj ho
            obtain rfl := Option.some.inj hv
            exact x_load 34 (.tmp 21) rfl _ _ (eval_tmp (hk 3 _ 21 _ (by kernel_rfl) rfl rfl rfl)) (hr'.out u hu.bel)
          | j + 5, ho, hv => simp at hv
        case args =>
          intro a hk hb
          have e1 := eval_tmp (hk 0 _ 18 _ (by kernel_rfl) rfl rfl rfl)
          have e2 := eval_tmp (hk 4 _ 22 _ (by kernel_rfl) rfl rfl rfl)
          simp only [List.map_toArray, List.map_cons, List.map_nil, e1, e2]
        case fin =>
          intro bA u hB hA hbA
          have hsz := hK.out.lt 0 rfl
          have hK1 := Lib.hid ((hK.out.past hB).know bA _ hA (by simp; omega))
          have hO1 : Hid (u.ownsRow (V.heap.size + 1) 23 32 v (k + 1) (digs (TT l k))) := Lib.hid (own_same hO.out (fun g hg => by obtain ⟨c, hc, _⟩ := own_lt hO.out hg; exact hB.block g (lt_of_some hc)))
          clear hA hB
          simp only [putAll, List.cons_append, List.nil_append, List.getD_cons_zero, List.getD_cons_succ, Nat.zero_add, Nat.reduceAdd]
          simp only [Act.put, List.setIfInBounds_toArray, List.set_cons_zero, List.set_cons_succ]

          have hK2 := Lib.hid (hK1.out.row 1 rfl hVs (row X))
          have hO2 : Hid ((u.setRow V.heap.size (row X)).ownsRow (V.heap.size + 1) 23 32 v (k + 1) (digs (TT l k))) := Lib.hid (own_same hO1.out (fun g hg => by obtain ⟨c, hc, hge⟩ := own_lt hO1.out hg; exact setRow_other _ _ _ _ (by omega)))
          have hbd := Lib.hid (fun (U : World) => build_dig X hNl.out U)
          have hK3 : Hid (KB w.heap.size w [(V.heap.size, .cells (row X) 23)] ((u.setRow V.heap.size (row X)).alloc (.cells (row X) 23))) := Lib.hid (((hK2.out.drop).new _).drop)
          have hsu := hK1.out.lt 0 rfl
          have hO3 : Hid (((u.setRow V.heap.size (row X)).alloc (.cells (row X) 23)).ownsRow (V.heap.size + 1) 23 32 v (k + 1) (digs (TT l k))) := Lib.hid (own_same hO2.out (fun g hg => by obtain ⟨c, hc, hge⟩ := own_lt hO2.out hg; rw [heap_alloc_if, if_neg (Nat.ne_of_lt (lt_of_some hc))]))
          have hnew : Hid (((u.setRow V.heap.size (row X)).alloc (.cells (row X) 23)).heap[(u.setRow V.heap.size (row X)).heap.size]? = some (.cells (row X) 23)) := Lib.hid (by rw [heap_alloc_if, if_pos rfl])
          have hsz2 : V.heap.size + 1 ≤ ((u.setRow V.heap.size (row X)).alloc (.cells (row X) 23)).heap.size := by simp [size_setRow]; omega
          go_wp2_with (first
            | (with_reducible refine wpList_load_row rfl 23 (.tmp 6) rfl _ rfl 23 (row X) _ (hK1.out.at 0 rfl) Tryz.underlying23 rfl (row26 X hNl.out) ?_)
            | (with_reducible refine wpList_store_row rfl 23 (.tmp 3) (.tmp 28) rfl _ (row X) rfl rfl 23 _ (hK1.out.at 1 rfl) (row26 X hNl.out) (row_eq _ _ hDl.out hNl.out) (row_one X) ?_)
            | (with_reducible refine wpList_load_row rfl 23 (.tmp 3) rfl _ rfl 23 (row X) _ (hK2.out.at 1 rfl) Tryz.underlying23 rfl (row26 X hNl.out) ?_)
            | (with_reducible refine wpList_build1 rfl 29 (.tmp 30) rfl (.agg (row X)) _ rfl _ (hbd.out _) ?_)
            | (refine wpList_append_dig rfl (.tmp 29) (.tmp 31) rfl (V.heap.size + 1) v (k + 1) (digs (TT l k)) rfl hO3.out _ X hNl.out hnew.out rfl (by omega) hsz2 ?_; intro v' w1 hown' hbel'; have hK4 := Lib.hid (hK3.out.pastN hbel' (by omega) (fun x hx => by rcases List.mem_cons.1 hx with rfl | hx; exact Nat.lt_succ_self _; cases hx))))
          go_roundw
          case rel => exact ⟨k + 1, _, by omega, by go_num, rfl, hts, Lib.hid (by rw [hhd.out]; exact hK4.out), Lib.hid (by rw [hTn.out]; exact hown')⟩
          case measure => simp [intOf]; omega
      · have cn := Lib.hid (fun v => rnext_false D hDl.out e hft.out ho v)
        have hq := Lib.hid (hno.out ho)
        clear hno ho hts hhd hTn
        go_upto_region 6 with fail
        have cn' := Lib.hid (fun (u : World) (_ : sh.Belo wr.heap.size wr u) => cn.out u)
        refine wp_region_one (P := Tryz.prog) 5 [.agg (row D), .slice (some ⟨b, o, none⟩) l.length cap, .int .i64 (k : Int), .pointer (some ⟨b, o + k * 37, none⟩), .agg (evr e)] 12 _ _ #[.agg (row D), .agg (evr e)] 23 17 24 25 6 7 23 (row zs) (row zs) (.bool false) (by kernel_rfl) (by kernel_rfl) rfl rfl ?head _ _ _ _ _ _ _ rfl rfl rfl rfl rfl rfl rfl rfl rfl rfl rfl rfl rfl rfl rfl rfl rfl rfl rfl rfl rfl (by kernel_rfl) (by kernel_rfl) (by kernel_rfl) (by kernel_rfl) (by kernel_rfl) (by kernel_rfl) entR12 ?args cn'.out (row26 _ rfl) (row_eq _ _ zs_len rfl) (row_one _) zero26 ?fin
        case head =>
          intro j oj vj ho hv a u hk hb hB
          have hu := hK.out.past hB
          match j, ho, hv with
          | 0, ho, hv =>
            obtain rfl := Option.some.inj ho
            obtain rfl := Option.some.inj hv
            exact x_load_row 23 (.tmp 3) rfl V.heap.size (eval_tmp ((hb 3 (by kernel_rfl)).trans rfl)) 23 (row D) _ (hu.at 0 rfl) Tryz.underlying23 rfl (row26 D hDl.out)
          | 1, ho, hv =>
            obtain rfl := Option.some.inj ho
            obtain rfl := Option.some.inj hv
            exact x_move (.tmp 0) (.inl rfl) _ (eval_tmp ((hb 0 (by kernel_rfl)).trans rfl))
          | 2, ho, hv =>
            obtain rfl := Option.some.inj ho
            obtain rfl := Option.some.inj hv
            exact x_move (.tmp 5) (.inl rfl) _ (eval_tmp ((hb 5 (by kernel_rfl)).trans rfl))
          | 3, ho, hv =>
            obtain rfl := Option.some.inj ho
            obtain rfl := Option.some.inj hv
            exact x_index 24 (.tmp 19) (.tmp 20) rfl _ _ _ (eval_tmp (hk 1 _ 19 _ (by kernel_rfl) rfl rfl rfl)) (eval_tmp (hk 2 _ 20 _ (by kernel_rfl) rfl rfl rfl)) (index22 b o l.length cap k hlt u)
          | 4, ho, hv =>
            obtain rfl := Option.some.inj ho
            obtain rfl := Option.some.inj hv
            exact x_load 34 (.tmp 21) rfl _ _ (eval_tmp (hk 3 _ 21 _ (by kernel_rfl) rfl rfl rfl)) (hr'.out u hu.bel)
          | j + 5, ho, hv => simp at hv
        case args =>
          intro a hk hb
          have e1 := eval_tmp (hk 0 _ 18 _ (by kernel_rfl) rfl rfl rfl)
          have e2 := eval_tmp (hk 4 _ 22 _ (by kernel_rfl) rfl rfl rfl)
          simp only [List.map_toArray, List.map_cons, List.map_nil, e1, e2]
        case fin =>
          intro bA u hB hA hbA
          have hsz := hK.out.lt 0 rfl
          have hK1 := Lib.hid ((hK.out.past hB).know bA _ hA (by simp; omega))
          have hO1 : Hid (u.ownsRow (V.heap.size + 1) 23 32 v (k + 1) (digs (TT l k))) := Lib.hid (own_same hO.out (fun g hg => by obtain ⟨c, hc, _⟩ := own_lt hO.out hg; exact hB.block g (lt_of_some hc)))
          clear hA hB
          simp only [putAll, List.cons_append, List.nil_append, List.getD_cons_zero, List.getD_cons_succ, Nat.zero_add, Nat.reduceAdd]
          simp only [Act.put, List.setIfInBounds_toArray, List.set_cons_zero, List.set_cons_succ]

          go_wp2_with fail
          go_ret
          exact ⟨_, rfl, by rw [told_no l hq.out]; exact World.ownsRow_nil _ _ _ _, hK1.out.bel⟩
    · obtain rfl : k = l.length := by omega
      have hb : ¬ (l.length : Int) < (l.length : Int) := by omega
      have hall' : Hid (l.all okP = true) := Lib.hid (by have := hall.out; rwa [List.take_length] at this)
      go_wp2_with fail
      go_ret
      exact ⟨_, rfl, by rw [TT_told l hall'.out, TT_len]; exact own_mono hO.out (by omega), hK.out.bel⟩
end Go.Proofs.YtfilolmbppjbjaaGreat
