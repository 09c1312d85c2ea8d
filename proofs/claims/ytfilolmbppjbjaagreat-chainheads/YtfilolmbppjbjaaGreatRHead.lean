/-
  What Head of the document's answer (chain) returns.
-/
import Derived.Test.YtfilolmbppjbjaaGreatRNext
import Derived.Test.YtfilolmbppjbjaaGreatDraw1
import Derived.Test.YtfilolmbppjbjaaGreatHead
import Derived.Test.YtfilolmbppjbjaaGreatSameOf
namespace Go.Proofs.YtfilolmbppjbjaaGreat
open Go Go.RowKit

section
variable {P : Program} {a : Act} {w : World} {o : Oper}
theorem x_load_row (ty : TypeId) (x : Operand) (ho : o.op = .load ty x) (b : Nat) (hx : a.eval x = .pointer (some ⟨b, 0, none⟩)) (t : TypeId) (c : Array Value) (d : TypeDesc) (hg : w.heap[b]? = some (.cells c t))
    (hu : P.underlying ty = some d) (hd : (match d with | .struct _ | .array _ _ => true | _ => false) = true) (hi : (P.info? ty).map (·.size) = some c.size) : (execOp a.eval o).run P w = .ok (.value (.agg c)) w := by
  unfold execOp
  simp only [ho, hx, Instr.loadAt, Instr.sureAddr, Sem.run_bind, Sem.run_pure, Result.andThen_ok, run_loadVar_row w b t ty c (0, 0) d hg hu hd hi]
theorem x_move (x : Operand) (ho : o.op = .move x ∨ o.op = .assign x) (v : Value) (hx : a.eval x = v) : (execOp a.eval o).run P w = .ok (.value v) w := by
  unfold execOp
  rcases ho with ho | ho <;> (simp only [ho, hx]; rfl)
theorem x_load (t : TypeId) (x : Operand) (ho : o.op = .load t x) (u v : Value) (hx : a.eval x = u) (hv : (Instr.loadAt t u).run P w = .ok v w) : (execOp a.eval o).run P w = .ok (.value v) w := by
  unfold execOp
  simp only [ho, hx, Sem.run_bind, hv, Result.andThen_ok, Sem.run_pure]
theorem x_index (t : TypeId) (x y : Operand) (ho : o.op = .indexAddr t x y) (u i v : Value) (hx : a.eval x = u) (hy : a.eval y = i) (hv : (Instr.indexAt t u i).run P w = .ok v w) : (execOp a.eval o).run P w = .ok (.value v) w := by
  unfold execOp
  simp only [ho, hx, hy, Sem.run_bind, hv, Result.andThen_ok, Sem.run_pure]
end
theorem KB.know {B : Nat} {w v : World} {L : List (Nat × Obj)} (h : KB B w L v) (b : Nat) (o : Obj) (hb : v.heap[b]? = some o) (hn : b ∉ L.map Prod.fst) : KB B w ((b, o) :: L) v :=
  ⟨h.le, h.bel, fun x hx => by
    rcases List.mem_cons.1 hx with rfl | hx
    · exact hb
    · exact h.has x hx, List.nodup_cons.2 ⟨hn, h.nd⟩⟩
theorem KB.drop {B : Nat} {w v : World} {L : List (Nat × Obj)} {x : Nat × Obj} (h : KB B w (x :: L) v) : KB B w L v :=
  ⟨h.le, h.bel, fun y hy => h.has y (List.mem_cons_of_mem _ hy), (List.nodup_cons.1 h.nd).2⟩
theorem EvsAt.atB {B : Nat} {w : World} {p : Option Addr} {l : List Ev} (h : EvsAt B w p l) (k : Nat) (hk : k < l.length) : ∃ b o, p = some ⟨b, o, none⟩ ∧ ∀ (v : World), sh.Belo B w v → v.rangeAt b (o + k * 37) (evr l[k]).toList := by
  rcases h with h | ⟨b, o, hp, hB, hr⟩
  · subst h; simp at hk
  · refine ⟨b, o, hp, fun v hb j x hx => ?_⟩
    have := hr k hk j x hx
    unfold World.cell? at this ⊢
    rw [hb.block b hB]; exact this
theorem EvsAt.pastB {B : Nat} {w v : World} {p : Option Addr} {l : List Ev} (h : EvsAt B w p l) (hb : sh.Belo B w v) : EvsAt B v p l := by
  rcases h with h | ⟨b, o, hp, hB, hr⟩
  · exact .inl h
  · refine .inr ⟨b, o, hp, hB, fun k hk j x hx => ?_⟩
    have := hr k hk j x hx
    unfold World.cell? at this ⊢
    rw [hb.block b hB]; exact this
theorem entR12 : ∀ args w, (callFunc 12 args).run Tryz.prog w = .ok (.enter 12 args) w := enters_of Tryz.func12 (by kernel_rfl) rfl

set_option maxRecDepth 100000 in
set_option maxHeartbeats 4000000 in
theorem rhead_any (d : List UInt8) (hd : d.length = 32) (l : List Ev) (hl : Fit l) (hn : l.length ≤ 1000) (p : Option Addr) (cap : Nat) (w : World) (hE : EvsAt w.heap.size w p l) :
    Calls Tryz.prog 8 #[.agg (row d), .slice p l.length cap] w fun r w' => r = .returned (.tuple #[.agg (row (hdR d l)), .bool (l.all okP)]) ∧ sh.Belo w.heap.size w w' := by
  have hz2 := zero26
  have hE' := Lib.hid hE
  have hfit := Lib.hid hl
  have hll : (l.length : Int) ≤ 1000 := by omega
  have hd' := Lib.hid hd
  have hK0 : Hid (KB w.heap.size w [(w.heap.size + 1, .cells (row zs) 23), (w.heap.size, .cells (row d) 23)] ((w.alloc (.cells (row d) 23)).alloc (.cells (row zs) 23))) := Lib.hid (by
    have := ((KW.start w).new (.cells (row d) 23)).new (.cells (row zs) 23); simpa using this.kb)
  clear hE hl hd
  go_enter Tryz.func8, Tryz.ntmps8
  go_wp2_with fail
  go_loopw [6] (fun i wr => ∃ k : Nat, k ≤ l.length ∧ i = .int .i64 (k : Int) ∧ Hid ((l.take k).all okP = true) ∧ Hid (KB w.heap.size w [(w.heap.size + 1, .cells (row zs) 23), (w.heap.size, .cells (row (headD d (l.take k))) 23)] wr)) (fun i _ => l.length - (intOf i).toNat)
  case atStart => exact ⟨0, Nat.zero_le _, rfl, Lib.hid rfl, hK0⟩
  case round =>
    obtain ⟨k, hk, rfl, hall, hK⟩ := hrel
    by_cases hlt : k < l.length
    · have hb : (k : Int) < (l.length : Int) := by omega
      obtain ⟨b, o, rfl, hr⟩ := hE'.out.atB k hlt
      have hft := Lib.hid (hfit.out _ (List.getElem_mem hlt))
      have hr' := Lib.hid (fun (u : World) (hu : sh.Belo w.heap.size w u) => load_ev l[k] hft.out.w.s b (o + k * 37) u (hr u hu))
      have hts : Hid ((l.take (k + 1)).all okP = okP l[k]) := Lib.hid (by rw [List.take_succ_eq_append_getElem hlt, List.all_append, hall.out]; simp)
      have hhd : Hid (headD d (l.take (k + 1)) = nextD (headD d (l.take k)) l[k]) := Lib.hid (by rw [List.take_succ_eq_append_getElem hlt, headD_snoc])
      have hno : Hid (okP l[k] = false → l.all okP = false) := Lib.hid (fun h => by rw [List.all_eq_false]; exact ⟨_, List.getElem_mem hlt, by rw [h]; decide⟩)
      have hDl := Lib.hid (headD_len d (l.take k) hd'.out)
      clear hr
      generalize l[k] = e at *
      generalize headD d (l.take k) = D at *
      have hev : Hid (okP e = true ∨ okP e = false) := Lib.hid (by cases okP e <;> simp)
      rcases hev.out with ho | ho
      · have cn := Lib.hid (fun v => rnext_true D hDl.out e hft.out ho v)
        have hNl := Lib.hid (nextD_len D e)
        rw [ho] at hts
        clear hno ho
        generalize nextD D e = X at *
        go_upto_region 4 with fail
        have cn' := Lib.hid (fun (u : World) (_ : sh.Belo wr.heap.size wr u) => cn.out u)
        refine wp_region_one (P := Tryz.prog) 5 [.agg (row D), .slice (some ⟨b, o, none⟩) l.length cap, .int .i64 (k : Int), .pointer (some ⟨b, o + k * 37, none⟩), .agg (evr e)] 12 _ _ #[.agg (row D), .agg (evr e)] 21 15 22 23 7 8 23 (row zs) (row X) (.bool true) (by kernel_rfl) (by kernel_rfl) rfl rfl ?head _ _ _ _ _ _ _ rfl rfl rfl rfl rfl rfl rfl rfl rfl rfl rfl rfl rfl rfl rfl rfl rfl rfl rfl rfl rfl (by kernel_rfl) (by kernel_rfl) (by kernel_rfl) (by kernel_rfl) (by kernel_rfl) (by kernel_rfl) entR12 ?args cn'.out (row26 _ hNl.out) (row_eq _ _ zs_len hNl.out) (row_one _) zero26 ?fin
        case head =>
          intro j oj vj ho hv a u hk hb hB
          have hu := hK.out.past hB
          match j, ho, hv with
          | 0, ho, hv =>
            obtain rfl := Option.some.inj ho
            obtain rfl := Option.some.inj hv
            exact x_load_row 23 (.tmp 2) rfl w.heap.size (eval_tmp ((hb 2 (by kernel_rfl)).trans rfl)) 23 (row D) _ (hu.at 1 rfl) Tryz.underlying23 rfl (row26 D hDl.out)
          | 1, ho, hv =>
            obtain rfl := Option.some.inj ho
            obtain rfl := Option.some.inj hv
            exact x_move (.tmp 1) (.inl rfl) _ (eval_tmp ((hb 1 (by kernel_rfl)).trans rfl))
          | 2, ho, hv =>
            obtain rfl := Option.some.inj ho
            obtain rfl := Option.some.inj hv
            exact x_move (.tmp 6) (.inl rfl) _ (eval_tmp ((hb 6 (by kernel_rfl)).trans rfl))
          | 3, ho, hv =>
            obtain rfl := Option.some.inj ho
            obtain rfl := Option.some.inj hv
            exact x_index 24 (.tmp 17) (.tmp 18) rfl _ _ _ (eval_tmp (hk 1 _ 17 _ (by kernel_rfl) rfl rfl rfl)) (eval_tmp (hk 2 _ 18 _ (by kernel_rfl) rfl rfl rfl)) (index22 b o l.length cap k hlt u)
          | 4, ho, hv =>
            obtain rfl := Option.some.inj ho
            obtain rfl := Option.some.inj hv
            exact x_load 34 (.tmp 19) rfl _ _ (eval_tmp (hk 3 _ 19 _ (by kernel_rfl) rfl rfl rfl)) (hr'.out u hu.bel)
          | j + 5, ho, hv => simp at hv
        case args =>
          intro a hk hb
          have e1 := eval_tmp (hk 0 _ 16 _ (by kernel_rfl) rfl rfl rfl)
          have e2 := eval_tmp (hk 4 _ 20 _ (by kernel_rfl) rfl rfl rfl)
          simp only [List.map_toArray, List.map_cons, List.map_nil, e1, e2]
        case fin =>
          intro bA u hB hA hbA
          have hsz := hK.out.lt 0 rfl
          have hK1 := Lib.hid ((hK.out.past hB).know bA _ hA (by simp; omega))
          clear hA hbA hB hsz
          simp only [putAll, List.cons_append, List.nil_append, List.getD_cons_zero, List.getD_cons_succ, Nat.zero_add, Nat.reduceAdd]
          simp only [Act.put, List.setIfInBounds_toArray, List.set_cons_zero, List.set_cons_succ]

          have hK2 := Lib.hid (hK1.out.row 2 rfl (Nat.le_refl _) (row X))
          go_wp2_with (first
            | (with_reducible refine wpList_load_row rfl 23 (.tmp 7) rfl _ rfl 23 (row X) _ (hK1.out.at 0 rfl) Tryz.underlying23 rfl (row26 X hNl.out) ?_)
            | (with_reducible refine wpList_store_row rfl 23 (.tmp 2) (.tmp 27) rfl _ (row X) rfl rfl 23 _ (hK1.out.at 2 rfl) (row26 X hNl.out) (row_eq _ _ hDl.out hNl.out) (row_one X) ?_))
          go_roundw
          case rel => exact ⟨k + 1, by omega, by go_num, hts, Lib.hid (by rw [hhd.out]; exact hK2.out.drop)⟩
          case measure => simp [intOf]; omega
      · have cn := Lib.hid (fun v => rnext_false D hDl.out e hft.out ho v)
        have hq := Lib.hid (hno.out ho)
        clear hno ho hts hhd
        go_upto_region 4 with fail
        have cn' := Lib.hid (fun (u : World) (_ : sh.Belo wr.heap.size wr u) => cn.out u)
        refine wp_region_one (P := Tryz.prog) 5 [.agg (row D), .slice (some ⟨b, o, none⟩) l.length cap, .int .i64 (k : Int), .pointer (some ⟨b, o + k * 37, none⟩), .agg (evr e)] 12 _ _ #[.agg (row D), .agg (evr e)] 21 15 22 23 7 8 23 (row zs) (row zs) (.bool false) (by kernel_rfl) (by kernel_rfl) rfl rfl ?head _ _ _ _ _ _ _ rfl rfl rfl rfl rfl rfl rfl rfl rfl rfl rfl rfl rfl rfl rfl rfl rfl rfl rfl rfl rfl (by kernel_rfl) (by kernel_rfl) (by kernel_rfl) (by kernel_rfl) (by kernel_rfl) (by kernel_rfl) entR12 ?args cn'.out (row26 _ rfl) (row_eq _ _ zs_len rfl) (row_one _) zero26 ?fin
        case head =>
          intro j oj vj ho hv a u hk hb hB
          have hu := hK.out.past hB
          match j, ho, hv with
          | 0, ho, hv =>
            obtain rfl := Option.some.inj ho
            obtain rfl := Option.some.inj hv
            exact x_load_row 23 (.tmp 2) rfl w.heap.size (eval_tmp ((hb 2 (by kernel_rfl)).trans rfl)) 23 (row D) _ (hu.at 1 rfl) Tryz.underlying23 rfl (row26 D hDl.out)
          | 1, ho, hv =>
            obtain rfl := Option.some.inj ho
            obtain rfl := Option.some.inj hv
            exact x_move (.tmp 1) (.inl rfl) _ (eval_tmp ((hb 1 (by kernel_rfl)).trans rfl))
          | 2, ho, hv =>
            obtain rfl := Option.some.inj ho
            obtain rfl := Option.some.inj hv
            exact x_move (.tmp 6) (.inl rfl) _ (eval_tmp ((hb 6 (by kernel_rfl)).trans rfl))
          | 3, ho, hv =>
            obtain rfl := Option.some.inj ho
            obtain rfl := Option.some.inj hv
            exact x_index 24 (.tmp 17) (.tmp 18) rfl _ _ _ (eval_tmp (hk 1 _ 17 _ (by kernel_rfl) rfl rfl rfl)) (eval_tmp (hk 2 _ 18 _ (by kernel_rfl) rfl rfl rfl)) (index22 b o l.length cap k hlt u)
          | 4, ho, hv =>
            obtain rfl := Option.some.inj ho
            obtain rfl := Option.some.inj hv
            exact x_load 34 (.tmp 19) rfl _ _ (eval_tmp (hk 3 _ 19 _ (by kernel_rfl) rfl rfl rfl)) (hr'.out u hu.bel)
          | j + 5, ho, hv => simp at hv
        case args =>
          intro a hk hb
          have e1 := eval_tmp (hk 0 _ 16 _ (by kernel_rfl) rfl rfl rfl)
          have e2 := eval_tmp (hk 4 _ 20 _ (by kernel_rfl) rfl rfl rfl)
          simp only [List.map_toArray, List.map_cons, List.map_nil, e1, e2]
        case fin =>
          intro bA u hB hA hbA
          have hsz := hK.out.lt 0 rfl
          have hK1 := Lib.hid ((hK.out.past hB).know bA _ hA (by simp; omega))
          clear hA hbA hB hsz
          simp only [putAll, List.cons_append, List.nil_append, List.getD_cons_zero, List.getD_cons_succ, Nat.zero_add, Nat.reduceAdd]
          simp only [Act.put, List.setIfInBounds_toArray, List.set_cons_zero, List.set_cons_succ]

          have hK2 := Lib.hid (hK1.out.row 1 rfl (by omega) (row zs))
          go_wp2_with (first
            | (with_reducible refine wpList_build0 rfl 23 rfl _ build26 ?_)
            | (with_reducible refine wpList_store_row rfl 23 (.tmp 4) (.tmp 26) rfl _ (row zs) rfl rfl 23 _ (hK1.out.at 1 rfl) (row26 zs rfl) rfl (row_one zs) ?_))
          exact bodyPost_row2 4 5 23 rfl _ rfl (.bool false) rfl 23 (row zs) _ (hK2.out.at 1 rfl) Tryz.underlying23 rfl (row26 zs rfl) rfl ⟨by rw [hq.out]; unfold hdR; rw [hq.out]; rfl, hK2.out.bel⟩
    · obtain rfl : k = l.length := by omega
      have hb : ¬ (l.length : Int) < (l.length : Int) := by omega
      have hall' : Hid (l.all okP = true) := Lib.hid (by have := hall.out; rwa [List.take_length] at this)
      have hD : Hid (headD d (l.take l.length) = hdR d l) := Lib.hid (by unfold hdR; rw [hall'.out, List.take_length]; rfl)
      have hDl := Lib.hid (headD_len d (l.take l.length) hd'.out)
      rw [hD.out] at hK hDl
      clear hD hall
      obtain ⟨D, hDe⟩ : ∃ D, Hid (hdR d l = D) := ⟨_, Lib.hid rfl⟩
      rw [hDe.out] at hK hDl
      have hK1 := Lib.hid (hK.out.row 0 rfl (by omega) (row D))
      go_wp2_with (first
        | (with_reducible refine wpList_load_row rfl 23 (.tmp 2) rfl _ rfl 23 (row D) _ (hK.out.at 1 rfl) Tryz.underlying23 rfl (row26 D hDl.out) ?_)
        | (with_reducible refine wpList_store_row rfl 23 (.tmp 4) (.tmp 28) rfl _ (row D) rfl rfl 23 _ (hK.out.at 0 rfl) (row26 D hDl.out) (row_eq _ _ zs_len hDl.out) (row_one D) ?_))
      exact bodyPost_row2 4 5 23 rfl _ rfl (.bool true) rfl 23 (row D) _ (hK1.out.at 0 rfl) Tryz.underlying23 rfl (row26 D hDl.out) rfl ⟨by rw [hall'.out, hDe.out], hK1.out.bel⟩
end Go.Proofs.YtfilolmbppjbjaaGreat
