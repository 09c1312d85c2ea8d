/-
  What 'gathered' returns.
-/
import Derived.Test.YtfilolmbppjbjaaGreatInput
namespace Go.Proofs.YtfilolmbppjbjaaGreat
open Go Go.RowKit
attribute [local go_sem] Oper.semAt_some

def lastD (l : List (List UInt8 × List UInt8)) : List UInt8 := (l.getLast?.map Prod.snd).getD zs
theorem lastD_snoc (l : List (List UInt8 × List UInt8)) (x : List UInt8 × List UInt8) : lastD (l ++ [x]) = x.2 := by simp [lastD]
def texts (l : List (List UInt8 × List UInt8)) : List Value := l.map fun x => .string ⟨x.1.toArray⟩
theorem texts_snoc (l : List (List UInt8 × List UInt8)) (x : List UInt8 × List UInt8) : texts (l ++ [x]) = texts l ++ [.string ⟨x.1.toArray⟩] := by simp [texts]
theorem info9 : (Tryz.prog.info? 9).map (fun i => (i.zero, i.size, i.bytes)) = some (some (.string ⟨#[]⟩), 1, 16) := by kernel_rfl
theorem lastD_len (l : List (List UInt8 × List UInt8)) (h : ∀ x ∈ l, x.2.length = 32) : (lastD l).length = 32 := by
  unfold lastD
  cases hl : l.getLast? with
  | none => rfl
  | some x => exact h x (List.mem_of_getLast? hl)

theorem results_tmp_row {P : Program} {fn : Func} {p q : Tmp} {ty : TypeId} (h : fn.results = #[.tmp q, .cell p ty]) (tmps : Array Value) (b : Nat) (hp : tmps.getD p undef = .pointer (some ⟨b, 0, none⟩)) (v1 : Value) (h1 : tmps.getD q undef = v1) (w : World) (t : TypeId) (c : Array Value) (d : TypeDesc)
    (hg : w.heap[b]? = some (.cells c t)) (hu : P.underlying ty = some d) (hd : (match d with | .struct _ | .array _ _ => true | _ => false) = true) (hi : (P.info? ty).map (·.size) = some c.size) :
    (results fn tmps).run P w = .ok (.tuple #[v1, .agg c]) w := by
  have := run_loadVar_row (P := P) w b t ty c (0, 0) d hg hu hd hi
  simp only [results, h]
  have hp' : tmps[p]?.getD undef = .pointer (some ⟨b, 0, none⟩) := by simpa using hp
  have h1' : tmps[q]?.getD undef = v1 := by simpa using h1
  simp [hp', h1', this, asAddr]
theorem keepsFrom_row {B : Nat} {X : World} {b : Nat} {c0 c : Array Value} {t : TypeId} (h : X.heap[b]? = some (.cells c0 t)) : KeepsFrom B X (X.setRow b c) :=
  ⟨by simp [World.setRow], fun k o _ hk ho => by
    rw [setRow_other _ _ _ _ (fun e => by rw [e, h] at hk; cases hk; cases ho)]; exact hk⟩

set_option maxRecDepth 100000 in
set_option maxHeartbeats 1000000 in
theorem gathered_any (l : List Ev) (hl : Fit l) (hn : l.length ≤ 1000) (p : Option Addr) (cap cb : Nat) (w : World) (hE : EvsAt w.heap.size w p l) (hcb : w.heap[cb]? = some (.cells #[.slice p l.length cap] 24)) :
    Calls Tryz.prog 47 #[.func (.func 34) #[] #[.pointer (some ⟨cb, 0, none⟩)]] w fun r w' => ∃ v, r = .returned (.tuple #[v, .agg (row (lastD (told l)))]) ∧ w'.ownsRow w.heap.size 9 1 v (told l).length (texts (told l)) ∧ Below w.heap.size w w' := by
  refine (callsIn_wide (n := 5)).1 ?_
  have hfine := Lib.hid (told_fine l hl)
  have hTl := told_len l
  have hseq := Lib.hid (fun v hv he => links1 l hl hn p cap w.heap.size cb v hv he 4 (by decide))
  have hz := zero26
  clear hl
  refine callsIn_of_wp_marks Tryz.func47 rfl trivial ?_ rfl
  simp only [Tryz.ntmps47, List.size_toArray, List.length_cons, List.length_nil, Nat.reduceAdd, Nat.reduceSub, Array.replicate_succ, Array.replicate_zero, List.push_toArray, List.append_toArray, List.nil_append, List.cons_append]
  gi_wp2_with fail
  have hK3 : Hid (KW w.heap.size w [(w.heap.size + 1 + 1, .cells (row zs) 23), (w.heap.size + 1, .cells #[.slice none 0 0] 82), (w.heap.size, .cells (row zs) 23)] (((w.alloc (.cells (row zs) 23)).alloc (.cells #[.slice none 0 0] 82)).alloc (.cells (row zs) 23))) := Lib.hid (by
    have := (((KW.start w).new (.cells (row zs) 23)).new (.cells #[.slice none 0 0] 82)).new (.cells (row zs) 23)
    simpa using this)
  have hE1 := Lib.hid (hE.past hK3.out.bel)
  have hc1 := Lib.hid ((hK3.out.bel.block _ (lt_of_some hcb)).trans hcb)
  have hcl := lt_of_some hcb
  have hsz : (((w.alloc (.cells (row zs) 23)).alloc (.cells #[.slice none 0 0] 82)).alloc (.cells (row zs) 23)).heap.size = w.heap.size + 3 := by simp
  clear hcb hE
  generalize ((w.alloc (.cells (row zs) 23)).alloc (.cells #[.slice none 0 0] 82)).alloc (.cells (row zs) 23) = V at *
  refine wpIn_rangeX rfl (by decide) (gf := 34) (lb := #[.pointer (some ⟨cb, 0, none⟩)]) rfl trivial (enters_of Tryz.func34 (by kernel_rfl) rfl)
    (hseq.out V (by omega) hE1.out) (by omega) (fun _ => rfl)
    (fun b W => w.heap.size + 3 ≤ b ∧ SB (w.heap.size + 1) 82 b W)
    (fun pre W => KW w.heap.size w [(w.heap.size + 1 + 1, .cells (row (lastD pre)) 23), (w.heap.size, .cells (row zs) 23)] W ∧ SC w.heap.size (w.heap.size + 1) 82 9 1 pre.length (texts pre) W)
    (fun _ _ _ => False)
    { grow := fun s X Y h hb => ⟨h.1.past hb, h.2.grow hb⟩
      row := fun s b X c h hb => ⟨h.1.rowOther (by omega) (by simp; omega) c, h.2.row hb.2 c⟩
      obj := fun s k X o o' h hk hh ho => ⟨h.1.obj (by simp [Obj.isCells]) o' (by omega) hh ho, h.2.obj o' hh ho⟩ }
    (fun _ _ _ _ _ _ h _ _ _ => h)
    { grow := fun b X Y h hb => ⟨h.1, h.2.grow hb⟩
      row := fun b b' X c h h' => ⟨h.1, h.2.row h'.2 c⟩
      obj := fun b k X o o' h hk hh ho => ⟨h.1, h.2.obj o' hh ho⟩
      new := fun X o h => ⟨by have := h.1.lt 0 rfl; omega, SB.new h.2 o⟩ }
    ⟨⟨hK3.out.le, hK3.out.bel, fun x hx => hK3.out.has x (by simp only [List.mem_cons, List.not_mem_nil, or_false] at hx ⊢; rcases hx with rfl | rfl <;> simp [lastD]), by simp; omega⟩, _, hK3.out.at 1 rfl, World.ownsRow_nil _ _ _ _, fun _ => rfl⟩
    (.inr (by omega)) hc1.out
    (fun x a' W => ∃ Bx, a' = { tmps := #[.func (.func 34) #[] #[.pointer (some ⟨cb, 0, none⟩)], undef, .slice none 0 0, .pointer (some ⟨w.heap.size, 0, none⟩), .pointer (some ⟨w.heap.size + 1, 0, none⟩), .pointer (some ⟨w.heap.size + 1 + 1, 0, none⟩), .string ⟨x.1.toArray⟩, .pointer (some ⟨Bx, 0, none⟩), .func (.func 34) #[] #[.pointer (some ⟨cb, 0, none⟩)], .string ⟨x.1.toArray⟩, .agg (row x.2), undef, undef, undef, undef, undef, undef, undef], defers := [] } ∧ W.heap[Bx]? = some (.cells (row x.2) 23) ∧ w.heap.size + 3 ≤ Bx)
    ?ax ?assign ?body ?done ?stop
  case ax =>
    rintro x a' k X o o' ⟨Bx, rfl, hB, hge⟩ hk hh ho
    refine ⟨Bx, rfl, (heap_putObj_ne ?_).trans hB, hge⟩
    intro e
    rw [e, hh] at hB
    cases hB
    cases ho
  case assign =>
    rintro lp pre x W K hpx hI hK
    have hx2 := Lib.hid (hfine.out x (hpx.subset (by simp))).2
    dsimp only [encL]
    have hE0 : Hid ((W.alloc (.cells (row zs) 23)).heap[W.heap.size]? = some (.cells (row zs) 23)) := Lib.hid (by rw [heap_alloc_if, if_pos rfl])
    gi_wp2_with (with_reducible refine wpListIn_store_row rfl 23 (.tmp 7) (.tmp 10) rfl _ (row x.2) rfl rfl 23 _ hE0.out (row26 x.2 hx2.out) (row_eq _ _ zs_len hx2.out) (row_one x.2) ?_)
    have hB0 : Below W.heap.size W ((W.alloc (.cells (row zs) 23)).setRow W.heap.size (row x.2)) := below_setRow ((Below.refl _ _).alloc (Nat.le_refl _) _) (Nat.le_refl _) _
    exact hK _ _ (keepsFrom_below hB0) ⟨hB0.mono hI.1.size, fun b _ _ ha hb => ⟨⟨ha.1, ha.2.grow hB0⟩, (hB0.block b (lt_of_some hb)).trans hb⟩⟩ ⟨hI.1.past hB0, hI.2.grow hB0⟩ ⟨_, rfl, setRow_heap _ _ _ _ _ _ hE0.out, by have := hI.1.lt 0 rfl; omega⟩
  case body =>
    rintro lp pre x a' W hpx ⟨hK, v, hv, hown, hv0⟩ ⟨Bx, rfl, hBx, hBg⟩
    have hx2 := Lib.hid (hfine.out x (hpx.subset (by simp))).2
    have hpf := Lib.hid (lastD_len pre (fun y hy => (hfine.out y (hpx.subset (by simp [hy]))).2))
    have hpl : pre.length ≤ l.length := by have := hpx.length_le; simp at this; omega
    obtain ⟨base, hob, hb1, hb2, hb3⟩ := own_base hown hK.size
    have hcv := hv.cell
    have hBx' := Lib.hid hBx
    obtain ⟨i0, hi, hz0, hz1, hz2⟩ := info_parts info9
    have hnil : v = .slice none 0 0 ∨ ∃ g m c, v = .slice (some ⟨g, 0, none⟩) m c := by
      rcases hown.2 with ⟨h, _⟩ | ⟨g, c, _, h, _⟩
      · exact .inl h
      · exact .inr ⟨g, _, c, h⟩
    have hob' := Lib.hid (hob.alloc (.cells #[.string ⟨x.1.toArray⟩] 9))
    have hcx : Hid (∀ j u, [Value.string ⟨x.1.toArray⟩][j]? = some u → (W.alloc (.cells #[.string ⟨x.1.toArray⟩] 9)).cell? ((⟨W.heap.size, 0, none⟩ : Addr).add j) = some u) := Lib.hid (fun j u hu => by
      rw [Addr.add_mid, Nat.zero_add]
      exact cell_new W _ 9 j u (by simpa using hu))
    have hKh := Lib.hid hK
    rcases hnil with rfl | ⟨g, m, c, rfl⟩
    all_goals
      gi_wp2_with (first
        | (gi_at_builtin; refine wpListIn_append_own _ rfl _ _ 82 rfl base 9 i0 (.string ⟨#[]⟩) 1 16 Tryz.underlying82 hi hz0 hz1 hz2 rfl (by decide) _ pre.length (texts pre) rfl hob'.out ⟨W.heap.size, 0, none⟩ 1 1 [.string ⟨x.1.toArray⟩] rfl rfl hcx.out (by simp [Value.oneCell']) (by unfold maxLen; omega) (by omega) (by simp; omega) ?_; intro v' w1 hown' hgrow _; obtain ⟨g', cap', rfl⟩ := ownsRow_succ hown'; obtain ⟨hv1, hv2, hr2, hk2, hb2⟩ := hv.appended (by decide) hown hKh.out.size (by omega) (own_mono hown' hb1) hgrow; have hkp := Lib.hid (appended_keep hv (by decide) hown hb3 hown' hgrow); have hX1 := Lib.hid (appended_has (B := w.heap.size + 1) (v' := .slice (some ⟨g', 0, none⟩) (pre.length + 1) cap') hown hgrow hBx'.out (by omega) (by decide)); have hX2 := Lib.hid (appended_has (B := w.heap.size + 1) (v' := .slice (some ⟨g', 0, none⟩) (pre.length + 1) cap') hown hgrow (hKh.out.at 0 rfl) (by omega) (by decide)); have hX3 := Lib.hid (appended_has (B := w.heap.size + 1) (v' := .slice (some ⟨g', 0, none⟩) (pre.length + 1) cap') hown hgrow (hKh.out.at 1 rfl) (by omega) (by decide)); have hc1 := hv1.cell; have hf1 := hv1.frozen)
        | (with_reducible refine wpListIn_load_row rfl 23 (.tmp 7) rfl Bx rfl 23 (row x.2) _ hX1.out Tryz.underlying23 rfl (row26 x.2 hx2.out) ?_)
        | (with_reducible refine wpListIn_store_row rfl 23 (.tmp 5) (.tmp 15) rfl (w.heap.size + 1 + 1) (row x.2) rfl rfl 23 _ hX2.out (row26 x.2 hx2.out) (row_eq _ _ hpf.out hx2.out) (row_one x.2) ?_))
    all_goals
      refine ⟨(hk2.from _).trans (keepsFrom_row hX2.out), ⟨hb2.trans (below_setRow (Below.refl _ _) (by omega) _), fun b c t' ha hb => ?_⟩, ⟨hKh.out.le, (hKh.out.bel.trans hb2).trans (below_setRow (Below.refl _ _) (by omega) _), fun y hy => ?_, hKh.out.nd⟩, ?_⟩
      · obtain ⟨p1, p2⟩ := hkp.out b c t' ha.2 hb
        exact ⟨⟨ha.1, p1.rowNe (by omega) _⟩, by rw [setRow_other _ _ _ _ (by have := ha.1; omega)]; exact p2⟩
      · rw [lastD_snoc] at hy
        simp only [List.mem_cons, List.not_mem_nil, or_false] at hy
        rcases hy with rfl | rfl
        · exact setRow_heap _ _ _ _ _ _ hX2.out
        · rw [setRow_other _ _ _ _ (by show w.heap.size ≠ _; omega)]; exact hX3.out
      · refine SC.rowNe ⟨_, hv2, ?_, by simp⟩ (by omega) hX2.out (by decide) _
        rw [texts_snoc]; simpa using hr2
  case done =>
    rintro D W hD ⟨hK, v, hv, hown, hv0⟩ hdef
    have hcv := hv.cell
    have hpf := Lib.hid (lastD_len (told l) (fun y hy => (hfine.out y hy).2))
    have hKh := Lib.hid hK
    clear hK
    gi_wp2_with fail
    refine wpIn_wide.2 ?_
    have hlD : Hid ((lastD (told l)).length = 32) := hpf
    generalize hDe : lastD (told l) = LD at *
    have hDe' := Lib.hid hDe
    clear hDe
    refine wp_region_class_tail 3 (fun v => v = W.drew) (by kernel_rfl) (by kernel_rfl) rfl ?_
    simp only [List.take_succ_cons, List.take_zero, List.drop_succ_cons, List.drop_zero]
    refine wpQuiet_cell (by rfl) 82 _ rfl (w.heap.size + 1) 0 rfl Tryz.isAgg82 v (fun u hu => by rw [hu]; exact hcv) ?_
    refine wpQuiet_load (by rfl) 23 (.tmp 5) rfl _ rfl 23 (row LD) _ (fun u hu => by rw [hu]; exact hKh.out.at 0 rfl) Tryz.underlying23 rfl (row26 _ hlD.out) ?_
    refine wpQuiet_move (by rfl) _ (.inr rfl) v rfl ?_
    simp only [Act.put, List.setIfInBounds_toArray, List.set_cons_zero, List.set_cons_succ]
    refine wpQuiet_nil ?_
    rintro u rfl
    have hKd := Lib.hid hKh.out.drew
    have hdef2 : Hid ((W.drew.setRow w.heap.size (row LD)).heap[D]? = some (.deferred (some []))) := Lib.hid (by rw [setRow_other _ _ _ _ (by omega)]; exact hdef)
    have hK2 := Lib.hid (hKd.out.row 1 rfl (Nat.le_refl _) (row LD))
    have hSC : Hid (SC w.heap.size (w.heap.size + 1) 82 9 1 (told l).length (texts (told l)) (W.drew.setRow w.heap.size (row LD))) := Lib.hid (SC.rowNe (X := W.drew) ⟨v, hv, hown, hv0⟩ (by omega) (hKd.out.at 1 rfl) (by decide) _)
    go_wp2_with (with_reducible refine wpList_store_row rfl 23 (.tmp 3) (.tmp 17) rfl _ (row LD) rfl rfl 23 _ (hKd.out.at 1 rfl) (row26 _ hlD.out) (row_eq _ _ zs_len hlD.out) (row_one _) ?_)
    gi_wp2_with fail
    refine ⟨by simp, .inl ⟨_, _, rfl, run_takeDeferred hdef2.out, ?_⟩⟩
    have hK3 := hK2.out.obj (by simp [Obj.isCells]) (.deferred none) (by omega) hdef2.out rfl
    obtain ⟨v2, hv2, hown2, _⟩ := hSC.out.obj (.deferred none) hdef2.out rfl
    have hvv : v = v2 := by
      have h1 : ((W.drew.setRow w.heap.size (row LD)).putObj D (.deferred none)).heap[w.heap.size + 1]? = some (.cells #[v] 82) := by
        rw [heap_putObj_ne (by omega), setRow_other _ _ _ _ (by omega)]; exact hv
      have := h1.symm.trans hv2
      simpa using this
    rw [← hvv] at hown2
    refine ⟨_, results_tmp_row rfl _ w.heap.size rfl v rfl _ 23 (row LD) _ (hK3.at 1 rfl) Tryz.underlying23 rfl (row26 _ hlD.out), v, by rw [hDe'.out], hown2, hK3.bel⟩
  case stop => exact fun _ _ _ _ _ _ h _ => h.elim
end Go.Proofs.YtfilolmbppjbjaaGreat
