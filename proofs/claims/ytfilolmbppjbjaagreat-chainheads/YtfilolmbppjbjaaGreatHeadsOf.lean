/-
  What 'links' and 'Heads' return.
-/
import Derived.Test.YtfilolmbppjbjaaGreatBuilds
namespace Go.Proofs.YtfilolmbppjbjaaGreat
open Go Go.RowKit
attribute [local go_sem] Oper.semAt_some

theorem tld_fine (d : List UInt8) (hd : d.length = 32) (l : List Ev) (hl : Fit l) : ∀ x ∈ tld d l, x.1.length ≤ 600 ∧ x.2.length = 32 := by
  induction l generalizing d with
  | nil => intro x hx; cases hx
  | cons e l ih =>
    intro x hx
    rcases List.mem_cons.1 hx with rfl | hx
    · refine ⟨?_, nextD_len _ _⟩
      have := putE_len e (hl e (by simp))
      show (d ++ putE e).length ≤ _
      rw [List.length_append]; omega
    · exact ih _ (nextD_len _ _) (fun e he => hl e (by simp [he])) x hx
theorem told_fine (l : List Ev) (hl : Fit l) : ∀ x ∈ told l, x.1.length ≤ 600 ∧ x.2.length = 32 := by
  unfold told
  split
  · intro x hx
    rcases List.mem_cons.1 hx with rfl | hx
    · exact ⟨by decide, sha_len _⟩
    · exact tld_fine _ (sha_len _) l hl x hx
  · intro x hx; cases hx
theorem told_len (l : List Ev) : (told l).length ≤ l.length + 1 := by
  have : ∀ d, (tld d l).length = l.length := by
    induction l with
    | nil => intro d; rfl
    | cons e l ih => intro d; simp [tld, ih]
  unfold told
  split
  · simp [this]
  · simp
def digs (l : List (List UInt8 × List UInt8)) : List Value := (l.map fun x => (row x.2).toList).flatten
theorem digs_snoc (l : List (List UInt8 × List UInt8)) (x : List UInt8 × List UInt8) : digs (l ++ [x]) = digs l ++ (row x.2).toList := by simp [digs]

set_option maxHeartbeats 1000000 in
theorem links_any (p : Option Addr) (k cap : Nat) (w : World) :
    Calls Tryz.prog 19 #[.slice p k cap] w fun e w' => e = .returned (.func (.func 34) #[] #[.pointer (some ⟨w.heap.size, 0, none⟩)]) ∧ w' = w.alloc (.cells #[.slice p k cap] 24) := by
  go_enter Tryz.func19, Tryz.ntmps19
  go_wp2_with fail
  go_ret
  exact ⟨rfl, rfl⟩

theorem keepsFrom_below {B : Nat} {W W' : World} (h : Below W.heap.size W W') : KeepsFrom B W W' := ⟨h.size, fun k _ _ hk _ => (h.block k (lt_of_some hk)).trans hk⟩
theorem keep_below {α : Type} {B n₀ : Nat} {A : Nat → World → Prop} {I : List α → World → Prop} (hA : Aparts B A I) {W W' : World} (hn : n₀ ≤ W.heap.size) (h : Below W.heap.size W W') : Keep n₀ A W W' :=
  ⟨h.mono hn, fun b _ _ ha hb => ⟨hA.grow b _ _ ha h, (h.block b (lt_of_some hb)).trans hb⟩⟩
theorem info26 : (Tryz.prog.info? 23).map (fun i => (i.zero, i.size, i.bytes)) = some (some (.agg (row zs)), 32, 32) := by kernel_rfl

set_option maxRecDepth 100000 in
set_option maxHeartbeats 1000000 in
theorem heads_any (l : List Ev) (hl : Fit l) (hn : l.length ≤ 1000) (p : Option Addr) (cap : Nat) (w : World) (hE : EvsAt w.heap.size w p l) :
    Calls Tryz.prog 9 #[.slice p l.length cap] w fun r w' => ∃ v, r = .returned v ∧ w'.ownsRow w.heap.size 23 32 v (told l).length (digs (told l)) ∧ Below w.heap.size w w' := by
  refine (callsIn_wide (n := 5)).1 ?_
  have hfine := Lib.hid (told_fine l hl)
  have hTl := told_len l
  have hseq := Lib.hid (fun v hv he => links1 l hl hn p cap w.heap.size (w.heap.size + 1) v hv he 4 (by decide))
  have hz := zero26
  clear hl
  refine callsIn_of_wp_marks Tryz.func9 rfl trivial ?_ rfl
  simp only [Tryz.ntmps9, List.size_toArray, List.length_cons, List.length_nil, Nat.reduceAdd, Nat.reduceSub, Array.replicate_succ, Array.replicate_zero, List.push_toArray, List.append_toArray, List.nil_append, List.cons_append]
  gi_wp2_with fail
  refine ⟨trivial, (callsIn_wide.2 (links_any p l.length cap _)).mono ?_⟩
  rintro e w1 ⟨rfl, rfl⟩
  gi_wp2_with fail
  have hE1 : Hid (EvsAt w.heap.size ((w.alloc (.cells #[.slice none 0 0] 29)).alloc (.cells #[.slice p l.length cap] 24)) p l) := Lib.hid (hE.past (((Below.refl _ _).alloc (Nat.le_refl _) _).alloc (by simp) _))
  have hK1 : Hid (KW w.heap.size w [] ((w.alloc (.cells #[.slice none 0 0] 29)).alloc (.cells #[.slice p l.length cap] 24))) := Lib.hid (((KW.start w).new _).new _).drop.drop
  have hbx : Hid (Boxed ((w.alloc (.cells #[.slice none 0 0] 29)).alloc (.cells #[.slice p l.length cap] 24)) w.heap.size 29 (.slice none 0 0)) := Lib.hid ((Boxed.new w 29 _).alloc _)
  have hcb : Hid (((w.alloc (.cells #[.slice none 0 0] 29)).alloc (.cells #[.slice p l.length cap] 24)).heap[w.heap.size + 1]? = some (.cells #[.slice p l.length cap] 24)) := Lib.hid (by rw [heap_alloc_if, if_pos (by simp)])
  have hsz : ((w.alloc (.cells #[.slice none 0 0] 29)).alloc (.cells #[.slice p l.length cap] 24)).heap.size = w.heap.size + 2 := by simp
  generalize (w.alloc (.cells #[.slice none 0 0] 29)).alloc (.cells #[.slice p l.length cap] 24) = V at *
  refine wpIn_rangeX rfl (by decide) (gf := 34) (lb := #[.pointer (some ⟨w.heap.size + 1, 0, none⟩)]) rfl trivial (enters_of Tryz.func34 (by kernel_rfl) rfl)
    (hseq.out V (by omega) hE1.out) (by omega) (fun _ => rfl)
    (fun b W => w.heap.size ≤ b ∧ SB w.heap.size 29 b W)
    (fun pre W => KW w.heap.size w [] W ∧ SC w.heap.size w.heap.size 29 23 32 pre.length (digs pre) W)
    (fun _ _ _ => False)
    { grow := fun s X Y h hb => ⟨h.1.past hb, h.2.grow hb⟩
      row := fun s b X c h hb => ⟨h.1.rowOther hb.1 (by simp) c, h.2.row hb.2 c⟩
      obj := fun s k X o o' h hk hh ho => ⟨h.1.obj (by simp) o' (by omega) hh ho, h.2.obj o' hh ho⟩ }
    (fun _ _ _ _ _ _ h _ _ _ => h)
    { grow := fun b X Y h hb => ⟨h.1, h.2.grow hb⟩
      row := fun b b' X c h h' => ⟨h.1, h.2.row h'.2 c⟩
      obj := fun b k X o o' h hk hh ho => ⟨h.1, h.2.obj o' hh ho⟩
      new := fun X o h => ⟨h.1.size, SB.new h.2 o⟩ }
    ⟨hK1.out, _, hbx.out, World.ownsRow_nil _ _ _ _, fun _ => rfl⟩
    (.inl ⟨by omega, by omega, _, hbx.out, by omega, fun g hg => by cases hg⟩) hcb.out
    (fun x a' W => ∃ Bx, a' = { tmps := #[.slice p l.length cap, undef, .slice none 0 0, .pointer (some ⟨w.heap.size, 0, none⟩), undef, .pointer (some ⟨Bx, 0, none⟩), .slice p l.length cap, .func (.func 34) #[] #[.pointer (some ⟨w.heap.size + 1, 0, none⟩)], .string ⟨x.1.toArray⟩, .agg (row x.2), undef, undef, undef, undef, undef], defers := [] } ∧ W.heap[Bx]? = some (.cells (row x.2) 23))
    ?ax ?assign ?body ?done ?stop
  case ax =>
    rintro x a' k X o o' ⟨Bx, rfl, hB⟩ hk hh ho
    refine ⟨Bx, rfl, (heap_putObj_ne ?_).trans hB⟩
    intro e
    rw [e, hh] at hB
    cases hB
    cases ho
  case assign =>
    rintro lp pre x W K hpx hI hK
    have hx2 := Lib.hid (hfine.out x (hpx.subset (by simp))).2
    dsimp only [encL]
    have hE0 : Hid ((W.alloc (.cells (row zs) 23)).heap[W.heap.size]? = some (.cells (row zs) 23)) := Lib.hid (by rw [heap_alloc_if, if_pos rfl])
    gi_wp2_with (with_reducible refine wpListIn_store_row rfl 23 (.tmp 5) (.tmp 9) rfl _ (row x.2) rfl rfl 23 _ hE0.out (row26 x.2 hx2.out) (row_eq _ _ zs_len hx2.out) (row_one x.2) ?_)
    have hB0 : Below W.heap.size W ((W.alloc (.cells (row zs) 23)).setRow W.heap.size (row x.2)) := below_setRow ((Below.refl _ _).alloc (Nat.le_refl _) _) (Nat.le_refl _) _
    exact hK _ _ (keepsFrom_below hB0) ⟨hB0.mono hI.1.size, fun b _ _ ha hb => ⟨⟨ha.1, ha.2.grow hB0⟩, (hB0.block b (lt_of_some hb)).trans hb⟩⟩ ⟨hI.1.past hB0, hI.2.grow hB0⟩ ⟨_, rfl, setRow_heap _ _ _ _ _ _ hE0.out⟩
  case body =>
    rintro lp pre x a' W hpx ⟨hK, v, hv, hown, hv0⟩ ⟨Bx, rfl, hBx⟩
    have hx2 := Lib.hid (hfine.out x (hpx.subset (by simp))).2
    have hpl : pre.length ≤ l.length := by have := hpx.length_le; simp at this; omega
    obtain ⟨base, hob, hb1, hb2, hb3⟩ := own_base hown hK.size
    have hcv := hv.cell
    have hBx' := Lib.hid hBx
    obtain ⟨i0, hi, hz0, hz1, hz2⟩ := info_parts info26
    have hnil : v = .slice none 0 0 ∨ ∃ g m c, v = .slice (some ⟨g, 0, none⟩) m c := by
      rcases hown.2 with ⟨h, _⟩ | ⟨g, c, _, h, _⟩
      · exact .inl h
      · exact .inr ⟨g, _, c, h⟩
    have hcx : Hid (∀ j u, (row x.2).toList[j]? = some u → (W.alloc (.cells (row x.2) 23)).cell? ((⟨W.heap.size, 0, none⟩ : Addr).add j) = some u) := Lib.hid (fun j u hu => by
      rw [Addr.add_mid, Nat.zero_add]
      exact cell_new W _ 23 j u (by simpa using hu))
    have hbd := Lib.hid (build_dig x.2 hx2.out W)
    have hob' := Lib.hid (hob.alloc (.cells (row x.2) 23))
    have hlen : Hid ((row x.2).toList.length = 1 * 32) := Lib.hid (by rw [Array.length_toList, row_size, hx2.out])
    have hone : Hid (∀ u ∈ (row x.2).toList, u.oneCell' = true) := Lib.hid (fun u hu => (Array.all_eq_true_iff_forall_mem.1 (row_one x.2)) u (by simpa using hu))
    rcases hnil with rfl | ⟨g, m, c, rfl⟩
    all_goals
      gi_wp2_with (first
        | (with_reducible refine wpListIn_load_row rfl 23 (.tmp 5) rfl _ rfl 23 (row x.2) _ hBx'.out Tryz.underlying23 rfl (row26 x.2 hx2.out) ?_)
        | (with_reducible refine wpListIn_build1 rfl 29 (.tmp 11) rfl (.agg (row x.2)) (.slice (some ⟨W.heap.size, 0, none⟩) 1 1) rfl (W.alloc (.cells (row x.2) 23)) hbd.out ?_)
        | (gi_at_builtin; refine wpListIn_append_own _ rfl _ _ 29 rfl base 23 i0 (.agg (row zs)) 32 32 Tryz.underlying29 hi hz0 hz1 hz2 rfl (by decide) _ pre.length (digs pre) rfl hob'.out ⟨W.heap.size, 0, none⟩ 1 1 (row x.2).toList rfl hlen.out hcx.out hone.out (by unfold maxLen; omega) (by omega) (by simp; omega) ?_; intro v' w1 hown' hgrow _; obtain ⟨g', cap', rfl⟩ := ownsRow_succ hown'; obtain ⟨hv1, hv2, hr2, hk2, hb2⟩ := hv.appended (by decide) hown hK.size (Nat.le_refl _) (own_mono hown' hb1) hgrow; have hkp := appended_keep hv (by decide) hown hb3 hown' hgrow; have hc1 := hv1.cell; have hf1 := hv1.frozen))
    all_goals exact ⟨hk2.from _, ⟨hb2, fun b c t' ha hb => by obtain ⟨p1, p2⟩ := hkp b c t' ha.2 hb; exact ⟨⟨ha.1, p1⟩, p2⟩⟩, ⟨hK.le, hK.bel.trans hb2, fun _ h => (by cases h), hK.nd⟩, _, hv2, by rw [digs_snoc]; simpa using hr2, by simp⟩
  case done =>
    rintro D W hD ⟨hK, v, hv, hown, _⟩ hdef
    have hcv := hv.cell
    gi_wp2_with fail
    refine ⟨by simp, .inl ⟨_, _, rfl, run_takeDeferred hdef, ?_⟩⟩
    refine ⟨_, results_tmp rfl _ _ _, v, rfl, ownsRow_putObj hown _ hdef rfl, ?_⟩
    exact hK.bel.trans (belowK_b (w := w) (Nat.le_refl _) W D _ _ (by omega) hdef rfl rfl)
  case stop => exact fun _ _ _ _ _ _ h _ => h.elim
end Go.Proofs.YtfilolmbppjbjaaGreat
