/-
  What Bytes, Sum and GetSum of the reference return.
-/
import Derived.Test.YtgaggncepknafaaSums
import Derived.Test.YtgaggncepknafaaRtext
import Derived.Test.YtgaggncepknafaaSeq
namespace Go.Proofs.Ytgaggncepknafaa
open Go.RowKit

theorem UW.startAt {w u : World} (h : Below w.heap.size w u) : UW w (.slice none 0 0) [] u := ⟨World.ownsRow_nil u w.heap.size 5 1, h⟩
set_option maxHeartbeats 1000000 in
theorem rbytes_any (d : List UInt8) (hd : d.length = 32) (w : World) :
    Calls Try.prog 37 #[.agg (row d)] w fun e w' => e = .returned (.string (mk d)) ∧ Below w.heap.size w w' := by
  obtain ⟨i, hi, hz0, hz1, hz2⟩ := info5'
  have H := Lib.hid (And.intro hi (And.intro hz0 (And.intro hz1 hz2)))
  clear hi hz0 hz1 hz2
  have hd' := Lib.hid hd
  clear hd
  go_enter Try.func37, Try.ntmps37
  go_wp2_with fail
  have hW1 : Hid ((w.alloc (.cells (row d) 28)).heap[w.heap.size]? = some (.cells (row d) 28)) := by show _ = _; rw [heap_alloc_if, if_pos rfl]
  have hW2 : Hid (Below w.heap.size w (w.alloc (.cells (row d) 28))) := (Below.refl _ _).alloc (Nat.le_refl _) _
  have hsz : (w.alloc (.cells (row d) 28)).heap.size = w.heap.size + 1 := by simp
  revert hW1 hW2 hsz
  generalize w.alloc (.cells (row d) 28) = W
  intro hW1 hW2 hsz
  have hsz' := Lib.hid hsz
  clear hsz
  go_loopw [3, 4] (fun v j wr => ∃ (k : Nat), k ≤ 32 ∧ j = .int .i64 (k : Int) ∧ Hid (UW W v (d.take k) wr)) (fun _ j _ => 32 - (intOf j).toNat)
  case atStart => exact ⟨0, by omega, rfl, UW.startAt (Below.refl _ _)⟩
  case round =>
    obtain ⟨k, hk, rfl, hU⟩ := hrel
    rename_i v wr
    by_cases hlt : k < 32
    · have t1 : decide ((k : Int) < 32) = true := by rw [decide_eq_true_eq]; omega
      have hb : (k : Int) < 32 := by omega
      have c1 : wr.cell? ⟨w.heap.size, k, none⟩ = some (.int .u8 ((d.getD k 0).toNat : Int)) := by
        rw [cell_of_row wr _ k _ _ _ ((hU.out.bel.block _ (lt_of_some hW1.out)).trans hW1.out), row_at _ _ (by rw [hd'.out]; exact hlt)]
      have hts := Lib.hid (take_snocD 0 d k (by rw [hd'.out]; exact hlt))
      have hlen : (d.take k).length = k := by rw [List.length_take, hd'.out]; omega
      have hsize := Lib.hid hU.out.bel.size
      have hb1 : (d.take k).length + 1 ≤ maxLen := by rw [hlen]; unfold maxLen; omega
      have hb2 : ((d.take k).length + 1) * 1 ≤ 140737488355328 := by rw [hlen]; omega
      clear hlen
      revert c1 hts hU hb1 hb2
      generalize d.getD k 0 = x
      generalize d.take k = q
      intro hU c1 hts hb1 hb2
      go_wp2_with (first
        | (at_builtin; refine wpList_append_own _ rfl (.tmp 9) (.tmp 13) 39 rfl W.heap.size 5 i (.int .u8 0) 1 1 Try.underlying39 H.out.1 H.out.2.1 H.out.2.2.1 H.out.2.2.2 rfl (by decide) _ _ _ rfl (hU.out.own.alloc _) _ 1 1 [.int .u8 (x.toNat : Int)] rfl rfl (one_new _ _ _) (by simp [Value.oneCell']) hb1 hb2 (Nat.le_trans hsize.out (by simp)) ?_)
        | fail)
      intro v' w' o1 g1 _
      have hU2 := hU.out.put o1 g1
      rw [← hts.out] at hU2
      have hU2' := Lib.hid hU2
      clear o1 g1 hU2
      go_wp2_with fail
      go_roundw
      case rel => exact ⟨k + 1, by omega, by go_num, hU2'.out⟩
      case measure => simp [intOf]; omega
    · obtain rfl : k = 32 := by omega
      have hcv := conv_own hU.out.own
      rw [List.take_of_length_le (show d.length ≤ 32 by rw [hd'.out]; exact Nat.le_refl _)] at hcv
      go_wp2_with fail
      go_ret
      exact ⟨rfl, below_on hW2.out hU.out.bel⟩

set_option maxHeartbeats 400000 in
theorem rsum_any (d : List UInt8) (hd : d.length = 32) (w : World) :
    Calls Try.prog 25 #[.agg (row d)] w fun e w' => e = .returned (.string (mk d)) ∧ Below w.heap.size w w' := by
  have c1 := Lib.hid (fun v => rbytes_any d hd v)
  have hd' := Lib.hid hd
  clear hd
  have k0 : (w.alloc (.cells (row d) 28)).heap[w.heap.size]? = some (.cells (row d) 28) := by rw [heap_alloc_if, if_pos rfl]
  go_enter Try.func25, Try.ntmps25
  go_wp2_with (first
    | (with_reducible refine wpList_load_row rfl 28 (.tmp 1) rfl _ rfl 28 (row d) _ k0 Try.underlying28 rfl (info28' d hd'.out) ?_)
    | fail)
  refine (c1.out _).mono ?_
  rintro e w1 ⟨rfl, b1⟩
  have B1 := Lib.hid (first_below b1)
  clear b1
  go_wp2_with fail
  go_ret
  exact ⟨rfl, B1.out⟩

theorem info_z28 : (Try.prog.info? 28).map (·.size) = some z28.size := info28
theorem z28_one : z28.all (·.oneCell') = true := row_one _
theorem rowz (d : List UInt8) (hd : d.length = 32) : (row (List.replicate 32 0)).size = (row d).size := by rw [row_size, row_size, hd]; rfl
section
variable {P : Program} {op : Oper} {a : Act} {w : World} {K : Act → World → Prop} {Q : Exit → Act → World → Prop}
theorem wp_vald (d : Option Tmp) (hd : op.dst = d) (v : Value) (hv : (execOp a.eval op).run P w = .ok (.value v) w) (h : K (a.put d v) w) : op.wp P a w K Q := wp_val v hv (by rw [hd]; exact h)
theorem wp_load_rowd (e : Option Tmp) (he : op.dst = e) (ty : TypeId) (x : Operand) (ho : op.op = .load ty x)
    (b : Nat) (hx : a.eval x = .pointer (some ⟨b, 0, none⟩)) (t : TypeId) (c : Array Value) (d : TypeDesc) (hg : w.heap[b]? = some (.cells c t))
    (hu : P.underlying ty = some d) (hd : (match d with | .struct _ | .array _ _ => true | _ => false) = true) (hi : (P.info? ty).map (·.size) = some c.size)
    (h : K (a.put e (.agg c)) w) : op.wp P a w K Q := wp_load_row ty x ho b hx t c d hg hu hd hi (by rw [he]; exact h)
theorem wp_store_rowd (e : Option Tmp) (he : op.dst = e) (ty : TypeId) (x y : Operand) (ho : op.op = .store ty x y)
    (b : Nat) (cells : Array Value) (hx : a.eval x = .pointer (some ⟨b, 0, none⟩)) (hy : a.eval y = .agg cells) (t : TypeId) (old : Array Value)
    (hg : w.heap[b]? = some (.cells old t)) (hi : (P.info? ty).map (·.size) = some cells.size) (hs : old.size = cells.size) (h1 : cells.all (·.oneCell') = true)
    (h : K (a.put e undef) (w.setRow b cells)) : op.wp P a w K Q := wp_store_row ty x y ho b cells hx hy t old hg hi hs h1 (by rw [he]; exact h)
end
/-- The two digests of GetSum of the reference. -/
structure GS (w : World) (x y : List UInt8) (v : World) : Prop where
  bel : Below w.heap.size w v
  one : v.heap[w.heap.size]? = some (.cells (row x) 28)
  two : v.heap[w.heap.size + 1]? = some (.cells (row y) 28)
theorem GS.put {w v : World} {x y : List UInt8} (h : GS w x y v) (k : Nat) (b : UInt8) : GS w x (y.set k b) (v.setCell ⟨w.heap.size + 1, k, none⟩ (.int .u8 (b.toNat : Int))) := by
  rw [setCell_eq_setRow _ _ _ _ _ _ _ h.two]
  refine ⟨below_setRow h.bel (by omega) _, ?_, ?_⟩
  · rw [setRow_other _ _ _ _ (by omega)]; exact h.one
  · rw [setRow_heap _ _ _ _ _ _ h.two, row_set]
set_option maxHeartbeats 1000000 in
set_option maxRecDepth 100000 in
theorem rgetSum_any (s : ByteArray) (hs : s.size ≤ 9223372036854775000) (w : World) :
    Calls Try.prog 19 #[.string s] w fun e w' => e = .returned (sR (li s)) ∧ Below w.heap.size w w' := by
  by_cases h : s.size < 32
  · have t1 : decide ((s.size : Int) < 32) = true := by simp; omega
    have e : Hid (sR (li s) = .tuple #[.agg z28, .string em, .bool false]) := sR_none (by unfold gs; rw [if_neg (by rw [li_len]; omega)])
    rw [e.out]
    clear e h
    go_enter Try.func19, Try.ntmps19
    go_wp2_with (first
      | (with_reducible refine wpList_load_row rfl 28 (.tmp 5) rfl _ rfl 28 z28 _ ?hg1 Try.underlying28 rfl info_z28 ?_)
      | (with_reducible refine wpList_store_row rfl 28 (.tmp 2) (.tmp 10) rfl _ z28 rfl rfl 28 z28 ?hg2 info_z28 rfl z28_one ?_)
      | fail)
    case hg1 => rw [z28_eq, heap_alloc_if, if_pos (by simp)]
    case hg2 => rw [z28_eq, heap_alloc_if, if_neg (by simp), heap_alloc_if, if_pos rfl]
    refine bodyPost_row3 2 3 4 28 rfl w.heap.size rfl _ _ rfl rfl 28 z28 _ ?hg3 Try.underlying28 rfl info_z28 rfl ?_
    case hg3 => rw [z28_eq]; exact setRow_heap _ _ _ _ _ _ (by rw [heap_alloc_if, if_neg (by simp), heap_alloc_if, if_pos rfl])
    exact ⟨rfl, below_setRow (((Below.refl _ _).alloc (Nat.le_refl _) _).alloc (by simp) _) (Nat.le_refl _) _⟩
  · have t1 : decide ((s.size : Int) < 32) = false := by simp; omega
    have e : Hid (sR (li s) = .tuple #[.agg (row ((li s).take 32)), .string (mk ((li s).drop 32)), .bool true]) := sR_some (by unfold gs; rw [if_pos (by rw [li_len]; omega)])
    have e2 : Hid (mk ((li s).drop 32) = s.extract 32 s.size) := by show _ = _; apply li_inj; rw [li_mk', li_ext, ← li_len, List.take_of_length_le (Nat.le_refl _)]
    have hge : 32 ≤ s.size := by omega
    have hge' : (32 : Int) ≤ (s.size : Int) := by omega
    go_enter Try.func19, Try.ntmps19
    go_wp2_with fail
    rw [z28_eq]
    have hG0 : GS w (List.replicate 32 0) (pz 0 32 ((li s).take 0)) ((w.alloc (.cells z28 28)).alloc (.cells z28 28)) :=
      ⟨((Below.refl _ _).alloc (Nat.le_refl _) _).alloc (by simp) _, by rw [heap_alloc_if, if_neg (by simp), heap_alloc_if, if_pos rfl]; rfl, by rw [heap_alloc_if, if_pos (by simp)]; rfl⟩
    have hG := Lib.hid hG0
    clear hG0
    go_loopw [6] (fun j wr => ∃ k : Nat, k ≤ 32 ∧ j = .int .i64 (k : Int) ∧ Hid (GS w (List.replicate 32 0) (pz 0 32 ((li s).take k)) wr)) (fun j _ => 32 - (intOf j).toNat)
    case atStart => exact ⟨0, by omega, rfl, hG.out⟩
    case round =>
      obtain ⟨k, hk, rfl, hU⟩ := hrel
      rename_i wr
      by_cases hlt : k < 32
      · have t2 : decide ((k : Int) < 32) = true := by rw [decide_eq_true_eq]; omega
        have hb : (k : Int) < 32 := by omega
        have hks : k < s.size := by omega
        have hl : k < (li s).length := by rw [li_len]; exact hks
        have hlen : ((li s).take k).length = k := by rw [List.length_take]; omega
        have q1 : wr.cell? ⟨w.heap.size + 1, k, none⟩ = some (.int .u8 0) := by
          rw [cell_of_row wr _ k _ _ _ hU.out.two, row_at _ _ (by rw [pz_length _ _ _ (by omega)]; exact hlt), pz_getD, List.getD_eq_getElem?_getD, List.getElem?_eq_none (by omega)]; rfl
        have f1 := frozen_row hU.out.two k
        have hN : Hid (GS w (List.replicate 32 0) (pz 0 32 ((li s).take (k + 1))) (wr.setCell ⟨w.heap.size + 1, k, none⟩ (.int .u8 ((s[k]'hks).toNat : Int)))) := by
          have h1 := hU.out.put k (s[k]'hks)
          have h2 := pz_set 0 32 ((li s).take k) (s[k]'hks) (by omega)
          rw [hlen] at h2
          rw [h2] at h1
          rw [List.take_succ_eq_append_getElem hl]
          exact h1
        clear hlen hl
        go_wp2_with fail
        go_roundw
        case rel => exact ⟨k + 1, by omega, by go_num, hN.out⟩
        case measure => simp [intOf]; omega
      · obtain rfl : k = 32 := by omega
        have hlen : ((li s).take 32).length = 32 := by rw [List.length_take, li_len]; omega
        have hU' := hU.out
        rw [pz_full _ _ _ hlen] at hU'
        have hU2 := Lib.hid hU'
        have hlen' := Lib.hid hlen
        clear hU hU' hlen hk hlt
        revert e hU2 hlen'
        generalize (li s).take 32 = d
        intro e hU2 hlen'
        go_wp2_with (refine park_region (fun Pk hX => ?_))
        refine hX.out ?_
        clear hX
        refine wp_region_any (by kernel_rfl) ?_
        have q1 : Hid (wr.drew.heap[w.heap.size]? = some (.cells (row (List.replicate 32 0)) 28)) := hU2.out.one
        have q2 : Hid (wr.drew.heap[w.heap.size + 1]? = some (.cells (row d) 28)) := hU2.out.two
        have B0 : Hid (Below w.heap.size w wr.drew) := hU2.out.bel.drew
        show wpAny _ _ _ _ 6 _ _ wr.drew
        revert q1 q2 B0
        generalize wr.drew = w2
        intro q1 q2 B0
        refine any_two (i := 0) (k := 1) (by kernel_rfl) (wpOp_plain (by rfl) (by rfl) ?_) (wpOp_plain (by rfl) (by rfl) ?_)
        · refine wp_load_rowd (some 20) rfl 28 (.tmp 5) rfl _ rfl 28 (row d) _ q2.out Try.underlying28 rfl (info28' d hlen'.out) ?_
          simp only [Act.put, List.setIfInBounds_toArray, List.set_cons_zero, List.set_cons_succ]
          refine any_two (i := 1) (k := 3) (by kernel_rfl) (wpOp_plain (by rfl) (by rfl) ?_) (wpOp_plain (by rfl) (by rfl) ?_)
          · refine wp_vald (some 21) rfl (.string s) (x_move (.tmp 0) (.inl rfl) _ rfl) ?_
            simp only [Act.put, List.setIfInBounds_toArray, List.set_cons_zero, List.set_cons_succ]
            refine any_two (i := 2) (k := 3) (by kernel_rfl) (wpOp_plain (by rfl) (by rfl) ?_) (wpOp_plain (by rfl) (by rfl) ?_)
            · refine wp_vald (some 22) rfl (.string (s.extract 32 s.size)) (x_sub 9 (.tmp 21) _ _ rfl Try.underlying9 s rfl (some 32) none rfl rfl 32 s.size rfl rfl hge (Nat.le_refl _)) ?_
              simp only [Act.put, List.setIfInBounds_toArray, List.set_cons_zero, List.set_cons_succ]
              refine any_one (i := 3) (by kernel_rfl) (wpOp_plain (by rfl) (by rfl) ?_)
              refine wp_store_rowd none rfl 28 (.tmp 2) (.tmp 20) rfl _ (row d) rfl rfl 28 _ q1.out (info28' d hlen'.out) (rowz d hlen'.out) (row_one _) ?_
              simp only [Act.put]
              refine any_one (i := 4) (by kernel_rfl) (wpOp_plain (by rfl) (by rfl) ?_)
              refine wp_vald (some 3) rfl (.string (s.extract 32 s.size)) (x_move (.tmp 22) (.inr rfl) _ rfl) ?_
              simp only [Act.put, List.setIfInBounds_toArray, List.set_cons_zero, List.set_cons_succ]
              refine any_one (i := 5) (by kernel_rfl) (wpOp_plain (by rfl) (by rfl) ?_)
              refine wp_vald (some 4) rfl (.bool true) (x_move (.const (.bool true)) (.inr rfl) _ rfl) ?_
              simp only [Act.put, List.setIfInBounds_toArray, List.set_cons_zero, List.set_cons_succ]
              refine any_none (by kernel_rfl) ?_
              go_wp2_with fail
              refine bodyPost_row3 2 3 4 28 rfl w.heap.size rfl _ _ rfl rfl 28 (row d) _ (setRow_heap _ _ _ _ _ _ q1.out) Try.underlying28 rfl (info28' d hlen'.out) rfl ?_
              exact ⟨by rw [e.out, e2.out]; rfl, below_setRow B0.out (Nat.le_refl _) _⟩
            · refine wp_store_rowd none rfl 28 (.tmp 2) (.tmp 20) rfl _ (row d) rfl rfl 28 _ q1.out (info28' d hlen'.out) (rowz d hlen'.out) (row_one _) ?_
              simp only [Act.put]
              refine any_one (i := 2) (by kernel_rfl) (wpOp_plain (by rfl) (by rfl) ?_)
              refine wp_vald (some 22) rfl (.string (s.extract 32 s.size)) (x_sub 9 (.tmp 21) _ _ rfl Try.underlying9 s rfl (some 32) none rfl rfl 32 s.size rfl rfl hge (Nat.le_refl _)) ?_
              simp only [Act.put, List.setIfInBounds_toArray, List.set_cons_zero, List.set_cons_succ]
              refine any_one (i := 4) (by kernel_rfl) (wpOp_plain (by rfl) (by rfl) ?_)
              refine wp_vald (some 3) rfl (.string (s.extract 32 s.size)) (x_move (.tmp 22) (.inr rfl) _ rfl) ?_
              simp only [Act.put, List.setIfInBounds_toArray, List.set_cons_zero, List.set_cons_succ]
              refine any_one (i := 5) (by kernel_rfl) (wpOp_plain (by rfl) (by rfl) ?_)
              refine wp_vald (some 4) rfl (.bool true) (x_move (.const (.bool true)) (.inr rfl) _ rfl) ?_
              simp only [Act.put, List.setIfInBounds_toArray, List.set_cons_zero, List.set_cons_succ]
              refine any_none (by kernel_rfl) ?_
              go_wp2_with fail
              refine bodyPost_row3 2 3 4 28 rfl w.heap.size rfl _ _ rfl rfl 28 (row d) _ (setRow_heap _ _ _ _ _ _ q1.out) Try.underlying28 rfl (info28' d hlen'.out) rfl ?_
              exact ⟨by rw [e.out, e2.out]; rfl, below_setRow B0.out (Nat.le_refl _) _⟩
          · refine wp_store_rowd none rfl 28 (.tmp 2) (.tmp 20) rfl _ (row d) rfl rfl 28 _ q1.out (info28' d hlen'.out) (rowz d hlen'.out) (row_one _) ?_
            simp only [Act.put]
            refine any_one (i := 1) (by kernel_rfl) (wpOp_plain (by rfl) (by rfl) ?_)
            refine wp_vald (some 21) rfl (.string s) (x_move (.tmp 0) (.inl rfl) _ rfl) ?_
            simp only [Act.put, List.setIfInBounds_toArray, List.set_cons_zero, List.set_cons_succ]
            refine any_one (i := 2) (by kernel_rfl) (wpOp_plain (by rfl) (by rfl) ?_)
            refine wp_vald (some 22) rfl (.string (s.extract 32 s.size)) (x_sub 9 (.tmp 21) _ _ rfl Try.underlying9 s rfl (some 32) none rfl rfl 32 s.size rfl rfl hge (Nat.le_refl _)) ?_
            simp only [Act.put, List.setIfInBounds_toArray, List.set_cons_zero, List.set_cons_succ]
            refine any_one (i := 4) (by kernel_rfl) (wpOp_plain (by rfl) (by rfl) ?_)
            refine wp_vald (some 3) rfl (.string (s.extract 32 s.size)) (x_move (.tmp 22) (.inr rfl) _ rfl) ?_
            simp only [Act.put, List.setIfInBounds_toArray, List.set_cons_zero, List.set_cons_succ]
            refine any_one (i := 5) (by kernel_rfl) (wpOp_plain (by rfl) (by rfl) ?_)
            refine wp_vald (some 4) rfl (.bool true) (x_move (.const (.bool true)) (.inr rfl) _ rfl) ?_
            simp only [Act.put, List.setIfInBounds_toArray, List.set_cons_zero, List.set_cons_succ]
            refine any_none (by kernel_rfl) ?_
            go_wp2_with fail
            refine bodyPost_row3 2 3 4 28 rfl w.heap.size rfl _ _ rfl rfl 28 (row d) _ (setRow_heap _ _ _ _ _ _ q1.out) Try.underlying28 rfl (info28' d hlen'.out) rfl ?_
            exact ⟨by rw [e.out, e2.out]; rfl, below_setRow B0.out (Nat.le_refl _) _⟩
        · refine wp_vald (some 21) rfl (.string s) (x_move (.tmp 0) (.inl rfl) _ rfl) ?_
          simp only [Act.put, List.setIfInBounds_toArray, List.set_cons_zero, List.set_cons_succ]
          refine any_two (i := 0) (k := 2) (by kernel_rfl) (wpOp_plain (by rfl) (by rfl) ?_) (wpOp_plain (by rfl) (by rfl) ?_)
          · refine wp_load_rowd (some 20) rfl 28 (.tmp 5) rfl _ rfl 28 (row d) _ q2.out Try.underlying28 rfl (info28' d hlen'.out) ?_
            simp only [Act.put, List.setIfInBounds_toArray, List.set_cons_zero, List.set_cons_succ]
            refine any_two (i := 2) (k := 3) (by kernel_rfl) (wpOp_plain (by rfl) (by rfl) ?_) (wpOp_plain (by rfl) (by rfl) ?_)
            · refine wp_vald (some 22) rfl (.string (s.extract 32 s.size)) (x_sub 9 (.tmp 21) _ _ rfl Try.underlying9 s rfl (some 32) none rfl rfl 32 s.size rfl rfl hge (Nat.le_refl _)) ?_
              simp only [Act.put, List.setIfInBounds_toArray, List.set_cons_zero, List.set_cons_succ]
              refine any_one (i := 3) (by kernel_rfl) (wpOp_plain (by rfl) (by rfl) ?_)
              refine wp_store_rowd none rfl 28 (.tmp 2) (.tmp 20) rfl _ (row d) rfl rfl 28 _ q1.out (info28' d hlen'.out) (rowz d hlen'.out) (row_one _) ?_
              simp only [Act.put]
              refine any_one (i := 4) (by kernel_rfl) (wpOp_plain (by rfl) (by rfl) ?_)
              refine wp_vald (some 3) rfl (.string (s.extract 32 s.size)) (x_move (.tmp 22) (.inr rfl) _ rfl) ?_
              simp only [Act.put, List.setIfInBounds_toArray, List.set_cons_zero, List.set_cons_succ]
              refine any_one (i := 5) (by kernel_rfl) (wpOp_plain (by rfl) (by rfl) ?_)
              refine wp_vald (some 4) rfl (.bool true) (x_move (.const (.bool true)) (.inr rfl) _ rfl) ?_
              simp only [Act.put, List.setIfInBounds_toArray, List.set_cons_zero, List.set_cons_succ]
              refine any_none (by kernel_rfl) ?_
              go_wp2_with fail
              refine bodyPost_row3 2 3 4 28 rfl w.heap.size rfl _ _ rfl rfl 28 (row d) _ (setRow_heap _ _ _ _ _ _ q1.out) Try.underlying28 rfl (info28' d hlen'.out) rfl ?_
              exact ⟨by rw [e.out, e2.out]; rfl, below_setRow B0.out (Nat.le_refl _) _⟩
            · refine wp_store_rowd none rfl 28 (.tmp 2) (.tmp 20) rfl _ (row d) rfl rfl 28 _ q1.out (info28' d hlen'.out) (rowz d hlen'.out) (row_one _) ?_
              simp only [Act.put]
              refine any_one (i := 2) (by kernel_rfl) (wpOp_plain (by rfl) (by rfl) ?_)
              refine wp_vald (some 22) rfl (.string (s.extract 32 s.size)) (x_sub 9 (.tmp 21) _ _ rfl Try.underlying9 s rfl (some 32) none rfl rfl 32 s.size rfl rfl hge (Nat.le_refl _)) ?_
              simp only [Act.put, List.setIfInBounds_toArray, List.set_cons_zero, List.set_cons_succ]
              refine any_one (i := 4) (by kernel_rfl) (wpOp_plain (by rfl) (by rfl) ?_)
              refine wp_vald (some 3) rfl (.string (s.extract 32 s.size)) (x_move (.tmp 22) (.inr rfl) _ rfl) ?_
              simp only [Act.put, List.setIfInBounds_toArray, List.set_cons_zero, List.set_cons_succ]
              refine any_one (i := 5) (by kernel_rfl) (wpOp_plain (by rfl) (by rfl) ?_)
              refine wp_vald (some 4) rfl (.bool true) (x_move (.const (.bool true)) (.inr rfl) _ rfl) ?_
              simp only [Act.put, List.setIfInBounds_toArray, List.set_cons_zero, List.set_cons_succ]
              refine any_none (by kernel_rfl) ?_
              go_wp2_with fail
              refine bodyPost_row3 2 3 4 28 rfl w.heap.size rfl _ _ rfl rfl 28 (row d) _ (setRow_heap _ _ _ _ _ _ q1.out) Try.underlying28 rfl (info28' d hlen'.out) rfl ?_
              exact ⟨by rw [e.out, e2.out]; rfl, below_setRow B0.out (Nat.le_refl _) _⟩
          · refine wp_vald (some 22) rfl (.string (s.extract 32 s.size)) (x_sub 9 (.tmp 21) _ _ rfl Try.underlying9 s rfl (some 32) none rfl rfl 32 s.size rfl rfl hge (Nat.le_refl _)) ?_
            simp only [Act.put, List.setIfInBounds_toArray, List.set_cons_zero, List.set_cons_succ]
            refine any_one (i := 0) (by kernel_rfl) (wpOp_plain (by rfl) (by rfl) ?_)
            refine wp_load_rowd (some 20) rfl 28 (.tmp 5) rfl _ rfl 28 (row d) _ q2.out Try.underlying28 rfl (info28' d hlen'.out) ?_
            simp only [Act.put, List.setIfInBounds_toArray, List.set_cons_zero, List.set_cons_succ]
            refine any_one (i := 3) (by kernel_rfl) (wpOp_plain (by rfl) (by rfl) ?_)
            refine wp_store_rowd none rfl 28 (.tmp 2) (.tmp 20) rfl _ (row d) rfl rfl 28 _ q1.out (info28' d hlen'.out) (rowz d hlen'.out) (row_one _) ?_
            simp only [Act.put]
            refine any_one (i := 4) (by kernel_rfl) (wpOp_plain (by rfl) (by rfl) ?_)
            refine wp_vald (some 3) rfl (.string (s.extract 32 s.size)) (x_move (.tmp 22) (.inr rfl) _ rfl) ?_
            simp only [Act.put, List.setIfInBounds_toArray, List.set_cons_zero, List.set_cons_succ]
            refine any_one (i := 5) (by kernel_rfl) (wpOp_plain (by rfl) (by rfl) ?_)
            refine wp_vald (some 4) rfl (.bool true) (x_move (.const (.bool true)) (.inr rfl) _ rfl) ?_
            simp only [Act.put, List.setIfInBounds_toArray, List.set_cons_zero, List.set_cons_succ]
            refine any_none (by kernel_rfl) ?_
            go_wp2_with fail
            refine bodyPost_row3 2 3 4 28 rfl w.heap.size rfl _ _ rfl rfl 28 (row d) _ (setRow_heap _ _ _ _ _ _ q1.out) Try.underlying28 rfl (info28' d hlen'.out) rfl ?_
            exact ⟨by rw [e.out, e2.out]; rfl, below_setRow B0.out (Nat.le_refl _) _⟩
end Go.Proofs.Ytgaggncepknafaa
