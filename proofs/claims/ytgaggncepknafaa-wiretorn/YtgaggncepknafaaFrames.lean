/-
  What GetText, check, Frame and GetFrame of the program return.
-/
import Derived.Test.YtgaggncepknafaaGets
import Derived.Deep.RegionHeld3
namespace Go.Proofs.Ytgaggncepknafaa
open Go.RowKit

set_option maxHeartbeats 400000 in
theorem getText_any (s : ByteArray) (hs : s.size ≤ 9223372036854775807) (most : Int) (w : World) :
    Calls Try.prog 16 #[.string s, .int .i64 most] w fun e w' => e = .returned (tR (li s) most) ∧ Below w.heap.size w w' := by
  obtain ⟨t, r, b, h1, h2⟩ := tV_tR (li s) most
  have c1 := Lib.hid (fun v => gtext_any s hs most v)
  rw [h1] at c1
  have c2 := Lib.hid (fun v => toldt_any t r b v)
  unfold rt at c1 c2
  rw [h2]
  clear h1 h2
  go_enter Try.func16, Try.ntmps16
  go_wp2_with fail
  refine (c1.out _).mono ?_
  rintro e w1 ⟨rfl, b1⟩
  go_wp2_with fail
  refine (c2.out _).mono ?_
  rintro e w2 ⟨rfl, b2⟩
  go_wp2_with fail
  go_returns
  exact ⟨rfl, below_on b1 b2⟩

theorem cbV (c : BitVec 32) (k : Nat) : V c / 2 ^ (8 * k) % 256 = ((cb c k).toNat : Int) := by
  unfold cb V
  rw [ofNat_toNat _ (Nat.mod_lt _ (by decide)), show (256 : Nat) ^ k = 2 ^ (8 * k) by rw [Nat.pow_mul]]
  rw [Int.natCast_emod, Int.natCast_ediv, Int.natCast_pow]
  rfl
theorem c4_next (c : BitVec 32) (k : Nat) (h : k < 4) : (row (pz 0 4 ((c4 c).take k))).setIfInBounds k (.int .u8 ((cb c k).toNat : Int)) = row (pz 0 4 ((c4 c).take (k + 1))) := by
  rw [row_set]
  have hl : ((c4 c).take k).length = k := by rw [List.length_take]; show min k 4 = k; omega
  have hn : (c4 c).take (k + 1) = (c4 c).take k ++ [cb c k] := by
    obtain rfl | rfl | rfl | rfl : k = 0 ∨ k = 1 ∨ k = 2 ∨ k = 3 := by omega
    all_goals rfl
  rw [hn, ← pz_set _ _ _ _ (by rw [hl]; exact h), hl]
theorem slice4 (b : Nat) (w : World) : (Instr.sliceAt 63 (.pointer (some ⟨b, 0, none⟩)) none (some (.int .i64 4)) (some (.int .i64 4))).run Try.prog w = .ok (.slice (some ⟨b, 0, none⟩) 4 4) w := by
  have ht : Try.prog.underlying 63 = some (.array (Try.prog.arrayLen 63) (Try.prog.elem 63)) := by kernel_rfl
  have e1 : Try.prog.elem 63 = 5 := by kernel_rfl
  have e2 : Try.prog.arrayLen 63 = 4 := by kernel_rfl
  rw [run_sliceAt_array_hm (P := Try.prog) w 63 ⟨b, 0, none⟩ ht .i64 .i64 _ _ (by omega) (by omega) (by rw [e2]; omega), e1, Try.sizeOf5]
  rfl
set_option maxHeartbeats 1000000 in
theorem check_any (s : ByteArray) (hs : s.size ≤ 9223372036854775807) (w : World) :
    Calls Try.prog 35 #[.string s] w fun e w' => e = .returned (.string (mk (chk (li s)))) ∧ Below w.heap.size w w' := by
  have c1 : Hid (∀ v, Calls Try.prog 41 #[.string s] v fun e w' => e = .returned (.int .u32 (V (more 0#32 (li s)))) ∧ Below v.heap.size v w') := fun v => of_any s hs v
  unfold chk
  revert c1
  generalize more 0#32 (li s) = c
  intro c1
  go_enter Try.func35, Try.ntmps35
  go_wp2_with fail
  refine (c1.out _).mono ?_
  rintro e w1 ⟨rfl, b1⟩
  have k1 := Lib.hid (first_kept b1)
  have B1 := Lib.hid (first_below b1)
  clear b1
  go_wp2_with fail
  go_loopw [8] (fun i wr => ∃ k : Nat, k ≤ 4 ∧ i = .int .i64 (k : Int) ∧ Hid (Below w.heap.size w wr) ∧ Hid (wr.heap[w.heap.size]? = some (.cells (row (pz 0 4 ((c4 c).take k))) 63))) (fun i _ => 4 - (intOf i).toNat)
  case atStart => exact ⟨0, by omega, rfl, B1.out, k1.out⟩
  case round =>
    obtain ⟨k, hk, rfl, hB, hH⟩ := hrel
    rename_i wr
    by_cases hlt : k < 4
    · have hb : (k : Int) < 4 := by omega
      have q1 : wr.cell? ⟨w.heap.size, k, none⟩ = some (.int .u8 0) := by
        rw [cell_of_row wr _ k _ _ _ hH.out]
        obtain rfl | rfl | rfl | rfl : k = 0 ∨ k = 1 ∨ k = 2 ∨ k = 3 := by omega
        all_goals rfl
      have f1 := frozen_row hH.out k
      have hv := cbV c k
      have hn : Hid (Below w.heap.size w (wr.setCell ⟨w.heap.size, k, none⟩ (.int .u8 ((cb c k).toNat : Int))) ∧ (wr.setCell ⟨w.heap.size, k, none⟩ (.int .u8 ((cb c k).toNat : Int))).heap[w.heap.size]? = some (.cells (row (pz 0 4 ((c4 c).take (k + 1)))) 63)) := by
        show _ ∧ _
        rw [setCell_eq_setRow _ _ _ _ _ _ _ hH.out]
        exact ⟨below_setRow hB.out (Nat.le_refl _) _, by rw [setRow_heap _ _ _ _ _ _ hH.out, c4_next c k hlt]⟩
      go_wp2_with fail
      go_roundw
      case rel => exact ⟨k + 1, by omega, by go_num, hn.out.1, hn.out.2⟩
      case measure => simp [intOf]; omega
    · obtain rfl : k = 4 := by omega
      have hs4 := fun v => slice4 w.heap.size v
      have hcv := conv_row wr w.heap.size 4 63 (c4 c) rfl hH.out
      go_wp2_with fail
      go_returns
      exact ⟨rfl, hB.out⟩

theorem text_size (l : List UInt8) : (text l).length ≤ l.length + 8 := by
  have := num_len (cl l.length)
  unfold text; rw [List.length_append]; omega
set_option maxHeartbeats 400000 in
theorem frame_any (t : ByteArray) (ht : t.size ≤ 9223372036854775000) (w : World) :
    Calls Try.prog 26 #[.string t] w fun e w' => e = .returned (.string (mk (frame (li t)))) ∧ Below w.heap.size w w' := by
  have c1 := Lib.hid (fun v => text_any t ht v)
  have hl := text_size (li t)
  rw [li_len] at hl
  have hz : (mk (text (li t))).size ≤ 9223372036854775008 := by rw [size_li, li_mk']; omega
  have c2 := Lib.hid (fun v => check_any (mk (text (li t))) (by omega) v)
  have hz2 : (mk (chk (li (mk (text (li t)))))).size = 4 := by rw [size_li, li_mk']; rfl
  have he : mk (frame (li t)) = mk (text (li t)) ++ mk (chk (li (mk (text (li t))))) := by
    apply li_inj
    rw [li_mk', li_app, li_mk', li_mk']; rfl
  rw [he]
  clear he hl
  revert c1 hz c2 hz2
  generalize mk (chk (li (mk (text (li t))))) = C
  generalize mk (text (li t)) = T
  intro c1 hz c2 hz2
  go_enter Try.func26, Try.ntmps26
  go_wp2_with fail
  refine (c1.out _).mono ?_
  rintro e w1 ⟨rfl, b1⟩
  go_wp2_with fail
  refine (c2.out _).mono ?_
  rintro e w2 ⟨rfl, b2⟩
  go_wp2_with fail
  go_returns
  exact ⟨rfl, below_on b1 b2⟩

/-- What GetFrame returns. -/
def fR (l : List UInt8) : Value := match gf l with
  | some (t, r) => .tuple #[.string (mk t), .string (mk r), .bool true]
  | none => .tuple #[.string em, .string em, .bool false]
theorem fR_some {l t r : List UInt8} (h : gf l = some (t, r)) : fR l = .tuple #[.string (mk t), .string (mk r), .bool true] := by unfold fR; rw [h]
theorem fR_none {l : List UInt8} (h : gf l = none) : fR l = .tuple #[.string em, .string em, .bool false] := by unfold fR; rw [h]
theorem gf_no {l : List UInt8} (h : gt l 5000 = none) : gf l = none := by unfold gf; rw [h]
theorem gf_yes {l t r q : List UInt8} (h : gt l 5000 = some (t, r)) (hr : r = chk (text t) ++ q) : gf l = some (t, q) := by
  unfold gf; rw [h]; simp only
  rw [if_pos (by rw [List.isPrefixOf_iff_prefix, hr]; exact List.prefix_append _ _), hr]
  have : (chk (text t) ++ q).drop 4 = q := List.drop_left' (chk_len _)
  rw [this]
theorem gf_not {l t r : List UInt8} (h : gt l 5000 = some (t, r)) (hr : (chk (text t)).isPrefixOf r = false) : gf l = none := by
  unfold gf; rw [h]; simp only
  rw [if_neg (by rw [hr]; simp)]
theorem gt_len {s l r : List UInt8} {most : Int} (h : gt s most = some (l, r)) : l.length ≤ s.length := by
  rw [(gt_some h).1]; unfold text; simp; omega
theorem pastt_no (t s p : ByteArray) (w : World) :
    Calls Try.prog 34 #[rt t s false, .string p] w fun e w' => e = .returned (rt em em false) ∧ Below w.heap.size w w' := by
  cases h : (li p).isPrefixOf (li s) with
  | false => exact pastt_miss t s p h false w
  | true =>
    obtain ⟨r, hr⟩ := List.isPrefixOf_iff_prefix.1 h
    have hh := Lib.hid (fun v => cut_hit s p (mk r) (by rw [li_mk']; exact hr.symm) v)
    clear h hr
    unfold rt
    go_enter Try.func34, Try.ntmps34
    go_wp2_with fail
    refine (hh.out _).mono ?_
    rintro e w' ⟨rfl, rfl⟩
    go_wp2_with fail
    go_returns
    exact ⟨rfl, by go_grown⟩

/-- What was read of a text, in a block of the call's own. -/
structure Held3 (w : World) (z : Nat) (t r : ByteArray) (b : Bool) (v : World) : Prop where
  bel : Below w.heap.size w v
  blk : v.heap[z]? = some (.cells #[.string t, .string r, .bool b] 52)
theorem Held3.past {w v v' : World} {z : Nat} {t r : ByteArray} {b : Bool} (h : Held3 w z t r b v) (k : Below v.heap.size v v') : Held3 w z t r b v' :=
  ⟨below_on h.bel k, (k.block _ (lt_of_some h.blk)).trans h.blk⟩
theorem Held3.drew {w v : World} {z : Nat} {t r : ByteArray} {b : Bool} (h : Held3 w z t r b v) : Held3 w z t r b v.drew := ⟨h.bel.drew, h.blk⟩
theorem Held3.all {w v : World} {z : Nat} {t r : ByteArray} {b : Bool} (h : Held3 w z t r b v) : v.cell? ⟨z, 0, none⟩ = some (.string t) ∧ v.cell? ⟨z, 1, none⟩ = some (.string r) ∧ v.cell? ⟨z, 2, none⟩ = some (.bool b) ∧ Hid (Held3 w z t r b v) :=
  ⟨cell_of_row v z 0 _ _ _ h.blk, cell_of_row v z 1 _ _ _ h.blk, cell_of_row v z 2 _ _ _ h.blk, h⟩
set_option maxHeartbeats 1000000 in
theorem getFrame_any (s : ByteArray) (hs : s.size ≤ 9223372036854775000) (w : World) :
    Calls Try.prog 20 #[.string s] w fun e w' => e = .returned (fR (li s)) ∧ Below w.heap.size w w' := by
  have c1 := Lib.hid (fun v => gtext_any s (by omega) 5000 v)
  have hx : Hid (∃ (t r : ByteArray) (b : Bool) (t' r' : ByteArray) (b' : Bool), tV (li s) 5000 = rt t r b ∧ t.size ≤ 9223372036854775000 ∧ fR (li s) = .tuple #[.string t', .string r', .bool b'] ∧
      ∀ v, Calls Try.prog 34 #[rt t r b, .string (mk (chk (text (li t))))] v fun e w' => e = .returned (rt t' r' b') ∧ Below v.heap.size v w') := by
    cases h : gt (li s) 5000 with
    | none => exact ⟨em, em, false, em, em, false, tV_none h, by decide, fR_none (gf_no h), fun v => pastt_no _ _ _ v⟩
    | some q =>
      obtain ⟨t, r⟩ := q
      have hl := gt_len h
      rw [li_len] at hl
      cases k : (chk (text t)).isPrefixOf r with
      | false => exact ⟨mk t, mk r, true, em, em, false, tV_some h, by rw [size_li, li_mk']; omega, fR_none (gf_not h k), fun v => pastt_miss _ _ _ (by rw [li_mk', li_mk', li_mk']; exact k) true v⟩
      | true =>
        obtain ⟨q, hq⟩ := List.isPrefixOf_iff_prefix.1 k
        exact ⟨mk t, mk r, true, mk t, mk q, true, tV_some h, by rw [size_li, li_mk']; omega, fR_some (gf_yes h hq.symm), fun v => pastt_hit _ _ _ _ (by rw [li_mk', li_mk', li_mk', li_mk']; exact hq.symm) v⟩
  obtain ⟨t, r, b, t', r', b', h1, hz, h2, c5⟩ := hx.out
  have c5' := Lib.hid c5
  rw [h1] at c1
  rw [h2]
  have c2 := Lib.hid (fun v => text_any t hz v)
  have hl := text_size (li t)
  rw [li_len] at hl
  have c3 := Lib.hid (fun v => check_any (mk (text (li t))) (by rw [size_li, li_mk']; omega) v)
  rw [li_mk'] at c3
  have c4 := Lib.hid (fun v => toldt_any t' r' b' v)
  unfold rt at c1 c5' c4
  clear h1 h2 c5 hl hx
  revert c2 c3 c5'
  generalize mk (chk (text (li t))) = C
  generalize mk (text (li t)) = T
  intro c5' c2 c3
  go_enter Try.func20, Try.ntmps20
  go_wp2_with fail
  refine (c1.out _).mono ?_
  rintro e w1 ⟨rfl, b1⟩
  have B1 := Lib.hid (b1.alloc b1.size (.cells #[.string t, .string r, .bool b] 52))
  go_wp2_with fail
  have S0 : Held3 w w1.heap.size t r b (w1.alloc (.cells #[.string t, .string r, .bool b] 52)) := ⟨B1.out, by rw [heap_alloc_if, if_pos rfl]⟩
  have S0' := Lib.hid S0
  clear S0 b1 B1
  revert S0'
  generalize w1.alloc (.cells #[.string t, .string r, .bool b] 52) = W
  intro S0'
  go_region_held3 (fun v => v.cell? ⟨w1.heap.size, 0, none⟩ = some (.string t) ∧ v.cell? ⟨w1.heap.size, 1, none⟩ = some (.string r) ∧ v.cell? ⟨w1.heap.size, 2, none⟩ = some (.bool b) ∧ Hid (Held3 w w1.heap.size t r b v))
    (first | exact S0'.out.drew.all | exact hS2.out.all | exact hS3.out.all | exact hS4.out.all | exact hS5.out.all)
    ((first
      | (go_at_call 22; refine (c2.out _).mono ?_; rintro e v2 ⟨rfl, g2⟩; have hS2 := Lib.hid (S0'.out.drew.past g2); clear g2)
      | (go_at_call 35; refine (c3.out _).mono ?_; rintro e v3 ⟨rfl, g3⟩; have hS3 := Lib.hid (hS2.out.past g3); clear g3)
      | (go_at_call 34; refine (c5'.out _).mono ?_; rintro e v4 ⟨rfl, g4⟩; have hS4 := Lib.hid (hS3.out.past g4); clear g4)
      | (go_at_call 31; refine (c4.out _).mono ?_; rintro e v5 ⟨rfl, g5⟩; have hS5 := Lib.hid (hS4.out.past g5); clear g5)))
  go_wp2_with fail
  go_returns
  exact ⟨rfl, hS5.out.bel⟩
end Go.Proofs.Ytgaggncepknafaa
