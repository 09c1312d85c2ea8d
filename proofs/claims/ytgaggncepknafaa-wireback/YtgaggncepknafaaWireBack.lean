/-
  For every number, text, digest and rest WireBack returns true: what is written is read again, whatever stands behind it.
  Conditions: none beyond the given statement's own.
-/
import Derived.Test.YtgaggncepknafaaRows
import Derived.Test.YtgaggncepknafaaWorks
import Derived.Test.YtgaggncepknafaaFacts
import Derived.WalkKit
import Derived.ProofKit
import Derived.OpenShut
import Derived.ShutString
import Derived.ChangeOld
import Derived.Below
namespace Go.Proofs.Ytgaggncepknafaa.wireBack
open Go.ChangeShapes Go.WideShapes Go.ChangeAt Go.RowKit
open Go.ChangeMaps (open_string shut_string)
set_option linter.unusedVariables false

theorem own : ownKnob Try.prog.godebug = none := by kernel_rfl

/-- What is known of the frame at the last statement. -/
def fl (k : Nat) (a1 a3 : ByteArray) (z0 z1 : Nat) : List (Nat × Value) :=
  [(0, .int .i64 (k : Int)), (1, .string a1), (3, .string a3), (6, .pointer (some ⟨z0, 0, none⟩)), (9, .bool true), (10, .int .i64 (k : Int)), (11, .string a3), (12, .bool true), (13, .string a1), (14, .string a3), (15, .bool true), (16, .pointer (some ⟨z1, 0, none⟩)), (17, .string a3), (18, .bool true), (19, .string a1), (20, .string a3), (21, .bool true), (24, .bool false)]

theorem z28_row (d : List UInt8) (hd : d.length = 32) : z28.size = (row d).size := by rw [row_size, hd]; rfl
theorem back_num (k : Nat) (h : k ≤ big) (r : ByteArray) : nR (li (mk (num (cl k)) ++ r)) = .tuple #[.int .i64 (k : Int), .string r, .bool true] := by
  rw [li_app, li_mk', cl_id h, nR_some (gn_num h (li r)), mk_li']
theorem back_text (t r : ByteArray) (h : t.size ≤ 300) : tR (li (mk (text (li t)) ++ r)) (t.size : Int) = .tuple #[.string t, .string r, .bool true] := by
  rw [li_app, li_mk', tR_some (gt_text (by rw [li_len]; unfold big; omega) (by rw [li_len]; omega) (li r)), mk_li', mk_li']
theorem back_short (t r : ByteArray) (h : t.size ≤ 300) : tR (li (mk (text (li t)) ++ r)) ((t.size : Int) - 1) = .tuple #[.string em, .string em, .bool false] := by
  rw [li_app, li_mk', tR_none (gt_short (by rw [li_len]; unfold big; omega) (by rw [li_len]; omega) (li r))]
theorem back_sum (d : List UInt8) (hd : d.length = 32) (r : ByteArray) : sR (li (mk d ++ r)) = .tuple #[.agg (row d), .string r, .bool true] := by
  have h : gs (li (mk d ++ r)) = some (d, li r) := by
    unfold gs
    rw [li_app, li_mk', if_pos (by rw [List.length_append]; omega), List.take_left' hd, List.drop_left' hd]
  rw [sR_some h, mk_li']
theorem back_frame (t r : ByteArray) (h : t.size ≤ 300) : fR (li (mk (frame (li t)) ++ r)) = .tuple #[.string t, .string r, .bool true] := by
  rw [li_app, li_mk', fR_some (gf_frame (by rw [li_len]; omega) (li r)), mk_li', mk_li']
theorem frame_size (l : List UInt8) : (frame l).length ≤ l.length + 12 := by
  have := text_size l
  unfold frame; rw [List.length_append, chk_len]; omega

set_option maxHeartbeats 1000000 in
set_option maxRecDepth 100000 in
theorem walkSmall (k : Nat) (a1 : ByteArray) (a2 : List UInt8) (a3 : ByteArray) (hk : k ≤ 1125899906842624) (h1 : a1.size ≤ 300) (w2 : a2.length = 32) (h3 : a3.size ≤ 300) (w : World) :
    Calls Try.prog 5 #[.int .i64 (k : Int), .string a1, .agg (row a2), .string a3] w fun e w' => e = .returned (.bool true) ∧ Below w.heap.size w w' := by
  have t1 : decide ((300 : Int) < (a1.size : Int)) = false := by simp; omega
  have t2 : decide ((300 : Int) < (a3.size : Int)) = false := by simp; omega
  have t3 : decide ((k : Int) < 0) = false := by simp
  have t4 : decide ((1125899906842624 : Int) < (k : Int)) = false := by simp; omega
  have n1 : (mk (num (cl k))).size ≤ 8 := by rw [size_li, li_mk']; exact (num_len _).2
  have n2 : (mk (text (li a1))).size ≤ 400 := by rw [size_li, li_mk']; have := text_size (li a1); rw [li_len] at this; omega
  have n3 : (mk (frame (li a1))).size ≤ 400 := by rw [size_li, li_mk']; have := frame_size (li a1); rw [li_len] at this; omega
  have n4 : (mk a2).size ≤ 400 := by rw [size_li, li_mk']; omega
  have c1 : Hid (∀ v, Calls Try.prog 14 #[.int .i64 (k : Int)] v fun e v' => e = .returned (.string (mk (num (cl k)))) ∧ Below v.heap.size v v') := fun v => num_nat k (by omega) v
  have c2 := Lib.hid (fun v => getNum_any (mk (num (cl k)) ++ a3) (by rw [ByteArray.size_append]; omega) v)
  rw [back_num k hk a3] at c2
  have c3 := Lib.hid (fun v => text_any a1 (by omega) v)
  have c4 := Lib.hid (fun v => getText_any (mk (text (li a1)) ++ a3) (by rw [ByteArray.size_append]; omega) (a1.size : Int) v)
  rw [back_text a1 a3 h1] at c4
  have c5 := Lib.hid (fun v => sum_any a2 w2 v)
  have c6 := Lib.hid (fun v => getSum_any (mk a2 ++ a3) v)
  rw [back_sum a2 w2 a3] at c6
  have c7 := Lib.hid (fun v => frame_any a1 (by omega) v)
  have c8 := Lib.hid (fun v => getFrame_any (mk (frame (li a1)) ++ a3) (by rw [ByteArray.size_append]; omega) v)
  rw [back_frame a1 a3 h1] at c8
  have c9 := Lib.hid (fun v => getText_any (mk (text (li a1)) ++ a3) (by rw [ByteArray.size_append]; omega) ((a1.size : Int) - 1) v)
  rw [back_short a1 a3 h1] at c9
  have eqd : Hid (∀ v, (Op.equalIn 10000 28 (.agg (row a2)) (.agg (row a2))).run Try.prog v = .ok true v) := fun v => by rw [eql_dig _ _ w2 w2]; simp
  have w2' := Lib.hid w2
  revert c1 c2 c3 c4 c5 c6 c7 c8 c9 n1 n2 n3 n4
  generalize mk (num (cl k)) = N1
  generalize mk (text (li a1)) = N2
  generalize mk (frame (li a1)) = N3
  generalize mk a2 = N4
  intro n1 n2 n3 n4 c1 c2 c3 c4 c5 c6 c7 c8 c9
  clear w2
  go_enter Try.func5, Try.ntmps5
  go_wp2_with fail
  refine (works_any _).mono ?_
  rintro e v1 ⟨rfl, b1⟩
  have hb0 := Lib.hid (first_kept b1)
  have B1 := Lib.hid (first_below b1)
  clear b1
  go_wp2_with fail
  refine (c1.out _).mono ?_
  rintro e v2 ⟨rfl, b2⟩
  have B2 := Lib.hid (below_on B1.out b2)
  have hb02 := Lib.hid (below_blk hb0.out b2)
  clear b2 B1 hb0
  go_wp2_with fail
  refine (c2.out _).mono ?_
  rintro e v3 ⟨rfl, b3⟩
  have B3 := Lib.hid (below_on B2.out b3)
  have hb03 := Lib.hid (below_blk hb02.out b3)
  clear b3 B2 hb02
  go_wp2_with fail
  refine (c3.out _).mono ?_
  rintro e v4 ⟨rfl, b4⟩
  have B4 := Lib.hid (below_on B3.out b4)
  have hb04 := Lib.hid (below_blk hb03.out b4)
  clear b4 B3 hb03
  go_wp2_with fail
  refine (c4.out _).mono ?_
  rintro e v5 ⟨rfl, b5⟩
  have B5 := Lib.hid (below_on B4.out b5)
  have hb05 := Lib.hid (below_blk hb04.out b5)
  clear b5 B4 hb04
  have k0 := hb05.out
  go_wp2_with (first
    | (with_reducible refine wpList_load_row rfl 28 (.tmp 6) rfl _ rfl 28 (row a2) _ k0 Try.underlying28 rfl (info28' a2 w2'.out) ?_)
    | fail)
  clear k0
  refine (c5.out _).mono ?_
  rintro e v6 ⟨rfl, b6⟩
  have B6 := Lib.hid (below_on B5.out b6)
  have hb06 := Lib.hid (below_blk hb05.out b6)
  clear b6 B5 hb05
  go_wp2_with fail
  refine (c6.out _).mono ?_
  rintro e v7 ⟨rfl, b7⟩
  have B7 := Lib.hid (below_on B6.out b7)
  have hb07 := Lib.hid (below_blk hb06.out b7)
  clear b7 B6 hb06
  go_wp2_with (with_reducible refine wpList_store_row rfl 28 (.tmp 16) (.tmp 71) rfl _ (row a2) rfl rfl 28 z28 ?hg1 (info28' a2 w2'.out) (z28_row a2 w2'.out) (row_one _) ?_)
  case hg1 => rw [z28_eq, heap_alloc_if, if_pos rfl]
  rw [z28_eq, World.setRow_alloc_new]
  have hb1 : Hid ((v7.alloc (.cells (row a2) 28)).heap[v7.heap.size]? = some (.cells (row a2) 28)) := by show _ = _; rw [heap_alloc_if, if_pos rfl]
  have hb08 : Hid ((v7.alloc (.cells (row a2) 28)).heap[w.heap.size]? = some (.cells (row a2) 28)) := past_alloc hb07.out
  have B8 := Lib.hid (B7.out.alloc B7.out.size (.cells (row a2) 28))
  revert hb1 hb08 B8
  generalize v7.alloc (.cells (row a2) 28) = v8
  generalize v7.heap.size = z1
  intro hb1 hb08 B8
  clear B7 hb07
  go_wp2_with fail
  refine (c7.out _).mono ?_
  rintro e v9 ⟨rfl, b9⟩
  have B9 := Lib.hid (below_on B8.out b9)
  have hb09 := Lib.hid (below_blk hb08.out b9)
  have hb19 := Lib.hid (below_blk hb1.out b9)
  clear b9 B8 hb08 hb1
  go_wp2_with fail
  refine (c8.out _).mono ?_
  rintro e va ⟨rfl, ba⟩
  have Ba := Lib.hid (below_on B9.out ba)
  have hb0a := Lib.hid (below_blk hb09.out ba)
  have hb1a := Lib.hid (below_blk hb19.out ba)
  clear ba B9 hb09 hb19
  go_wp2_with fail
  refine (c3.out _).mono ?_
  rintro e vb ⟨rfl, bb⟩
  have Bb := Lib.hid (below_on Ba.out bb)
  have hb0b := Lib.hid (below_blk hb0a.out bb)
  have hb1b := Lib.hid (below_blk hb1a.out bb)
  clear bb Ba hb0a hb1a
  go_wp2_with fail
  refine (c9.out _).mono ?_
  rintro e vc ⟨rfl, bc⟩
  have Bc := Lib.hid (below_on Bb.out bc)
  have hb0 := Lib.hid (below_blk hb0b.out bc)
  have hb1 := Lib.hid (below_blk hb1b.out bc)
  clear bc Bb hb0b hb1b
  simp only []
  repeat ((fail_if_success (with_reducible refine wp_region_list ?_)); (first | go_values | go_skip | go_guarded | go_step | go_upon))
  refine wp_region_still (fun v => Below vc.heap.size vc v) (Below.refl _ _) ?_
  try simp only [List.append_eq, List.cons_append, List.nil_append]
  refine (?_ : WQ _ _ _ _ 152 _ (fl k a1 a3 w.heap.size z1)) _ (Fr.of rfl rfl ⟨rfl, rfl, rfl, rfl, rfl, rfl, rfl, rfl, rfl, rfl, rfl, rfl, rfl, rfl, rfl, rfl, rfl, rfl, trivial⟩)
  refine wq_move (.free rfl) 95 rfl (by decide) _ (.inl rfl) (.bool true) rfl ?_
  refine wq_move (.free rfl) 96 rfl (by decide) _ (.inl rfl) (.bool true) rfl ?_
  refine wq_move (.on 1 96 true rfl rfl rfl) 97 rfl (by decide) _ (.inl rfl) (.int .i64 (k : Int)) rfl ?_
  refine wq_move (.on 1 96 true rfl rfl rfl) 98 rfl (by decide) _ (.inl rfl) (.int .i64 (k : Int)) rfl ?_
  refine wq_icmp (.on 1 96 true rfl rfl rfl) 99 rfl (by decide) .eql _ _ _ _ rfl .i64 ((k : Int)) ((k : Int)) rfl rfl true (by simp) ?_
  refine wq_pick (.free rfl) 100 rfl (by decide) _ _ _ rfl true rfl (.bool true) rfl ?_
  refine wq_move (.free rfl) 101 rfl (by decide) _ (.inl rfl) (.bool true) rfl ?_
  refine wq_move (.on 6 101 true rfl rfl rfl) 102 rfl (by decide) _ (.inl rfl) (.string a3) rfl ?_
  refine wq_move (.on 6 101 true rfl rfl rfl) 103 rfl (by decide) _ (.inl rfl) (.string a3) rfl ?_
  refine wq_seq (.on 6 101 true rfl rfl rfl) 104 rfl (by decide) _ _ _ _ rfl (a3) (a3) rfl rfl true (by simp) ?_
  refine wq_pick (.free rfl) 105 rfl (by decide) _ _ _ rfl true rfl (.bool true) rfl ?_
  refine wq_move (.free rfl) 106 rfl (by decide) _ (.inl rfl) (.bool true) rfl ?_
  refine wq_move (.on 11 106 true rfl rfl rfl) 107 rfl (by decide) _ (.inl rfl) (.bool true) rfl ?_
  refine wq_pick (.free rfl) 108 rfl (by decide) _ _ _ rfl true rfl (.bool true) rfl ?_
  refine wq_move (.free rfl) 109 rfl (by decide) _ (.inl rfl) (.bool true) rfl ?_
  refine wq_move (.on 14 109 true rfl rfl rfl) 110 rfl (by decide) _ (.inl rfl) (.string a1) rfl ?_
  refine wq_move (.on 14 109 true rfl rfl rfl) 111 rfl (by decide) _ (.inl rfl) (.string a1) rfl ?_
  refine wq_seq (.on 14 109 true rfl rfl rfl) 112 rfl (by decide) _ _ _ _ rfl (a1) (a1) rfl rfl true (by simp) ?_
  refine wq_pick (.free rfl) 113 rfl (by decide) _ _ _ rfl true rfl (.bool true) rfl ?_
  refine wq_move (.free rfl) 114 rfl (by decide) _ (.inl rfl) (.bool true) rfl ?_
  refine wq_move (.on 19 114 true rfl rfl rfl) 115 rfl (by decide) _ (.inl rfl) (.string a3) rfl ?_
  refine wq_move (.on 19 114 true rfl rfl rfl) 116 rfl (by decide) _ (.inl rfl) (.string a3) rfl ?_
  refine wq_seq (.on 19 114 true rfl rfl rfl) 117 rfl (by decide) _ _ _ _ rfl (a3) (a3) rfl rfl true (by simp) ?_
  refine wq_pick (.free rfl) 118 rfl (by decide) _ _ _ rfl true rfl (.bool true) rfl ?_
  refine wq_move (.free rfl) 119 rfl (by decide) _ (.inl rfl) (.bool true) rfl ?_
  refine wq_move (.on 24 119 true rfl rfl rfl) 120 rfl (by decide) _ (.inl rfl) (.bool true) rfl ?_
  refine wq_pick (.free rfl) 121 rfl (by decide) _ _ _ rfl true rfl (.bool true) rfl ?_
  refine wq_move (.free rfl) 122 rfl (by decide) _ (.inl rfl) (.bool true) rfl ?_
  refine wq_load (.on 27 122 true rfl rfl rfl) 123 rfl (by decide) _ _ rfl _ rfl _ (row a2) _ (fun _ h => below_blk hb1.out h) Try.underlying28 rfl (info28' a2 w2'.out) ?_
  refine wq_load (.on 27 122 true rfl rfl rfl) 124 rfl (by decide) _ _ rfl _ rfl _ (row a2) _ (fun _ h => below_blk hb0.out h) Try.underlying28 rfl (info28' a2 w2'.out) ?_
  refine wq_deq (.on 27 122 true rfl rfl rfl) 125 rfl (by decide) _ _ _ _ rfl ((row a2)) ((row a2)) rfl rfl (by kernel_rfl) true (eqd.out) ?_
  refine wq_pick (.free rfl) 126 rfl (by decide) _ _ _ rfl true rfl (.bool true) rfl ?_
  refine wq_move (.free rfl) 127 rfl (by decide) _ (.inl rfl) (.bool true) rfl ?_
  refine wq_move (.on 32 127 true rfl rfl rfl) 128 rfl (by decide) _ (.inl rfl) (.string a3) rfl ?_
  refine wq_move (.on 32 127 true rfl rfl rfl) 129 rfl (by decide) _ (.inl rfl) (.string a3) rfl ?_
  refine wq_seq (.on 32 127 true rfl rfl rfl) 130 rfl (by decide) _ _ _ _ rfl (a3) (a3) rfl rfl true (by simp) ?_
  refine wq_pick (.free rfl) 131 rfl (by decide) _ _ _ rfl true rfl (.bool true) rfl ?_
  refine wq_move (.free rfl) 132 rfl (by decide) _ (.inl rfl) (.bool true) rfl ?_
  refine wq_move (.on 37 132 true rfl rfl rfl) 133 rfl (by decide) _ (.inl rfl) (.bool true) rfl ?_
  refine wq_pick (.free rfl) 134 rfl (by decide) _ _ _ rfl true rfl (.bool true) rfl ?_
  refine wq_move (.free rfl) 135 rfl (by decide) _ (.inl rfl) (.bool true) rfl ?_
  refine wq_move (.on 40 135 true rfl rfl rfl) 136 rfl (by decide) _ (.inl rfl) (.string a1) rfl ?_
  refine wq_move (.on 40 135 true rfl rfl rfl) 137 rfl (by decide) _ (.inl rfl) (.string a1) rfl ?_
  refine wq_seq (.on 40 135 true rfl rfl rfl) 138 rfl (by decide) _ _ _ _ rfl (a1) (a1) rfl rfl true (by simp) ?_
  refine wq_pick (.free rfl) 139 rfl (by decide) _ _ _ rfl true rfl (.bool true) rfl ?_
  refine wq_move (.free rfl) 140 rfl (by decide) _ (.inl rfl) (.bool true) rfl ?_
  refine wq_move (.on 45 140 true rfl rfl rfl) 141 rfl (by decide) _ (.inl rfl) (.string a3) rfl ?_
  refine wq_move (.on 45 140 true rfl rfl rfl) 142 rfl (by decide) _ (.inl rfl) (.string a3) rfl ?_
  refine wq_seq (.on 45 140 true rfl rfl rfl) 143 rfl (by decide) _ _ _ _ rfl (a3) (a3) rfl rfl true (by simp) ?_
  refine wq_pick (.free rfl) 144 rfl (by decide) _ _ _ rfl true rfl (.bool true) rfl ?_
  refine wq_move (.free rfl) 145 rfl (by decide) _ (.inl rfl) (.bool true) rfl ?_
  refine wq_move (.on 50 145 true rfl rfl rfl) 146 rfl (by decide) _ (.inl rfl) (.bool true) rfl ?_
  refine wq_pick (.free rfl) 147 rfl (by decide) _ _ _ rfl true rfl (.bool true) rfl ?_
  refine wq_move (.free rfl) 148 rfl (by decide) _ (.inl rfl) (.bool true) rfl ?_
  refine wq_move (.on 53 148 true rfl rfl rfl) 149 rfl (by decide) _ (.inl rfl) (.bool false) rfl ?_
  refine wq_not (.on 53 148 true rfl rfl rfl) 150 rfl (by decide) _ _ rfl (false) rfl (true) rfl ?_
  refine wq_pick (.free rfl) 151 rfl (by decide) _ _ _ rfl true rfl (.bool true) rfl ?_
  refine wq_move (.free rfl) 8 rfl (by decide) _ (.inr rfl) (.bool true) rfl ?_
  refine wq_nil (fun a ha => ?_)
  intro vd hd
  have hr : a.tmps.getD 8 undef = .bool true := ha.has 8 _ rfl
  have hdf := ha.none
  clear ha
  go_wp2_with fail
  refine bodyPost_tmp 8 _ rfl hr hdf ?_
  exact ⟨rfl, below_on Bc.out hd⟩
theorem walk (a0 : Int) (a1 : ByteArray) (a2 : List UInt8) (a3 : ByteArray) (w0 : (Lit.int .i64 a0).wf = true) (w1 : a1.size ≤ maxLen) (w2 : a2.length = 32) (w3 : a3.size ≤ maxLen) (w : World) :
    Calls Try.prog 5 #[.int .i64 a0, .string a1, .agg (row a2), .string a3] w fun e w' => e = .returned (.bool true) ∧ Below w.heap.size w w' := by
  by_cases h : (0 ≤ a0 ∧ a0 ≤ 1125899906842624) ∧ a1.size ≤ 300 ∧ a3.size ≤ 300
  · obtain ⟨⟨h1, h2⟩, h3, h4⟩ := h
    obtain ⟨k, rfl⟩ := Int.eq_ofNat_of_zero_le h1
    exact walkSmall k a1 a2 a3 (by omega) h3 w2 h4 w
  · have key : ∀ (b1 b2 b3 b4 : Bool), decide ((300 : Int) < (a1.size : Int)) = b1 → decide ((300 : Int) < (a3.size : Int)) = b2 → decide (a0 < 0) = b3 → decide ((1125899906842624 : Int) < a0) = b4 → (b1 || b2 || b3 || b4) = true →
        Calls Try.prog 5 #[.int .i64 a0, .string a1, .agg (row a2), .string a3] w fun e w' => e = .returned (.bool true) ∧ Below w.heap.size w w' := by
      intro b1 b2 b3 b4 t1 t2 t3 t4 hb
      clear h w0 w1 w2 w3
      cases b1
      · cases b2
        · cases b3
          · cases b4
            · cases hb
            · clear hb
              go_enter Try.func5, Try.ntmps5
              go_wp2_with fail
              refine (works_any _).mono ?_
              rintro e v1 ⟨rfl, b1⟩
              have B1 := Lib.hid (first_below b1)
              clear b1
              go_wp2_with fail
              go_ret
              exact ⟨rfl, B1.out⟩
          · clear hb t4
            go_enter Try.func5, Try.ntmps5
            go_wp2_with fail
            refine (works_any _).mono ?_
            rintro e v1 ⟨rfl, b1⟩
            have B1 := Lib.hid (first_below b1)
            clear b1
            go_wp2_with fail
            go_ret
            exact ⟨rfl, B1.out⟩
        · clear hb t4 t3
          go_enter Try.func5, Try.ntmps5
          go_wp2_with fail
          refine (works_any _).mono ?_
          rintro e v1 ⟨rfl, b1⟩
          have B1 := Lib.hid (first_below b1)
          clear b1
          go_wp2_with fail
          go_ret
          exact ⟨rfl, B1.out⟩
      · clear hb t4 t3 t2
        go_enter Try.func5, Try.ntmps5
        go_wp2_with fail
        refine (works_any _).mono ?_
        rintro e v1 ⟨rfl, b1⟩
        have B1 := Lib.hid (first_below b1)
        clear b1
        go_wp2_with fail
        go_ret
        exact ⟨rfl, B1.out⟩
    refine key _ _ _ _ rfl rfl rfl rfl ?_
    simp only [Bool.or_eq_true, decide_eq_true_eq]
    omega

set_option maxRecDepth 100000 in
theorem lifted (os : Os) (started : os.Started) (H : Type) (enc : TypeId × Value → H) :
    ReturnsInHanded {} Try.checked os 5 .any (Rows.wireBackSpec.pre6 enc Try.prog Try.f5 Rows.wireBackRow.domain false) (Rows.wireBackSpec.post enc Try.prog Try.f5 false true false false) := by
  refine returnsInHanded_of_change (C := Try.checked) own started (by kernel_rfl) Try.func5
    (ChangeSpec.witness6 (enc := enc) (C := Try.checked) false ⟨#[], #[.int .i64 0, .string ByteArray.empty, .agg #[.int .u8 0, .int .u8 0, .int .u8 0, .int .u8 0, .int .u8 0, .int .u8 0, .int .u8 0, .int .u8 0, .int .u8 0, .int .u8 0, .int .u8 0, .int .u8 0, .int .u8 0, .int .u8 0, .int .u8 0, .int .u8 0, .int .u8 0, .int .u8 0, .int .u8 0, .int .u8 0, .int .u8 0, .int .u8 0, .int .u8 0, .int .u8 0, .int .u8 0, .int .u8 0, .int .u8 0, .int .u8 0, .int .u8 0, .int .u8 0, .int .u8 0, .int .u8 0], .string ByteArray.empty], []⟩ 8 (by kernel_rfl) (by kernel_rfl) (by kernel_rfl) (by kernel_rfl)) ?_
  intro W base args ds gs before hval0 hW hcnd _
  have hval : ∀ (j : Nat) t v, Try.f5.params[j]? = some t → args[j]? = some v → Value.okWide Try.prog W .any base t v := hval0
  have hW' := hW
  obtain ⟨p, q, hA0, hV, rfl, hfz, hnd⟩ := hW
  have hA : DataW.TrodAll enc Try.prog W 0 (fun _ => true) true Try.f5.params.toList args.toList ds p := hA0
  rw [Try.params5] at hA hval
  obtain ⟨v0, vs0, d0, ds0, p0, q0, hargs, rfl, rfl, h0, r0⟩ := trodAll_cons hA
  obtain ⟨v1, vs1, d1, ds1, p1, q1, rfl, rfl, rfl, h1, r1⟩ := trodAll_cons r0
  obtain ⟨v2, vs2, d2, ds2, p2, q2, rfl, rfl, rfl, h2, r2⟩ := trodAll_cons r1
  obtain ⟨v3, vs3, d3, ds3, p3, q3, rfl, rfl, rfl, h3, r3⟩ := trodAll_cons r2
  obtain ⟨rfl, rfl, rfl⟩ := trodAll_nil r3
  obtain rfl : args = #[v0, v1, v2, v3] := by cases args; simp_all
  obtain ⟨rfl, rfl⟩ := trodVars_none hV
  obtain ⟨a0, rfl, rfl, rfl, w0⟩ := open_int Try.underlying3 (hval 0 3 v0 rfl rfl) h0
  obtain ⟨a1, rfl, rfl, rfl, w1⟩ := open_string Try.underlying9 (hval 1 9 v1 rfl rfl) h1
  obtain ⟨a2, rfl, rfl, rfl, w2⟩ := open_dig (hval 2 28 v2 rfl rfl) h2
  obtain ⟨a3, rfl, rfl, rfl, w3⟩ := open_string Try.underlying9 (hval 3 9 v3 rfl rfl) h3
  clear hA0 hval0
  simp only [List.append_nil] at hW'
  refine (walk a0 a1 a2 a3 w0 w1 w2 w3 W).mono fun e W' ⟨he, bel⟩ => ?_
  subst he
  exact ⟨_, rfl, _, _, _, [], [], [], hW', (trodAll_cons_mk (shut_bool Try.underlying4 _) trodAll_mk0), (trodAll_cons_mk (shut_int Try.underlying3 w0) (trodAll_cons_mk (shut_string Try.underlying9 w1) (trodAll_cons_mk (shut_dig w2) (trodAll_cons_mk (shut_string Try.underlying9 w3) trodAll_mk0)))), rfl, bel.frame _, fun h => by cases h⟩

theorem over : Rows.wireBackRow.holds Try.pinned (OpenSpec.ofChange Rows.wireBackSpec) :=
  OpenClaim.holds_of_wide 5 Try.f5 rfl rfl rfl rfl rfl rfl rfl ⟨rfl, rfl, rfl, rfl, rfl⟩ rfl rfl rfl rfl rfl (by kernel_rfl) Try.func5 (by kernel_rfl)
    (of_decide_eq_true (by kernel_rfl)) (by unfold Func.isWrapper; first | (rw [if_pos (by decide +kernel)]; kernel_rfl) | (rw [if_neg (by decide +kernel)]; exact ⟨rfl, rfl⟩))
    (fun os started H enc _ => lifted os started H enc)

/-- The given statement. -/
theorem wireBack_proved : Rows.WireBackSaid :=
  over
#print axioms wireBack_proved
end Go.Proofs.Ytgaggncepknafaa.wireBack
