/-
  For every two texts, number and digest WireTexts returns true: the bytes of any text, digest and frame, and those that any bytes begin with, are what the document says.
  Conditions: none beyond the given statement's own.
-/
import Derived.Test.YtgaggncepknafaaRows
import Derived.Test.YtgaggncepknafaaWorks
import Derived.Test.YtgaggncepknafaaFacts
import Derived.Test.YtgaggncepknafaaRsum
import Derived.WalkKit
import Derived.ProofKit
import Derived.OpenShut
import Derived.ShutString
import Derived.ChangeOld
import Derived.Below
namespace Go.Proofs.Ytgaggncepknafaa.wireTexts
open Go.ChangeShapes Go.WideShapes Go.ChangeAt Go.RowKit
open Go.ChangeMaps (open_string shut_string)
set_option linter.unusedVariables false

theorem own : ownKnob Try.prog.godebug = none := by kernel_rfl

theorem ent22 : ∀ args w, (callFunc 22 args).run Try.prog w = .ok (.enter 22 args) w := enters_of Try.func22 (by kernel_rfl) rfl
theorem ent24 : ∀ args w, (callFunc 24 args).run Try.prog w = .ok (.enter 24 args) w := enters_of Try.func24 (by kernel_rfl) rfl
theorem ent25 : ∀ args w, (callFunc 25 args).run Try.prog w = .ok (.enter 25 args) w := enters_of Try.func25 (by kernel_rfl) rfl
theorem ent26 : ∀ args w, (callFunc 26 args).run Try.prog w = .ok (.enter 26 args) w := enters_of Try.func26 (by kernel_rfl) rfl
theorem ent27 : ∀ args w, (callFunc 27 args).run Try.prog w = .ok (.enter 27 args) w := enters_of Try.func27 (by kernel_rfl) rfl
theorem z28_row (d : List UInt8) (hd : d.length = 32) : z28.size = (row d).size := by rw [row_size, hd]; rfl
/-- What is known of the frame at the last two statements. -/
def fl1 (a0 : ByteArray) (z0 : Nat) (t1 r1 : ByteArray) (p1 : Bool) (z1 : Nat) (r2 : ByteArray) (p2 : Bool) (z2 : Nat) (t3 r3 : ByteArray) (p3 : Bool) : List (Nat × Value) :=
  [(0, .string a0), (7, .pointer (some ⟨z0, 0, none⟩)), (9, .bool true), (10, .string t1), (11, .string r1), (12, .bool p1), (13, .string t1), (14, .string r1), (15, .bool p1), (16, .pointer (some ⟨z1, 0, none⟩)), (17, .string r2), (18, .bool p2), (19, .pointer (some ⟨z2, 0, none⟩)), (20, .string r2), (21, .bool p2), (22, .string t3), (23, .string r3), (24, .bool p3), (25, .string t3), (26, .string r3), (27, .bool p3)]
def fl2 (t1 r1 : ByteArray) (p1 : Bool) (z1 : Nat) (r2 : ByteArray) (p2 : Bool) (z2 : Nat) (t3 r3 : ByteArray) (p3 : Bool) : List (Nat × Value) :=
  [(9, .bool true), (10, .string t1), (11, .string r1), (12, .bool p1), (13, .string t1), (14, .string r1), (15, .bool p1), (16, .pointer (some ⟨z1, 0, none⟩)), (17, .string r2), (18, .bool p2), (19, .pointer (some ⟨z2, 0, none⟩)), (20, .string r2), (21, .bool p2), (22, .string t3), (23, .string r3), (24, .bool p3), (25, .string t3), (26, .string r3), (27, .bool p3), (28, .bool true)]
theorem texts (l : List UInt8) (most : Int) : ∃ t r p, tR l most = .tuple #[.string t, .string r, .bool p] := by
  cases h : gt l most with
  | none => exact ⟨_, _, _, tR_none h⟩
  | some q => exact ⟨_, _, _, tR_some (t := q.1) (r := q.2) h⟩
theorem frames (l : List UInt8) : ∃ t r p, fR l = .tuple #[.string t, .string r, .bool p] := by
  cases h : gf l with
  | none => exact ⟨_, _, _, fR_none h⟩
  | some q => exact ⟨_, _, _, fR_some (t := q.1) (r := q.2) h⟩
theorem sums (l : List UInt8) : ∃ d r p, sR l = .tuple #[.agg (row d), .string r, .bool p] ∧ Hid (d.length = 32) := by
  cases h : gs l with
  | none => exact ⟨List.replicate 32 0, _, _, sR_none h, rfl⟩
  | some q =>
    have h' := h
    unfold gs at h'
    split at h'
    · rename_i hl
      cases h'
      exact ⟨_, _, _, sR_some h, by show _ = _; rw [List.length_take]; omega⟩
    · cases h'
theorem Fr.only {N : Nat} {L : List (Nat × Value)} {a : Act} (h : Fr N L a) (L' : List (Nat × Value)) (h' : HasAll a L') : Fr N L' a := Fr.of h.size h.none h'

set_option maxHeartbeats 2000000 in
set_option maxRecDepth 100000 in
theorem walkSmall (a0 a1 : ByteArray) (a2 : Int) (a3 : List UInt8) (h0 : a0.size ≤ 300) (h1 : a1.size ≤ 300) (w3 : a3.length = 32) (w : World) :
    Calls Try.prog 4 #[.string a0, .string a1, .int .i64 a2, .agg (row a3)] w fun e w' => e = .returned (.bool true) ∧ Below w.heap.size w w' := by
  have t0 : decide ((300 : Int) < (a1.size : Int)) = false := by simp; omega
  have t1' : decide ((300 : Int) < (a0.size : Int)) = false := by simp; omega
  obtain ⟨t1, r1, p1, e1⟩ := texts (li a1) a2
  obtain ⟨d, r2, p2, e2, hd⟩ := sums (li a1)
  obtain ⟨t3, r3, p3, e3⟩ := frames (li a1)
  have c1 := Lib.hid (fun v => getText_any a1 (by omega) a2 v)
  have c2 := Lib.hid (fun v => rgetText_any a1 (by omega) a2 v)
  have c3 := Lib.hid (fun v => getSum_any a1 v)
  have c4 := Lib.hid (fun v => rgetSum_any a1 (by omega) v)
  have c5 := Lib.hid (fun v => getFrame_any a1 (by omega) v)
  have c6 := Lib.hid (fun v => rgetFrame_any a1 (by omega) v)
  rw [e1] at c1 c2
  rw [e2] at c3 c4
  rw [e3] at c5 c6
  have c10 := Lib.hid (fun v => text_any a0 (by omega) v)
  have c11 := Lib.hid (fun v => rtext_any a0 (by omega) v)
  have c12 := Lib.hid (fun v => sum_any a3 w3 v)
  have c13 := Lib.hid (fun v => rsum_any a3 w3 v)
  have c14 := Lib.hid (fun v => frame_any a0 (by omega) v)
  have c15 := Lib.hid (fun v => rframe_any a0 (by omega) v)
  have eqd : Hid (∀ v, (Op.equalIn 10000 28 (.agg (row d)) (.agg (row d))).run Try.prog v = .ok true v) := fun v => by rw [eql_dig _ _ hd.out hd.out]; simp
  have w3h := Lib.hid w3
  revert c10 c11 c12 c13 c14 c15
  generalize mk (text (li a0)) = N1
  generalize mk a3 = N2
  generalize mk (frame (li a0)) = N3
  intro c10 c11 c12 c13 c14 c15
  clear h0 h1 w3 e1 e2 e3
  go_enter Try.func4, Try.ntmps4
  go_wp2_with fail
  refine (works_any _).mono ?_
  rintro e v1 ⟨rfl, b1⟩
  have hb01 := Lib.hid (first_kept b1)
  have B1 := Lib.hid (first_below b1)
  clear b1
  go_wp2_with fail
  refine (c1.out _).mono ?_
  rintro e v2 ⟨rfl, b2⟩
  have B2 := Lib.hid (below_on B1.out b2)
  have hb02 := Lib.hid (below_blk hb01.out b2)
  clear b2 B1 hb01
  go_wp2_with fail
  refine (c2.out _).mono ?_
  rintro e v3 ⟨rfl, b3⟩
  have B3 := Lib.hid (below_on B2.out b3)
  have hb03 := Lib.hid (below_blk hb02.out b3)
  clear b3 B2 hb02
  go_wp2_with fail
  refine (c3.out _).mono ?_
  rintro e v4 ⟨rfl, b4⟩
  have B4 := Lib.hid (below_on B3.out b4)
  have hb04 := Lib.hid (below_blk hb03.out b4)
  clear b4 B3 hb03
  go_wp2_with (with_reducible refine wpList_store_row rfl 28 (.tmp 16) (.tmp 58) rfl _ (row d) rfl rfl 28 z28 ?hg4 (info28' d hd.out) (z28_row d hd.out) (row_one _) ?_)
  case hg4 => rw [z28_eq, heap_alloc_if, if_pos rfl]
  rw [z28_eq, World.setRow_alloc_new]
  have hb15 : Hid ((v4.alloc (.cells (row d) 28)).heap[v4.heap.size]? = some (.cells (row d) 28)) := by show _ = _; rw [heap_alloc_if, if_pos rfl]
  have hb05 : Hid ((v4.alloc (.cells (row d) 28)).heap[w.heap.size]? = some (.cells (row a3) 28)) := past_alloc hb04.out
  have B5 := Lib.hid (B4.out.alloc B4.out.size (.cells (row d) 28))
  revert hb15 hb05 B5
  generalize v4.alloc (.cells (row d) 28) = v5
  generalize v4.heap.size = z1
  intro hb15 hb05 B5
  clear B4 hb04
  go_wp2_with fail
  refine (c4.out _).mono ?_
  rintro e v6 ⟨rfl, b6⟩
  have B6 := Lib.hid (below_on B5.out b6)
  have hb06 := Lib.hid (below_blk hb05.out b6)
  have hb16 := Lib.hid (below_blk hb15.out b6)
  clear b6 B5 hb05 hb15
  go_wp2_with (with_reducible refine wpList_store_row rfl 28 (.tmp 19) (.tmp 64) rfl _ (row d) rfl rfl 28 z28 ?hg6 (info28' d hd.out) (z28_row d hd.out) (row_one _) ?_)
  case hg6 => rw [z28_eq, heap_alloc_if, if_pos rfl]
  rw [z28_eq, World.setRow_alloc_new]
  have hb27 : Hid ((v6.alloc (.cells (row d) 28)).heap[v6.heap.size]? = some (.cells (row d) 28)) := by show _ = _; rw [heap_alloc_if, if_pos rfl]
  have hb07 : Hid ((v6.alloc (.cells (row d) 28)).heap[w.heap.size]? = some (.cells (row a3) 28)) := past_alloc hb06.out
  have hb17 : Hid ((v6.alloc (.cells (row d) 28)).heap[z1]? = some (.cells (row d) 28)) := past_alloc hb16.out
  have B7 := Lib.hid (B6.out.alloc B6.out.size (.cells (row d) 28))
  revert hb27 hb07 hb17 B7
  generalize v6.alloc (.cells (row d) 28) = v7
  generalize v6.heap.size = z2
  intro hb27 hb07 hb17 B7
  clear B6 hb06 hb16
  go_wp2_with fail
  refine (c5.out _).mono ?_
  rintro e v8 ⟨rfl, b8⟩
  have B8 := Lib.hid (below_on B7.out b8)
  have hb08 := Lib.hid (below_blk hb07.out b8)
  have hb18 := Lib.hid (below_blk hb17.out b8)
  have hb28 := Lib.hid (below_blk hb27.out b8)
  clear b8 B7 hb07 hb17 hb27
  go_wp2_with fail
  refine (c6.out _).mono ?_
  rintro e v9 ⟨rfl, b9⟩
  have B9 := Lib.hid (below_on B8.out b9)
  have hb09 := Lib.hid (below_blk hb08.out b9)
  have hb19 := Lib.hid (below_blk hb18.out b9)
  have hb29 := Lib.hid (below_blk hb28.out b9)
  clear b9 B8 hb08 hb18 hb28
  go_wp2_with (refine park_region (fun Pk hX => ?_))
  refine hX.out ?_
  clear hX
  have hb0 : Hid (v9.drew.heap[w.heap.size]? = some (.cells (row a3) 28)) := hb09.out
  have hb1' : Hid (v9.drew.heap[z1]? = some (.cells (row d) 28)) := hb19.out
  have hb2' : Hid (v9.drew.heap[z2]? = some (.cells (row d) 28)) := hb29.out
  have BB := Lib.hid B9.out.drew
  clear hb09 hb19 hb29 B9
  refine wp_region_class (fun v => Below v9.drew.heap.size v9.drew v) (by kernel_rfl) (by kernel_rfl) (Below.refl _ _) ?_
  try simp only [List.append_eq, List.cons_append, List.nil_append]
  refine (?_ : WQ _ _ _ _ 147 _ (fl1 a0 w.heap.size t1 r1 p1 z1 r2 p2 z2 t3 r3 p3)) _ (Fr.of rfl rfl ⟨rfl, rfl, rfl, rfl, rfl, rfl, rfl, rfl, rfl, rfl, rfl, rfl, rfl, rfl, rfl, rfl, rfl, rfl, rfl, rfl, rfl, trivial⟩)
  refine wq_move (.free rfl) 79 rfl (by decide) _ (.inl rfl) (.string a0) rfl ?_
  refine wq_call (.free rfl) 80 rfl (by decide) 22 _ _ rfl ent22 [.string a0] rfl (.string N1) (below_call c10.out) ?_
  refine wq_move (.free rfl) 81 rfl (by decide) _ (.inl rfl) (.string a0) rfl ?_
  refine wq_call (.free rfl) 82 rfl (by decide) 23 _ _ rfl ent23 [.string a0] rfl (.string N1) (below_call c11.out) ?_
  refine wq_seq (.free rfl) 83 rfl (by decide) _ _ _ _ rfl (N1) (N1) rfl rfl true (by simp) ?_
  refine wq_move (.free rfl) 84 rfl (by decide) _ (.inl rfl) (.bool true) rfl ?_
  refine wq_load (.on 5 84 true rfl rfl rfl) 85 rfl (by decide) _ _ rfl _ rfl _ (row a3) _ (fun _ h => below_blk hb0.out h) Try.underlying28 rfl (info28' a3 w3h.out) ?_
  refine wq_call (.on 5 84 true rfl rfl rfl) 86 rfl (by decide) 24 _ _ rfl ent24 [.agg (row a3)] rfl (.string N2) (below_call c12.out) ?_
  refine wq_load (.on 5 84 true rfl rfl rfl) 87 rfl (by decide) _ _ rfl _ rfl _ (row a3) _ (fun _ h => below_blk hb0.out h) Try.underlying28 rfl (info28' a3 w3h.out) ?_
  refine wq_call (.on 5 84 true rfl rfl rfl) 88 rfl (by decide) 25 _ _ rfl ent25 [.agg (row a3)] rfl (.string N2) (below_call c13.out) ?_
  refine wq_seq (.on 5 84 true rfl rfl rfl) 89 rfl (by decide) _ _ _ _ rfl (N2) (N2) rfl rfl true (by simp) ?_
  refine wq_pick (.free rfl) 90 rfl (by decide) _ _ _ rfl true rfl (.bool true) rfl ?_
  refine wq_move (.free rfl) 91 rfl (by decide) _ (.inl rfl) (.bool true) rfl ?_
  refine wq_move (.on 12 91 true rfl rfl rfl) 92 rfl (by decide) _ (.inl rfl) (.string a0) rfl ?_
  refine wq_call (.on 12 91 true rfl rfl rfl) 93 rfl (by decide) 26 _ _ rfl ent26 [.string a0] rfl (.string N3) (below_call c14.out) ?_
  refine wq_move (.on 12 91 true rfl rfl rfl) 94 rfl (by decide) _ (.inl rfl) (.string a0) rfl ?_
  refine wq_call (.on 12 91 true rfl rfl rfl) 95 rfl (by decide) 27 _ _ rfl ent27 [.string a0] rfl (.string N3) (below_call c15.out) ?_
  refine wq_seq (.on 12 91 true rfl rfl rfl) 96 rfl (by decide) _ _ _ _ rfl (N3) (N3) rfl rfl true (by simp) ?_
  refine wq_pick (.free rfl) 97 rfl (by decide) _ _ _ rfl true rfl (.bool true) rfl ?_
  refine wq_move (.free rfl) 28 rfl (by decide) _ (.inr rfl) (.bool true) rfl ?_
  refine wq_nil (fun a ha => ?_)
  intro va ha'
  have hF : Fr 147 (fl2 t1 r1 p1 z1 r2 p2 z2 t3 r3 p3) a := Fr.of ha.size ha.none ⟨ha.has 9 _ rfl, ha.has 10 _ rfl, ha.has 11 _ rfl, ha.has 12 _ rfl, ha.has 13 _ rfl, ha.has 14 _ rfl, ha.has 15 _ rfl, ha.has 16 _ rfl, ha.has 17 _ rfl, ha.has 18 _ rfl, ha.has 19 _ rfl, ha.has 20 _ rfl, ha.has 21 _ rfl, ha.has 22 _ rfl, ha.has 23 _ rfl, ha.has 24 _ rfl, ha.has 25 _ rfl, ha.has 26 _ rfl, ha.has 27 _ rfl, ha.has 28 _ rfl, trivial⟩
  have hb1 := Lib.hid (below_blk hb1'.out ha')
  have hb2 := Lib.hid (below_blk hb2'.out ha')
  have BC := Lib.hid (below_on BB.out ha')
  clear ha ha' hb0 hb1' hb2' BB
  repeat ((fail_if_success (with_reducible refine wp_region_list ?_)); (first | go_values | go_skip | go_guarded | go_step | go_upon))
  refine wp_region_still (fun v => Below va.heap.size va v) (Below.refl _ _) ?_
  try simp only [List.append_eq, List.cons_append, List.nil_append]
  refine (?_ : WQ _ _ _ _ 147 _ (fl2 t1 r1 p1 z1 r2 p2 z2 t3 r3 p3)) _ hF
  clear hF
  refine wq_move (.free rfl) 98 rfl (by decide) _ (.inl rfl) (.bool true) rfl ?_
  refine wq_move (.free rfl) 99 rfl (by decide) _ (.inl rfl) (.bool true) rfl ?_
  refine wq_move (.on 1 99 true rfl rfl rfl) 100 rfl (by decide) _ (.inl rfl) (.bool true) rfl ?_
  refine wq_pick (.free rfl) 101 rfl (by decide) _ _ _ rfl true rfl (.bool true) rfl ?_
  refine wq_move (.free rfl) 102 rfl (by decide) _ (.inl rfl) (.bool true) rfl ?_
  refine wq_move (.on 4 102 true rfl rfl rfl) 103 rfl (by decide) _ (.inl rfl) (.string t1) rfl ?_
  refine wq_move (.on 4 102 true rfl rfl rfl) 104 rfl (by decide) _ (.inl rfl) (.string t1) rfl ?_
  refine wq_seq (.on 4 102 true rfl rfl rfl) 105 rfl (by decide) _ _ _ _ rfl (t1) (t1) rfl rfl true (by simp) ?_
  refine wq_pick (.free rfl) 106 rfl (by decide) _ _ _ rfl true rfl (.bool true) rfl ?_
  refine wq_move (.free rfl) 107 rfl (by decide) _ (.inl rfl) (.bool true) rfl ?_
  refine wq_move (.on 9 107 true rfl rfl rfl) 108 rfl (by decide) _ (.inl rfl) (.string r1) rfl ?_
  refine wq_move (.on 9 107 true rfl rfl rfl) 109 rfl (by decide) _ (.inl rfl) (.string r1) rfl ?_
  refine wq_seq (.on 9 107 true rfl rfl rfl) 110 rfl (by decide) _ _ _ _ rfl (r1) (r1) rfl rfl true (by simp) ?_
  refine wq_pick (.free rfl) 111 rfl (by decide) _ _ _ rfl true rfl (.bool true) rfl ?_
  refine wq_move (.free rfl) 112 rfl (by decide) _ (.inl rfl) (.bool true) rfl ?_
  refine wq_move (.on 14 112 true rfl rfl rfl) 113 rfl (by decide) _ (.inl rfl) (.bool p1) rfl ?_
  refine wq_move (.on 14 112 true rfl rfl rfl) 114 rfl (by decide) _ (.inl rfl) (.bool p1) rfl ?_
  refine wq_beq (.on 14 112 true rfl rfl rfl) 115 rfl (by decide) _ _ _ _ rfl (p1) (p1) rfl rfl Try.underlying4 true (by simp) ?_
  refine wq_pick (.free rfl) 116 rfl (by decide) _ _ _ rfl true rfl (.bool true) rfl ?_
  refine wq_move (.free rfl) 117 rfl (by decide) _ (.inl rfl) (.bool true) rfl ?_
  refine wq_load (.on 19 117 true rfl rfl rfl) 118 rfl (by decide) _ _ rfl _ rfl _ (row d) _ (fun _ h => below_blk hb1.out h) Try.underlying28 rfl (info28' d hd.out) ?_
  refine wq_load (.on 19 117 true rfl rfl rfl) 119 rfl (by decide) _ _ rfl _ rfl _ (row d) _ (fun _ h => below_blk hb2.out h) Try.underlying28 rfl (info28' d hd.out) ?_
  refine wq_deq (.on 19 117 true rfl rfl rfl) 120 rfl (by decide) _ _ _ _ rfl ((row d)) ((row d)) rfl rfl (by kernel_rfl) true (eqd.out) ?_
  refine wq_pick (.free rfl) 121 rfl (by decide) _ _ _ rfl true rfl (.bool true) rfl ?_
  refine wq_move (.free rfl) 122 rfl (by decide) _ (.inl rfl) (.bool true) rfl ?_
  refine wq_move (.on 24 122 true rfl rfl rfl) 123 rfl (by decide) _ (.inl rfl) (.string r2) rfl ?_
  refine wq_move (.on 24 122 true rfl rfl rfl) 124 rfl (by decide) _ (.inl rfl) (.string r2) rfl ?_
  refine wq_seq (.on 24 122 true rfl rfl rfl) 125 rfl (by decide) _ _ _ _ rfl (r2) (r2) rfl rfl true (by simp) ?_
  refine wq_pick (.free rfl) 126 rfl (by decide) _ _ _ rfl true rfl (.bool true) rfl ?_
  refine wq_move (.free rfl) 127 rfl (by decide) _ (.inl rfl) (.bool true) rfl ?_
  refine wq_move (.on 29 127 true rfl rfl rfl) 128 rfl (by decide) _ (.inl rfl) (.bool p2) rfl ?_
  refine wq_move (.on 29 127 true rfl rfl rfl) 129 rfl (by decide) _ (.inl rfl) (.bool p2) rfl ?_
  refine wq_beq (.on 29 127 true rfl rfl rfl) 130 rfl (by decide) _ _ _ _ rfl (p2) (p2) rfl rfl Try.underlying4 true (by simp) ?_
  refine wq_pick (.free rfl) 131 rfl (by decide) _ _ _ rfl true rfl (.bool true) rfl ?_
  refine wq_move (.free rfl) 132 rfl (by decide) _ (.inl rfl) (.bool true) rfl ?_
  refine wq_move (.on 34 132 true rfl rfl rfl) 133 rfl (by decide) _ (.inl rfl) (.string t3) rfl ?_
  refine wq_move (.on 34 132 true rfl rfl rfl) 134 rfl (by decide) _ (.inl rfl) (.string t3) rfl ?_
  refine wq_seq (.on 34 132 true rfl rfl rfl) 135 rfl (by decide) _ _ _ _ rfl (t3) (t3) rfl rfl true (by simp) ?_
  refine wq_pick (.free rfl) 136 rfl (by decide) _ _ _ rfl true rfl (.bool true) rfl ?_
  refine wq_move (.free rfl) 137 rfl (by decide) _ (.inl rfl) (.bool true) rfl ?_
  refine wq_move (.on 39 137 true rfl rfl rfl) 138 rfl (by decide) _ (.inl rfl) (.string r3) rfl ?_
  refine wq_move (.on 39 137 true rfl rfl rfl) 139 rfl (by decide) _ (.inl rfl) (.string r3) rfl ?_
  refine wq_seq (.on 39 137 true rfl rfl rfl) 140 rfl (by decide) _ _ _ _ rfl (r3) (r3) rfl rfl true (by simp) ?_
  refine wq_pick (.free rfl) 141 rfl (by decide) _ _ _ rfl true rfl (.bool true) rfl ?_
  refine wq_move (.free rfl) 142 rfl (by decide) _ (.inl rfl) (.bool true) rfl ?_
  refine wq_move (.on 44 142 true rfl rfl rfl) 143 rfl (by decide) _ (.inl rfl) (.bool p3) rfl ?_
  refine wq_move (.on 44 142 true rfl rfl rfl) 144 rfl (by decide) _ (.inl rfl) (.bool p3) rfl ?_
  refine wq_beq (.on 44 142 true rfl rfl rfl) 145 rfl (by decide) _ _ _ _ rfl (p3) (p3) rfl rfl Try.underlying4 true (by simp) ?_
  refine wq_pick (.free rfl) 146 rfl (by decide) _ _ _ rfl true rfl (.bool true) rfl ?_
  refine wq_move (.free rfl) 8 rfl (by decide) _ (.inr rfl) (.bool true) rfl ?_
  refine wq_nil (fun a ha => ?_)
  intro vb hb
  have hr : a.tmps.getD 8 undef = .bool true := ha.has 8 _ rfl
  have hdf := ha.none
  clear ha
  go_wp2_with fail
  refine bodyPost_tmp 8 _ rfl hr hdf ?_
  exact ⟨rfl, below_on BC.out hb⟩
theorem walk (a0 a1 : ByteArray) (a2 : Int) (a3 : List UInt8) (w0 : a0.size ≤ maxLen) (w1 : a1.size ≤ maxLen) (w2 : (Lit.int .i64 a2).wf = true) (w3 : a3.length = 32) (w : World) :
    Calls Try.prog 4 #[.string a0, .string a1, .int .i64 a2, .agg (row a3)] w fun e w' => e = .returned (.bool true) ∧ Below w.heap.size w w' := by
  by_cases h1 : a1.size ≤ 300
  · by_cases h0 : a0.size ≤ 300
    · exact walkSmall a0 a1 a2 a3 h0 h1 w3 w
    · have t0 : decide ((300 : Int) < (a1.size : Int)) = false := by simp; omega
      have t1 : decide ((300 : Int) < (a0.size : Int)) = true := by simp; omega
      clear w0 w1 w2 w3 h0 h1
      go_enter Try.func4, Try.ntmps4
      go_wp2_with fail
      refine (works_any _).mono ?_
      rintro e v1 ⟨rfl, b1⟩
      have B1 := Lib.hid (first_below b1)
      clear b1
      go_wp2_with fail
      go_ret
      exact ⟨rfl, B1.out⟩
  · have t0 : decide ((300 : Int) < (a1.size : Int)) = true := by simp; omega
    clear w0 w1 w2 w3 h1
    go_enter Try.func4, Try.ntmps4
    go_wp2_with fail
    refine (works_any _).mono ?_
    rintro e v1 ⟨rfl, b1⟩
    have B1 := Lib.hid (first_below b1)
    clear b1
    go_wp2_with fail
    go_ret
    exact ⟨rfl, B1.out⟩

set_option maxRecDepth 100000 in
theorem lifted (os : Os) (started : os.Started) (H : Type) (enc : TypeId × Value → H) :
    ReturnsInHanded {} Try.checked os 4 .any (Rows.wireTextsSpec.pre6 enc Try.prog Try.f4 Rows.wireTextsRow.domain false) (Rows.wireTextsSpec.post enc Try.prog Try.f4 false true false false) := by
  refine returnsInHanded_of_change (C := Try.checked) own started (by kernel_rfl) Try.func4
    (ChangeSpec.witness6 (enc := enc) (C := Try.checked) false ⟨#[], #[.string ByteArray.empty, .string ByteArray.empty, .int .i64 0, .agg #[.int .u8 0, .int .u8 0, .int .u8 0, .int .u8 0, .int .u8 0, .int .u8 0, .int .u8 0, .int .u8 0, .int .u8 0, .int .u8 0, .int .u8 0, .int .u8 0, .int .u8 0, .int .u8 0, .int .u8 0, .int .u8 0, .int .u8 0, .int .u8 0, .int .u8 0, .int .u8 0, .int .u8 0, .int .u8 0, .int .u8 0, .int .u8 0, .int .u8 0, .int .u8 0, .int .u8 0, .int .u8 0, .int .u8 0, .int .u8 0, .int .u8 0, .int .u8 0]], []⟩ 8 (by kernel_rfl) (by kernel_rfl) (by kernel_rfl) (by kernel_rfl)) ?_
  intro W base args ds gs before hval0 hW hcnd _
  have hval : ∀ (j : Nat) t v, Try.f4.params[j]? = some t → args[j]? = some v → Value.okWide Try.prog W .any base t v := hval0
  have hW' := hW
  obtain ⟨p, q, hA0, hV, rfl, hfz, hnd⟩ := hW
  have hA : DataW.TrodAll enc Try.prog W 0 (fun _ => true) true Try.f4.params.toList args.toList ds p := hA0
  rw [Try.params4] at hA hval
  obtain ⟨v0, vs0, d0, ds0, p0, q0, hargs, rfl, rfl, h0, r0⟩ := trodAll_cons hA
  obtain ⟨v1, vs1, d1, ds1, p1, q1, rfl, rfl, rfl, h1, r1⟩ := trodAll_cons r0
  obtain ⟨v2, vs2, d2, ds2, p2, q2, rfl, rfl, rfl, h2, r2⟩ := trodAll_cons r1
  obtain ⟨v3, vs3, d3, ds3, p3, q3, rfl, rfl, rfl, h3, r3⟩ := trodAll_cons r2
  obtain ⟨rfl, rfl, rfl⟩ := trodAll_nil r3
  obtain rfl : args = #[v0, v1, v2, v3] := by cases args; simp_all
  obtain ⟨rfl, rfl⟩ := trodVars_none hV
  obtain ⟨a0, rfl, rfl, rfl, w0⟩ := open_string Try.underlying9 (hval 0 9 v0 rfl rfl) h0
  obtain ⟨a1, rfl, rfl, rfl, w1⟩ := open_string Try.underlying9 (hval 1 9 v1 rfl rfl) h1
  obtain ⟨a2, rfl, rfl, rfl, w2⟩ := open_int Try.underlying3 (hval 2 3 v2 rfl rfl) h2
  obtain ⟨a3, rfl, rfl, rfl, w3⟩ := open_dig (hval 3 28 v3 rfl rfl) h3
  clear hA0 hval0
  simp only [List.append_nil] at hW'
  refine (walk a0 a1 a2 a3 w0 w1 w2 w3 W).mono fun e W' ⟨he, bel⟩ => ?_
  subst he
  exact ⟨_, rfl, _, _, _, [], [], [], hW', (trodAll_cons_mk (shut_bool Try.underlying4 _) trodAll_mk0), (trodAll_cons_mk (shut_string Try.underlying9 w0) (trodAll_cons_mk (shut_string Try.underlying9 w1) (trodAll_cons_mk (shut_int Try.underlying3 w2) (trodAll_cons_mk (shut_dig w3) trodAll_mk0)))), rfl, bel.frame _, fun h => by cases h⟩

theorem over : Rows.wireTextsRow.holds Try.pinned (OpenSpec.ofChange Rows.wireTextsSpec) :=
  OpenClaim.holds_of_wide 4 Try.f4 rfl rfl rfl rfl rfl rfl rfl ⟨rfl, rfl, rfl, rfl, rfl⟩ rfl rfl rfl rfl rfl (by kernel_rfl) Try.func4 (by kernel_rfl)
    (of_decide_eq_true (by kernel_rfl)) (by unfold Func.isWrapper; first | (rw [if_pos (by decide +kernel)]; kernel_rfl) | (rw [if_neg (by decide +kernel)]; exact ⟨rfl, rfl⟩))
    (fun os started H enc _ => lifted os started H enc)

/-- The given statement. -/
theorem wireTexts_proved : Rows.WireTextsSaid :=
  over
#print axioms wireTexts_proved
end Go.Proofs.Ytgaggncepknafaa.wireTexts
