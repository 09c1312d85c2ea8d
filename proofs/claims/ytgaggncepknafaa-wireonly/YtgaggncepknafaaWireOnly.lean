/-
  For every text and number WireOnly returns true: what is read, written again, is what it was read from.
  Conditions: none beyond the given statement's own.
-/
import Derived.Test.YtgaggncepknafaaRows
import Derived.Test.YtgaggncepknafaaWorks
import Derived.Test.YtgaggncepknafaaFacts
import Derived.WalkKit
import Derived.ProofKit
import Derived.OpenShut
import Derived.ShutString
import Derived.ChangeOld
import Derived.Below
namespace Go.Proofs.Ytgaggncepknafaa.wireOnly
open Go.ChangeShapes Go.WideShapes Go.ChangeAt Go.RowKit
open Go.ChangeMaps (open_string shut_string)
set_option linter.unusedVariables false

theorem own : ownKnob Try.prog.godebug = none := by kernel_rfl

theorem ent14 : ∀ args w, (callFunc 14 args).run Try.prog w = .ok (.enter 14 args) w := enters_of Try.func14 (by kernel_rfl) rfl
theorem ent22 : ∀ args w, (callFunc 22 args).run Try.prog w = .ok (.enter 22 args) w := enters_of Try.func22 (by kernel_rfl) rfl
theorem ent24 : ∀ args w, (callFunc 24 args).run Try.prog w = .ok (.enter 24 args) w := enters_of Try.func24 (by kernel_rfl) rfl
theorem ent26 : ∀ args w, (callFunc 26 args).run Try.prog w = .ok (.enter 26 args) w := enters_of Try.func26 (by kernel_rfl) rfl
theorem z28_row (d : List UInt8) (hd : d.length = 32) : z28.size = (row d).size := by rw [row_size, hd]; rfl
/-- What is known of the frame at the last statement. -/
def fl (a0 : ByteArray) (a1 m : Int) (r1 : ByteArray) (p : Bool) (t r2 : ByteArray) (q : Bool) (z : Nat) (r3 : ByteArray) (u : Bool) (f r4 : ByteArray) (x : Bool) : List (Nat × Value) :=
  [(0, .string a0), (1, .int .i64 a1), (5, .bool true), (6, .int .i64 m), (7, .string r1), (8, .bool p), (9, .string t), (10, .string r2), (11, .bool q), (12, .pointer (some ⟨z, 0, none⟩)), (13, .string r3), (14, .bool u), (15, .string f), (16, .string r4), (17, .bool x)]
theorem fits {a b s : ByteArray} (hs : s.size ≤ 300) (h : a ++ b = s) : a.size + b.size ≤ 9223372036854775807 := by
  have := congrArg ByteArray.size h
  rw [ByteArray.size_append] at this
  omega
theorem only_num (s : ByteArray) (hs : s.size ≤ 300) : ∃ m r p N, nR (li s) = .tuple #[.int .i64 m, .string r, .bool p] ∧
    Hid (p = true → (∀ v, Calls Try.prog 14 #[.int .i64 m] v fun e v' => e = .returned (.string N) ∧ Below v.heap.size v v') ∧ N ++ r = s ∧ N.size + r.size ≤ 9223372036854775807) ∧ Hid (p = false → r = em ∧ m = 0) := by
  cases h : gn (li s) with
  | none => exact ⟨_, _, _, em, nR_none h, (fun k => by cases k), fun _ => ⟨rfl, rfl⟩⟩
  | some q =>
    obtain ⟨n, r⟩ := q
    obtain ⟨h1, h2⟩ := gn_some h
    have e : mk (num (cl n)) ++ mk r = s := li_inj (by rw [li_app, li_mk', li_mk', cl_id h1]; exact h2.symm)
    exact ⟨_, _, _, mk (num (cl n)), nR_some h, (fun _ => ⟨fun v => num_nat n (by have := big_lt h1; omega) v, e, fits hs e⟩), fun k => by cases k⟩
theorem only_text (s : ByteArray) (hs : s.size ≤ 300) (most : Int) : ∃ t r p N, tR (li s) most = .tuple #[.string t, .string r, .bool p] ∧
    Hid (p = true → (∀ v, Calls Try.prog 22 #[.string t] v fun e v' => e = .returned (.string N) ∧ Below v.heap.size v v') ∧ N ++ r = s ∧ N.size + r.size ≤ 9223372036854775807 ∧ decide ((t.size : Int) ≤ most) = true) := by
  cases h : gt (li s) most with
  | none => exact ⟨_, _, _, em, tR_none h, (fun k => by cases k)⟩
  | some q =>
    obtain ⟨t, r⟩ := q
    obtain ⟨h1, h2, h3⟩ := gt_some h
    have e : mk (text t) ++ mk r = s := li_inj (by rw [li_app, li_mk', li_mk']; exact h1.symm)
    have ht : (mk t).size ≤ 9223372036854775000 := by have := gt_len h; rw [li_len] at this; rw [size_li, li_mk']; omega
    refine ⟨_, _, _, mk (text t), tR_some h, fun _ => ⟨fun v => ?_, e, fits hs e, ?_⟩⟩
    · have := text_any (mk t) ht v
      rw [li_mk'] at this; exact this
    · rw [size_li, li_mk']; exact decide_eq_true h2
theorem only_sum (s : ByteArray) (hs : s.size ≤ 300) : ∃ d r p N, sR (li s) = .tuple #[.agg (row d), .string r, .bool p] ∧ Hid (d.length = 32) ∧
    Hid (p = true → (∀ v, Calls Try.prog 24 #[.agg (row d)] v fun e v' => e = .returned (.string N) ∧ Below v.heap.size v v') ∧ N ++ r = s ∧ N.size + r.size ≤ 9223372036854775807) := by
  cases h : gs (li s) with
  | none => exact ⟨List.replicate 32 0, _, _, em, sR_none h, rfl, (fun k => by cases k)⟩
  | some q =>
    obtain ⟨d, r⟩ := q
    have h' := h
    unfold gs at h'
    split at h'
    · rename_i hl
      cases h'
      have hd : ((li s).take 32).length = 32 := by rw [List.length_take]; omega
      have e : mk ((li s).take 32) ++ mk ((li s).drop 32) = s := li_inj (by rw [li_app, li_mk', li_mk', List.take_append_drop])
      exact ⟨_, _, _, mk ((li s).take 32), sR_some h, hd, fun _ => ⟨fun v => sum_any _ hd v, e, fits hs e⟩⟩
    · cases h'
theorem only_frame (s : ByteArray) (hs : s.size ≤ 300) : ∃ t r p N, fR (li s) = .tuple #[.string t, .string r, .bool p] ∧
    Hid (p = true → (∀ v, Calls Try.prog 26 #[.string t] v fun e v' => e = .returned (.string N) ∧ Below v.heap.size v v') ∧ N ++ r = s ∧ N.size + r.size ≤ 9223372036854775807) := by
  cases h : gf (li s) with
  | none => exact ⟨_, _, _, em, fR_none h, (fun k => by cases k)⟩
  | some q =>
    obtain ⟨t, r⟩ := q
    obtain ⟨h1, h2⟩ := gf_some h
    have e : mk (frame t) ++ mk r = s := li_inj (by rw [li_app, li_mk', li_mk']; exact h1.symm)
    refine ⟨_, _, _, mk (frame t), fR_some h, fun _ => ⟨fun v => ?_, e, fits hs e⟩⟩
    have := frame_any (mk t) (by rw [size_li, li_mk']; omega) v
    rw [li_mk'] at this; exact this

set_option maxHeartbeats 1000000 in
set_option maxRecDepth 100000 in
theorem walk (a0 : ByteArray) (a1 : Int) (w0 : a0.size ≤ maxLen) (w1 : (Lit.int .i64 a1).wf = true) (w : World) :
    Calls Try.prog 6 #[.string a0, .int .i64 a1] w fun e w' => e = .returned (.bool true) ∧ Below w.heap.size w w' := by
  by_cases k0 : 300 < a0.size
  · have t0 : decide ((300 : Int) < (a0.size : Int)) = true := by simp; omega
    clear w0 k0
    go_enter Try.func6, Try.ntmps6
    go_wp2_with fail
    refine (works_any _).mono ?_
    rintro e v1 ⟨rfl, h1⟩
    go_wp2_with fail
    go_ret
    exact ⟨rfl, h1⟩
  · have t0 : decide ((300 : Int) < (a0.size : Int)) = false := by simp; omega
    have hs : a0.size ≤ 300 := by omega
    obtain ⟨m, r1, p, N1, e1, hp, hn⟩ := only_num a0 hs
    obtain ⟨t, r2, q, N2, e2, hq⟩ := only_text a0 hs a1
    obtain ⟨d, r3, u, N3, e3, hd, hu⟩ := only_sum a0 hs
    obtain ⟨f, r4, x, N4, e4, hx⟩ := only_frame a0 hs
    have c1 := Lib.hid (fun v => getNum_any a0 (by omega) v)
    have c2 := Lib.hid (fun v => getText_any a0 (by omega) a1 v)
    have c3 := Lib.hid (fun v => getSum_any a0 v)
    have c4 := Lib.hid (fun v => getFrame_any a0 (by omega) v)
    rw [e1] at c1
    rw [e2] at c2
    rw [e3] at c3
    rw [e4] at c4
    clear w0 w1 k0 e1 e2 e3 e4
    go_enter Try.func6, Try.ntmps6
    go_wp2_with fail
    refine (works_any _).mono ?_
    rintro e v1 ⟨rfl, h1⟩
    have B1 := Lib.hid h1
    clear h1
    go_wp2_with fail
    refine (c1.out _).mono ?_
    rintro e v2 ⟨rfl, h2⟩
    have B2 := Lib.hid (below_on B1.out h2)
    clear h2 B1
    go_wp2_with fail
    refine (c2.out _).mono ?_
    rintro e v3 ⟨rfl, h3⟩
    have B3 := Lib.hid (below_on B2.out h3)
    clear h3 B2
    go_wp2_with fail
    refine (c3.out _).mono ?_
    rintro e v4 ⟨rfl, h4⟩
    have B4 := Lib.hid (below_on B3.out h4)
    clear h4 B3
    go_wp2_with (with_reducible refine wpList_store_row rfl 28 (.tmp 12) (.tmp 41) rfl _ (row d) rfl rfl 28 z28 ?hg1 (info28' d hd.out) (z28_row d hd.out) (row_one _) ?_)
    case hg1 => rw [z28_eq, heap_alloc_if, if_pos rfl]
    rw [z28_eq, World.setRow_alloc_new]
    go_wp2_with fail
    have hb0 : Hid ((v4.alloc (.cells (row d) 28)).heap[v4.heap.size]? = some (.cells (row d) 28)) := by show _ = _; rw [heap_alloc_if, if_pos rfl]
    have B5 := Lib.hid (B4.out.alloc B4.out.size (.cells (row d) 28))
    revert hb0 B5
    generalize v4.alloc (.cells (row d) 28) = v5
    generalize v4.heap.size = z
    intro hb0 B5
    clear B4
    refine (c4.out _).mono ?_
    rintro e v6 ⟨rfl, h6⟩
    have B6 := Lib.hid (below_on B5.out h6)
    have hb6 := Lib.hid (below_blk hb0.out h6)
    clear h6 B5 hb0
    simp only []
    repeat ((fail_if_success (with_reducible refine wp_region_list ?_)); (first | go_values | go_skip | go_guarded | go_step | go_upon))
    refine wp_region_still (fun v => Below v6.heap.size v6 v) (Below.refl _ _) ?_
    simp only [List.append_eq, List.cons_append, List.nil_append]
    refine (?_ : WQ _ _ _ _ 116 _ (fl a0 a1 m r1 p t r2 q z r3 u f r4 x)) _ (Fr.of rfl rfl ⟨rfl, rfl, rfl, rfl, rfl, rfl, rfl, rfl, rfl, rfl, rfl, rfl, rfl, rfl, rfl, trivial⟩)
    refine wq_move (.free rfl) 50 rfl (by decide) _ (.inl rfl) (.bool true) rfl ?_
    refine wq_move (.free rfl) 51 rfl (by decide) _ (.inl rfl) (.bool true) rfl ?_
    show WQ _ _ _ _ _ _ ((51, .bool true) :: (50, .bool true) :: fl a0 a1 m r1 p t r2 q z r3 u f r4 x)
    refine wq_join 10 ((61, .bool true) :: ((51, .bool true) :: (50, .bool true) :: fl a0 a1 m r1 p t r2 q z r3 u f r4 x)) ?_ (fun key => ?_)
    rotate_left
    · cases p
      · skip
        refine wq_move (.on 1 51 true rfl rfl rfl) 52 rfl (by decide) _ (.inl rfl) (.bool false) rfl ?_
        refine wq_not (.on 1 51 true rfl rfl rfl) 53 rfl (by decide) _ _ rfl (false) rfl (true) rfl ?_
        refine wq_move (.on 1 51 true rfl rfl rfl) 54 rfl (by decide) _ (.inl rfl) (.bool true) rfl ?_
        refine wq_off (.no 4 54 false rfl rfl rfl) 55 rfl (by decide) ?_
        refine wq_off (.no 4 54 false rfl rfl rfl) 56 rfl (by decide) ?_
        refine wq_off (.no 4 54 false rfl rfl rfl) 57 rfl (by decide) ?_
        refine wq_off (.no 4 54 false rfl rfl rfl) 58 rfl (by decide) ?_
        refine wq_off (.no 4 54 false rfl rfl rfl) 59 rfl (by decide) ?_
        refine wq_off (.no 4 54 false rfl rfl rfl) 60 rfl (by decide) ?_
        refine wq_pick (.on 1 51 true rfl rfl rfl) 61 rfl (by decide) _ _ _ rfl true rfl (.bool true) rfl ?_
        exact wq_drop 9 rfl key
      · obtain ⟨c, e, hz⟩ := hp.out rfl
        refine wq_move (.on 1 51 true rfl rfl rfl) 52 rfl (by decide) _ (.inl rfl) (.bool true) rfl ?_
        refine wq_not (.on 1 51 true rfl rfl rfl) 53 rfl (by decide) _ _ rfl (true) rfl (false) rfl ?_
        refine wq_move (.on 1 51 true rfl rfl rfl) 54 rfl (by decide) _ (.inl rfl) (.bool false) rfl ?_
        refine wq_move (.on 4 54 false rfl rfl rfl) 55 rfl (by decide) _ (.inl rfl) (.int .i64 m) rfl ?_
        refine wq_call (.on 4 54 false rfl rfl rfl) 56 rfl (by decide) 14 _ _ rfl ent14 [.int .i64 m] rfl (.string N1) (below_call c) ?_
        refine wq_move (.on 4 54 false rfl rfl rfl) 57 rfl (by decide) _ (.inl rfl) (.string r1) rfl ?_
        refine wq_cat (.on 4 54 false rfl rfl rfl) 58 rfl (by decide) _ _ _ _ rfl (N1) (r1) rfl rfl (hz) ?_
        refine wq_move (.on 4 54 false rfl rfl rfl) 59 rfl (by decide) _ (.inl rfl) (.string a0) rfl ?_
        refine wq_seq (.on 4 54 false rfl rfl rfl) 60 rfl (by decide) _ _ _ _ rfl ((N1 ++ r1)) (a0) rfl rfl true (by rw [e]; simp) ?_
        refine wq_pick (.on 1 51 true rfl rfl rfl) 61 rfl (by decide) _ _ _ rfl false rfl (.bool true) rfl ?_
        exact wq_drop 9 rfl key
    simp only [List.drop_succ_cons, List.drop_zero]
    refine wq_pick (.free rfl) 62 rfl (by decide) _ _ _ rfl true rfl (.bool true) rfl ?_
    refine wq_move (.free rfl) 63 rfl (by decide) _ (.inl rfl) (.bool true) rfl ?_
    refine wq_join 16 ((79, .bool true) :: ((63, .bool true) :: (62, .bool true) :: (61, .bool true) :: (51, .bool true) :: (50, .bool true) :: fl a0 a1 m r1 p t r2 q z r3 u f r4 x)) ?_ (fun key => ?_)
    rotate_left
    · cases q
      · skip
        refine wq_move (.on 13 63 true rfl rfl rfl) 64 rfl (by decide) _ (.inl rfl) (.bool false) rfl ?_
        refine wq_not (.on 13 63 true rfl rfl rfl) 65 rfl (by decide) _ _ rfl (false) rfl (true) rfl ?_
        refine wq_move (.on 13 63 true rfl rfl rfl) 66 rfl (by decide) _ (.inl rfl) (.bool true) rfl ?_
        refine wq_off (.no 16 66 false rfl rfl rfl) 67 rfl (by decide) ?_
        refine wq_off (.no 16 66 false rfl rfl rfl) 68 rfl (by decide) ?_
        refine wq_off (.no 16 66 false rfl rfl rfl) 69 rfl (by decide) ?_
        refine wq_off (.no 16 66 false rfl rfl rfl) 70 rfl (by decide) ?_
        refine wq_off (.no 16 66 false rfl rfl rfl) 71 rfl (by decide) ?_
        refine wq_off (.no 16 66 false rfl rfl rfl) 72 rfl (by decide) ?_
        refine wq_off (.no 16 66 false rfl rfl rfl) 73 rfl (by decide) ?_
        refine wq_off (.un 23 73 true rfl rfl rfl) 74 rfl (by decide) ?_
        refine wq_off (.un 23 73 true rfl rfl rfl) 75 rfl (by decide) ?_
        refine wq_off (.un 23 73 true rfl rfl rfl) 76 rfl (by decide) ?_
        refine wq_off (.un 23 73 true rfl rfl rfl) 77 rfl (by decide) ?_
        refine wq_off (.no 16 66 false rfl rfl rfl) 78 rfl (by decide) ?_
        refine wq_pick (.on 13 63 true rfl rfl rfl) 79 rfl (by decide) _ _ _ rfl true rfl (.bool true) rfl ?_
        exact wq_drop 15 rfl key
      · obtain ⟨c, e, hz, hm⟩ := hq.out rfl
        refine wq_move (.on 13 63 true rfl rfl rfl) 64 rfl (by decide) _ (.inl rfl) (.bool true) rfl ?_
        refine wq_not (.on 13 63 true rfl rfl rfl) 65 rfl (by decide) _ _ rfl (true) rfl (false) rfl ?_
        refine wq_move (.on 13 63 true rfl rfl rfl) 66 rfl (by decide) _ (.inl rfl) (.bool false) rfl ?_
        refine wq_move (.on 16 66 false rfl rfl rfl) 67 rfl (by decide) _ (.inl rfl) (.string t) rfl ?_
        refine wq_call (.on 16 66 false rfl rfl rfl) 68 rfl (by decide) 22 _ _ rfl ent22 [.string t] rfl (.string N2) (below_call c) ?_
        refine wq_move (.on 16 66 false rfl rfl rfl) 69 rfl (by decide) _ (.inl rfl) (.string r2) rfl ?_
        refine wq_cat (.on 16 66 false rfl rfl rfl) 70 rfl (by decide) _ _ _ _ rfl (N2) (r2) rfl rfl (hz) ?_
        refine wq_move (.on 16 66 false rfl rfl rfl) 71 rfl (by decide) _ (.inl rfl) (.string a0) rfl ?_
        refine wq_seq (.on 16 66 false rfl rfl rfl) 72 rfl (by decide) _ _ _ _ rfl ((N2 ++ r2)) (a0) rfl rfl true (by rw [e]; simp) ?_
        refine wq_move (.on 16 66 false rfl rfl rfl) 73 rfl (by decide) _ (.inl rfl) (.bool true) rfl ?_
        refine wq_move (.on 23 73 true rfl rfl rfl) 74 rfl (by decide) _ (.inl rfl) (.string t) rfl ?_
        refine wq_len (.on 23 73 true rfl rfl rfl) 75 rfl (by decide) _ _ rfl (t) rfl Try.underlying9 ?_
        refine wq_move (.on 23 73 true rfl rfl rfl) 76 rfl (by decide) _ (.inl rfl) (.int .i64 a1) rfl ?_
        refine wq_icmp (.on 23 73 true rfl rfl rfl) 77 rfl (by decide) .leq _ _ _ _ rfl .i64 (((t).size : Int)) (a1) rfl rfl true (hm) ?_
        refine wq_pick (.on 16 66 false rfl rfl rfl) 78 rfl (by decide) _ _ _ rfl true rfl (.bool true) rfl ?_
        refine wq_pick (.on 13 63 true rfl rfl rfl) 79 rfl (by decide) _ _ _ rfl false rfl (.bool true) rfl ?_
        exact wq_drop 15 rfl key
    simp only [List.drop_succ_cons, List.drop_zero]
    refine wq_pick (.free rfl) 80 rfl (by decide) _ _ _ rfl true rfl (.bool true) rfl ?_
    refine wq_move (.free rfl) 81 rfl (by decide) _ (.inl rfl) (.bool true) rfl ?_
    refine wq_join 10 ((91, .bool true) :: ((81, .bool true) :: (80, .bool true) :: (79, .bool true) :: (63, .bool true) :: (62, .bool true) :: (61, .bool true) :: (51, .bool true) :: (50, .bool true) :: fl a0 a1 m r1 p t r2 q z r3 u f r4 x)) ?_ (fun key => ?_)
    rotate_left
    · cases u
      · skip
        refine wq_move (.on 31 81 true rfl rfl rfl) 82 rfl (by decide) _ (.inl rfl) (.bool false) rfl ?_
        refine wq_not (.on 31 81 true rfl rfl rfl) 83 rfl (by decide) _ _ rfl (false) rfl (true) rfl ?_
        refine wq_move (.on 31 81 true rfl rfl rfl) 84 rfl (by decide) _ (.inl rfl) (.bool true) rfl ?_
        refine wq_off (.no 34 84 false rfl rfl rfl) 85 rfl (by decide) ?_
        refine wq_off (.no 34 84 false rfl rfl rfl) 86 rfl (by decide) ?_
        refine wq_off (.no 34 84 false rfl rfl rfl) 87 rfl (by decide) ?_
        refine wq_off (.no 34 84 false rfl rfl rfl) 88 rfl (by decide) ?_
        refine wq_off (.no 34 84 false rfl rfl rfl) 89 rfl (by decide) ?_
        refine wq_off (.no 34 84 false rfl rfl rfl) 90 rfl (by decide) ?_
        refine wq_pick (.on 31 81 true rfl rfl rfl) 91 rfl (by decide) _ _ _ rfl true rfl (.bool true) rfl ?_
        exact wq_drop 9 rfl key
      · obtain ⟨c, e, hz⟩ := hu.out rfl
        refine wq_move (.on 31 81 true rfl rfl rfl) 82 rfl (by decide) _ (.inl rfl) (.bool true) rfl ?_
        refine wq_not (.on 31 81 true rfl rfl rfl) 83 rfl (by decide) _ _ rfl (true) rfl (false) rfl ?_
        refine wq_move (.on 31 81 true rfl rfl rfl) 84 rfl (by decide) _ (.inl rfl) (.bool false) rfl ?_
        refine wq_load (.on 34 84 false rfl rfl rfl) 85 rfl (by decide) _ _ rfl _ rfl _ (row d) _ (fun _ h => below_blk hb6.out h) Try.underlying28 rfl (info28' d hd.out) ?_
        refine wq_call (.on 34 84 false rfl rfl rfl) 86 rfl (by decide) 24 _ _ rfl ent24 [.agg (row d)] rfl (.string N3) (below_call c) ?_
        refine wq_move (.on 34 84 false rfl rfl rfl) 87 rfl (by decide) _ (.inl rfl) (.string r3) rfl ?_
        refine wq_cat (.on 34 84 false rfl rfl rfl) 88 rfl (by decide) _ _ _ _ rfl (N3) (r3) rfl rfl (hz) ?_
        refine wq_move (.on 34 84 false rfl rfl rfl) 89 rfl (by decide) _ (.inl rfl) (.string a0) rfl ?_
        refine wq_seq (.on 34 84 false rfl rfl rfl) 90 rfl (by decide) _ _ _ _ rfl ((N3 ++ r3)) (a0) rfl rfl true (by rw [e]; simp) ?_
        refine wq_pick (.on 31 81 true rfl rfl rfl) 91 rfl (by decide) _ _ _ rfl false rfl (.bool true) rfl ?_
        exact wq_drop 9 rfl key
    simp only [List.drop_succ_cons, List.drop_zero]
    refine wq_pick (.free rfl) 92 rfl (by decide) _ _ _ rfl true rfl (.bool true) rfl ?_
    refine wq_move (.free rfl) 93 rfl (by decide) _ (.inl rfl) (.bool true) rfl ?_
    refine wq_join 10 ((103, .bool true) :: ((93, .bool true) :: (92, .bool true) :: (91, .bool true) :: (81, .bool true) :: (80, .bool true) :: (79, .bool true) :: (63, .bool true) :: (62, .bool true) :: (61, .bool true) :: (51, .bool true) :: (50, .bool true) :: fl a0 a1 m r1 p t r2 q z r3 u f r4 x)) ?_ (fun key => ?_)
    rotate_left
    · cases x
      · skip
        refine wq_move (.on 43 93 true rfl rfl rfl) 94 rfl (by decide) _ (.inl rfl) (.bool false) rfl ?_
        refine wq_not (.on 43 93 true rfl rfl rfl) 95 rfl (by decide) _ _ rfl (false) rfl (true) rfl ?_
        refine wq_move (.on 43 93 true rfl rfl rfl) 96 rfl (by decide) _ (.inl rfl) (.bool true) rfl ?_
        refine wq_off (.no 46 96 false rfl rfl rfl) 97 rfl (by decide) ?_
        refine wq_off (.no 46 96 false rfl rfl rfl) 98 rfl (by decide) ?_
        refine wq_off (.no 46 96 false rfl rfl rfl) 99 rfl (by decide) ?_
        refine wq_off (.no 46 96 false rfl rfl rfl) 100 rfl (by decide) ?_
        refine wq_off (.no 46 96 false rfl rfl rfl) 101 rfl (by decide) ?_
        refine wq_off (.no 46 96 false rfl rfl rfl) 102 rfl (by decide) ?_
        refine wq_pick (.on 43 93 true rfl rfl rfl) 103 rfl (by decide) _ _ _ rfl true rfl (.bool true) rfl ?_
        exact wq_drop 9 rfl key
      · obtain ⟨c, e, hz⟩ := hx.out rfl
        refine wq_move (.on 43 93 true rfl rfl rfl) 94 rfl (by decide) _ (.inl rfl) (.bool true) rfl ?_
        refine wq_not (.on 43 93 true rfl rfl rfl) 95 rfl (by decide) _ _ rfl (true) rfl (false) rfl ?_
        refine wq_move (.on 43 93 true rfl rfl rfl) 96 rfl (by decide) _ (.inl rfl) (.bool false) rfl ?_
        refine wq_move (.on 46 96 false rfl rfl rfl) 97 rfl (by decide) _ (.inl rfl) (.string f) rfl ?_
        refine wq_call (.on 46 96 false rfl rfl rfl) 98 rfl (by decide) 26 _ _ rfl ent26 [.string f] rfl (.string N4) (below_call c) ?_
        refine wq_move (.on 46 96 false rfl rfl rfl) 99 rfl (by decide) _ (.inl rfl) (.string r4) rfl ?_
        refine wq_cat (.on 46 96 false rfl rfl rfl) 100 rfl (by decide) _ _ _ _ rfl (N4) (r4) rfl rfl (hz) ?_
        refine wq_move (.on 46 96 false rfl rfl rfl) 101 rfl (by decide) _ (.inl rfl) (.string a0) rfl ?_
        refine wq_seq (.on 46 96 false rfl rfl rfl) 102 rfl (by decide) _ _ _ _ rfl ((N4 ++ r4)) (a0) rfl rfl true (by rw [e]; simp) ?_
        refine wq_pick (.on 43 93 true rfl rfl rfl) 103 rfl (by decide) _ _ _ rfl false rfl (.bool true) rfl ?_
        exact wq_drop 9 rfl key
    simp only [List.drop_succ_cons, List.drop_zero]
    refine wq_pick (.free rfl) 104 rfl (by decide) _ _ _ rfl true rfl (.bool true) rfl ?_
    refine wq_move (.free rfl) 105 rfl (by decide) _ (.inl rfl) (.bool true) rfl ?_
    refine wq_join 9 ((114, .bool true) :: ((105, .bool true) :: (104, .bool true) :: (103, .bool true) :: (93, .bool true) :: (92, .bool true) :: (91, .bool true) :: (81, .bool true) :: (80, .bool true) :: (79, .bool true) :: (63, .bool true) :: (62, .bool true) :: (61, .bool true) :: (51, .bool true) :: (50, .bool true) :: fl a0 a1 m r1 p t r2 q z r3 u f r4 x)) ?_ (fun key => ?_)
    rotate_left
    · cases p
      · obtain ⟨e1, e2⟩ := hn.out rfl
        refine wq_move (.on 55 105 true rfl rfl rfl) 106 rfl (by decide) _ (.inl rfl) (.bool false) rfl ?_
        refine wq_move (.on 55 105 true rfl rfl rfl) 107 rfl (by decide) _ (.inl rfl) (.bool false) rfl ?_
        refine wq_move (.on 57 107 false rfl rfl rfl) 108 rfl (by decide) _ (.inl rfl) (.string r1) rfl ?_
        refine wq_seq (.on 57 107 false rfl rfl rfl) 109 rfl (by decide) _ _ _ _ rfl (r1) (⟨#[]⟩) rfl rfl true (by rw [e1]; rfl) ?_
        refine wq_move (.on 57 107 false rfl rfl rfl) 110 rfl (by decide) _ (.inl rfl) (.bool true) rfl ?_
        refine wq_move (.on 60 110 true rfl rfl rfl) 111 rfl (by decide) _ (.inl rfl) (.int .i64 m) rfl ?_
        refine wq_icmp (.on 60 110 true rfl rfl rfl) 112 rfl (by decide) .eql _ _ _ _ rfl .i64 (m) (0) rfl rfl true (by rw [e2]; rfl) ?_
        refine wq_pick (.on 57 107 false rfl rfl rfl) 113 rfl (by decide) _ _ _ rfl true rfl (.bool true) rfl ?_
        refine wq_pick (.on 55 105 true rfl rfl rfl) 114 rfl (by decide) _ _ _ rfl false rfl (.bool true) rfl ?_
        exact wq_drop 8 rfl key
      · skip
        refine wq_move (.on 55 105 true rfl rfl rfl) 106 rfl (by decide) _ (.inl rfl) (.bool true) rfl ?_
        refine wq_move (.on 55 105 true rfl rfl rfl) 107 rfl (by decide) _ (.inl rfl) (.bool true) rfl ?_
        refine wq_off (.no 57 107 false rfl rfl rfl) 108 rfl (by decide) ?_
        refine wq_off (.no 57 107 false rfl rfl rfl) 109 rfl (by decide) ?_
        refine wq_off (.no 57 107 false rfl rfl rfl) 110 rfl (by decide) ?_
        refine wq_off (.un 60 110 true rfl rfl rfl) 111 rfl (by decide) ?_
        refine wq_off (.un 60 110 true rfl rfl rfl) 112 rfl (by decide) ?_
        refine wq_off (.no 57 107 false rfl rfl rfl) 113 rfl (by decide) ?_
        refine wq_pick (.on 55 105 true rfl rfl rfl) 114 rfl (by decide) _ _ _ rfl true rfl (.bool true) rfl ?_
        exact wq_drop 8 rfl key
    simp only [List.drop_succ_cons, List.drop_zero]
    refine wq_pick (.free rfl) 115 rfl (by decide) _ _ _ rfl true rfl (.bool true) rfl ?_
    refine wq_move (.free rfl) 4 rfl (by decide) _ (.inr rfl) (.bool true) rfl ?_
    refine wq_nil (fun a ha => ?_)
    intro v7 h7
    have hr : a.tmps.getD 4 undef = .bool true := ha.has 4 _ rfl
    have hdf := ha.none
    clear ha
    go_wp2_with fail
    refine bodyPost_tmp 4 _ rfl hr hdf ?_
    exact ⟨rfl, below_on B6.out h7⟩

set_option maxRecDepth 100000 in
theorem lifted (os : Os) (started : os.Started) (H : Type) (enc : TypeId × Value → H) :
    ReturnsInHanded {} Try.checked os 6 .any (Rows.wireOnlySpec.pre6 enc Try.prog Try.f6 Rows.wireOnlyRow.domain false) (Rows.wireOnlySpec.post enc Try.prog Try.f6 false true false false) := by
  refine returnsInHanded_of_change (C := Try.checked) own started (by kernel_rfl) Try.func6
    (ChangeSpec.witness6 (enc := enc) (C := Try.checked) false ⟨#[], #[.string ByteArray.empty, .int .i64 0], []⟩ 8 (by kernel_rfl) (by kernel_rfl) (by kernel_rfl) (by kernel_rfl)) ?_
  intro W base args ds gs before hval0 hW hcnd _
  have hval : ∀ (j : Nat) t v, Try.f6.params[j]? = some t → args[j]? = some v → Value.okWide Try.prog W .any base t v := hval0
  have hW' := hW
  obtain ⟨p, q, hA0, hV, rfl, hfz, hnd⟩ := hW
  have hA : DataW.TrodAll enc Try.prog W 0 (fun _ => true) true Try.f6.params.toList args.toList ds p := hA0
  rw [Try.params6] at hA hval
  obtain ⟨v0, vs0, d0, ds0, p0, q0, hargs, rfl, rfl, h0, r0⟩ := trodAll_cons hA
  obtain ⟨v1, vs1, d1, ds1, p1, q1, rfl, rfl, rfl, h1, r1⟩ := trodAll_cons r0
  obtain ⟨rfl, rfl, rfl⟩ := trodAll_nil r1
  obtain rfl : args = #[v0, v1] := by cases args; simp_all
  obtain ⟨rfl, rfl⟩ := trodVars_none hV
  obtain ⟨a0, rfl, rfl, rfl, w0⟩ := open_string Try.underlying9 (hval 0 9 v0 rfl rfl) h0
  obtain ⟨a1, rfl, rfl, rfl, w1⟩ := open_int Try.underlying3 (hval 1 3 v1 rfl rfl) h1
  clear hA0 hval0
  simp only [List.append_nil] at hW'
  refine (walk a0 a1 w0 w1 W).mono fun e W' ⟨he, bel⟩ => ?_
  subst he
  exact ⟨_, rfl, _, _, _, [], [], [], hW', (trodAll_cons_mk (shut_bool Try.underlying4 _) trodAll_mk0), (trodAll_cons_mk (shut_string Try.underlying9 w0) (trodAll_cons_mk (shut_int Try.underlying3 w1) trodAll_mk0)), rfl, bel.frame _, fun h => by cases h⟩

theorem over : Rows.wireOnlyRow.holds Try.pinned (OpenSpec.ofChange Rows.wireOnlySpec) :=
  OpenClaim.holds_of_wide 6 Try.f6 rfl rfl rfl rfl rfl rfl rfl ⟨rfl, rfl, rfl, rfl, rfl⟩ rfl rfl rfl rfl rfl (by kernel_rfl) Try.func6 (by kernel_rfl)
    (of_decide_eq_true (by kernel_rfl)) (by unfold Func.isWrapper; first | (rw [if_pos (by decide +kernel)]; kernel_rfl) | (rw [if_neg (by decide +kernel)]; exact ⟨rfl, rfl⟩))
    (fun os started H enc _ => lifted os started H enc)

/-- The given statement. -/
theorem wireOnly_proved : Rows.WireOnlySaid :=
  over
#print axioms wireOnly_proved
end Go.Proofs.Ytgaggncepknafaa.wireOnly
