/-
  What Text, GetText, Frame and GetFrame of the reference return.
-/
import Derived.Test.YtgaggncepknafaaRgetn
namespace Go.Proofs.Ytgaggncepknafaa
open Go.RowKit

theorem ent23 : ∀ args w, (callFunc 23 args).run Try.prog w = .ok (.enter 23 args) w := enters_of Try.func23 (by kernel_rfl) rfl
theorem ent36 : ∀ args w, (callFunc 36 args).run Try.prog w = .ok (.enter 36 args) w := enters_of Try.func36 (by kernel_rfl) rfl
set_option maxHeartbeats 400000 in
theorem rtext_any (t : ByteArray) (ht : t.size ≤ 9223372036854775000) (w : World) :
    Calls Try.prog 23 #[.string t] w fun e w' => e = .returned (.string (mk (text (li t)))) ∧ Below w.heap.size w w' := by
  have c1 := Lib.hid (fun v => rnum_nat t.size v)
  have hn := num_len (cl t.size)
  have he : Hid (mk (text (li t)) = mk (num (cl t.size)) ++ t) := by
    show _ = _
    apply li_inj
    rw [li_mk', li_app, li_mk']
    unfold text
    rw [li_len]
  have hz : (mk (num (cl t.size))).size ≤ 8 := by rw [size_li, li_mk']; exact hn.2
  rw [he.out]
  clear he hn
  revert c1 hz
  generalize mk (num (cl t.size)) = N
  intro c1 hz
  go_enter Try.func23, Try.ntmps23
  go_wp2_with fail
  refine (c1.out _).mono ?_
  rintro e w1 ⟨rfl, b1⟩
  go_wp2_with fail
  go_returns
  exact ⟨rfl, b1⟩

set_option maxHeartbeats 1000000 in
theorem rgetText_any (s : ByteArray) (hs : s.size ≤ 9223372036854775000) (most : Int) (w : World) :
    Calls Try.prog 17 #[.string s, .int .i64 most] w fun e w' => e = .returned (tR (li s) most) ∧ Below w.heap.size w w' := by
  have c1 := Lib.hid (fun v => rgetNum_any s hs v)
  cases h : gn (li s) with
  | none =>
    rw [nR_none h] at c1
    have hV := Lib.hid (tR_none (gt_no (most := most) h))
    rw [hV.out]
    clear h hV
    go_enter Try.func17, Try.ntmps17
    go_wp2_with fail
    refine (c1.out _).mono ?_
    rintro e w1 ⟨rfl, b1⟩
    go_wp2_with fail
    go_returns
    exact ⟨rfl, b1⟩
  | some q =>
    obtain ⟨n, r⟩ := q
    have hr : (mk r).size ≤ 9223372036854775000 := by
      have := gn_rest h
      rw [li_len] at this
      rw [size_li, li_mk']; omega
    have hnb : n ≤ 1125899906842624 := (gn_some h).1
    rw [nR_some h] at c1
    by_cases hc : (n : Int) ≤ most ∧ n ≤ r.length
    · have hV := Lib.hid (tR_some (gt_yes h hc.1 hc.2))
      have hR : Hid (tR (li s) most = .tuple #[.string ((mk r).extract 0 n), .string ((mk r).extract n (mk r).size), .bool true]) := by
        show _ = _
        rw [hV.out]
        have e1 : mk (r.take n) = (mk r).extract 0 n := li_inj (by rw [li_mk', li_ext, li_mk']; simp)
        have e2 : mk (r.drop n) = (mk r).extract n (mk r).size := li_inj (by rw [li_mk', li_ext, size_li, li_mk', List.take_of_length_le (Nat.le_refl _)])
        rw [e1, e2]
      rw [hR.out]
      have hn2 : n ≤ (mk r).size := by rw [size_li, li_mk']; exact hc.2
      have hn1 := hc.1
      revert c1 hr hn2
      generalize mk r = R
      intro c1 hr hn2
      clear h hV hR hc
      have i1 : (n : Int) ≤ (R.size : Int) := by omega
      have t1 : decide (R.size < n) = false := by simp; omega
      have t2 : decide (most < (n : Int)) = false := by simp; omega
      go_enter Try.func17, Try.ntmps17
      go_wp2_with fail
      refine (c1.out _).mono ?_
      rintro e w1 ⟨rfl, b1⟩
      go_wp2_with fail
      go_region
      go_wp2_with fail
      go_returns
      exact ⟨rfl, b1.drew⟩
    · have hV := Lib.hid (tR_none (gt_not h hc))
      rw [hV.out]
      have hc' : ¬ ((n : Int) ≤ most ∧ n ≤ (mk r).size) := by rw [size_li, li_mk']; exact hc
      revert c1 hr hc'
      generalize mk r = R
      intro c1 hr hc'
      clear h hV hc
      by_cases hm : R.size < n
      · have t1 : decide (R.size < n) = true := by simp; omega
        clear hc'
        go_enter Try.func17, Try.ntmps17
        go_wp2_with fail
        refine (c1.out _).mono ?_
        rintro e w1 ⟨rfl, b1⟩
        go_wp2_with fail
        go_returns
        exact ⟨rfl, b1⟩
      · have t1 : decide (R.size < n) = false := by simp; omega
        have t2 : decide (most < (n : Int)) = true := by simp; omega
        clear hc'
        go_enter Try.func17, Try.ntmps17
        go_wp2_with fail
        refine (c1.out _).mono ?_
        rintro e w1 ⟨rfl, b1⟩
        go_wp2_with fail
        go_returns
        exact ⟨rfl, b1⟩

set_option maxHeartbeats 1000000 in
set_option maxRecDepth 100000 in
theorem rframe_any (t : ByteArray) (ht : t.size ≤ 9223372036854775000) (w : World) :
    Calls Try.prog 27 #[.string t] w fun e w' => e = .returned (.string (mk (frame (li t)))) ∧ Below w.heap.size w w' := by
  have c2 := Lib.hid (fun v => rtext_any t ht v)
  have hl := text_size (li t)
  rw [li_len] at hl
  have hz1 : (mk (text (li t))).size ≤ 9223372036854775008 := by rw [size_li, li_mk']; omega
  have c3 := Lib.hid (fun v => rcheck_any (mk (text (li t))) (by omega) v)
  have hz2 : (mk (chk (li (mk (text (li t)))))).size = 4 := by rw [size_li, li_mk']; rfl
  have he : mk (frame (li t)) = mk (text (li t)) ++ mk (chk (li (mk (text (li t))))) := by
    apply li_inj
    rw [li_mk', li_app, li_mk', li_mk']; rfl
  rw [he]
  clear he hl
  revert c2 hz1 c3 hz2
  generalize mk (chk (li (mk (text (li t))))) = Y
  generalize mk (text (li t)) = X
  intro c2 hz1 c3 hz2
  have hz : X.size + Y.size ≤ 9223372036854775807 := by omega
  go_enter Try.func27, Try.ntmps27
  go_wp2_with fail
  refine (c2.out _).mono ?_
  rintro e w1 ⟨rfl, b1⟩
  have B1 := Lib.hid b1
  clear b1
  go_wp2_with fail
  refine (c2.out _).mono ?_
  rintro e w2 ⟨rfl, b2⟩
  have B2 := Lib.hid (below_on B1.out b2)
  clear b2 B1
  go_wp2_with fail
  refine (c3.out _).mono ?_
  rintro e w3 ⟨rfl, b3⟩
  have B3 := Lib.hid (below_on B2.out b3)
  clear b3 B2
  go_wp2_with fail
  go_returns
  exact ⟨rfl, B3.out⟩

set_option maxHeartbeats 1000000 in
set_option maxRecDepth 100000 in
theorem rgetFrame_any (s : ByteArray) (hs : s.size ≤ 9223372036854775000) (w : World) :
    Calls Try.prog 21 #[.string s] w fun e w' => e = .returned (fR (li s)) ∧ Below w.heap.size w w' := by
  have c1 := Lib.hid (fun v => rgetText_any s hs 5000 v)
  cases h : gt (li s) 5000 with
  | none =>
    rw [tR_none h] at c1
    have hV := Lib.hid (fR_none (gf_no h))
    rw [hV.out]
    clear h hV
    go_enter Try.func21, Try.ntmps21
    go_wp2_with fail
    refine (c1.out _).mono ?_
    rintro e w1 ⟨rfl, b1⟩
    have B1 := Lib.hid b1
    clear b1
    go_wp2_with (refine park_region (fun Pk hX => ?_))
    refine hX.out ?_
    clear hX
    refine we_region (fun v => Below w1.drew.heap.size w1.drew v) (by kernel_rfl) (by kernel_rfl) (Below.refl _ _) ?_
    refine we_move (by rfl) _ (.inl rfl) (.bool false) rfl ?_
    simp only [Act.put, List.setIfInBounds_toArray, List.set_cons_zero, List.set_cons_succ]
    refine we_not (by rfl) _ _ rfl false rfl ?_
    simp only [Bool.not_false]
    simp only [Act.put, List.setIfInBounds_toArray, List.set_cons_zero, List.set_cons_succ]
    refine we_move (by rfl) _ (.inl rfl) (.bool true) rfl ?_
    simp only [Act.put, List.setIfInBounds_toArray, List.set_cons_zero, List.set_cons_succ]
    refine we_off 2 16 false (by rfl) (by rfl) (by exact .inl rfl) ?_
    simp only [Act.put, List.setIfInBounds_toArray, List.set_cons_zero, List.set_cons_succ]
    refine we_off 2 16 false (by rfl) (by rfl) (by exact .inl rfl) ?_
    simp only [Act.put, List.setIfInBounds_toArray, List.set_cons_zero, List.set_cons_succ]
    refine we_off 2 16 false (by rfl) (by rfl) (by exact .inl rfl) ?_
    simp only [Act.put, List.setIfInBounds_toArray, List.set_cons_zero, List.set_cons_succ]
    refine we_pick (by rfl) _ _ _ rfl true rfl (.bool true) rfl ?_
    simp only [Act.put, List.setIfInBounds_toArray, List.set_cons_zero, List.set_cons_succ]
    refine we_move (by rfl) _ (.inl rfl) (.bool true) rfl ?_
    simp only [Act.put, List.setIfInBounds_toArray, List.set_cons_zero, List.set_cons_succ]
    refine we_off 7 21 false (by rfl) (by rfl) (by exact .inl rfl) ?_
    simp only [Act.put, List.setIfInBounds_toArray, List.set_cons_zero, List.set_cons_succ]
    refine we_off 7 21 false (by rfl) (by rfl) (by exact .inl rfl) ?_
    simp only [Act.put, List.setIfInBounds_toArray, List.set_cons_zero, List.set_cons_succ]
    refine we_off 7 21 false (by rfl) (by rfl) (by exact .inl rfl) ?_
    simp only [Act.put, List.setIfInBounds_toArray, List.set_cons_zero, List.set_cons_succ]
    refine we_off 7 21 false (by rfl) (by rfl) (by exact .inl rfl) ?_
    simp only [Act.put, List.setIfInBounds_toArray, List.set_cons_zero, List.set_cons_succ]
    refine we_off 7 21 false (by rfl) (by rfl) (by exact .inl rfl) ?_
    simp only [Act.put, List.setIfInBounds_toArray, List.set_cons_zero, List.set_cons_succ]
    refine we_off 7 21 false (by rfl) (by rfl) (by exact .inl rfl) ?_
    simp only [Act.put, List.setIfInBounds_toArray, List.set_cons_zero, List.set_cons_succ]
    refine we_pick (by rfl) _ _ _ rfl true rfl (.bool true) rfl ?_
    simp only [Act.put, List.setIfInBounds_toArray, List.set_cons_zero, List.set_cons_succ]
    refine we_nil ?_
    intro w2 b2
    go_wp2_with fail
    go_returns
    exact ⟨rfl, below_on B1.out.drew b2⟩
  | some q =>
    obtain ⟨t, r⟩ := q
    have hl := gt_len h
    rw [li_len] at hl
    have hlt := (gt_some h).2.1
    rw [tR_some h] at c1
    have ht : (mk t).size ≤ 9223372036854775000 := by rw [size_li, li_mk']; omega
    have c2 := Lib.hid (fun v => rtext_any (mk t) ht v)
    rw [li_mk'] at c2
    have hx := text_size t
    have c3 := Lib.hid (fun v => rcheck_any (mk (text t)) (by rw [size_li, li_mk']; omega) v)
    rw [li_mk'] at c3
    by_cases h4 : r.length < 4
    · have hV := Lib.hid (fR_none (gf_not h (Bool.eq_false_iff.2 (fun k => by
        obtain ⟨q, hq⟩ := List.isPrefixOf_iff_prefix.1 k
        have := congrArg List.length hq
        rw [List.length_append, chk_len] at this
        omega))))
      rw [hV.out]
      have tl : decide (((mk r).size : Int) < 4) = true := by rw [size_li, li_mk']; simp; omega
      revert c1 tl
      generalize mk r = R
      generalize mk t = T
      intro c1 tl
      clear h hV hl hlt ht c2 hx c3 h4
      go_enter Try.func21, Try.ntmps21
      go_wp2_with fail
      refine (c1.out _).mono ?_
      rintro e w1 ⟨rfl, b1⟩
      have B1 := Lib.hid b1
      clear b1
      go_wp2_with (refine park_region (fun Pk hX => ?_))
      refine hX.out ?_
      clear hX
      refine we_region (fun v => Below w1.drew.heap.size w1.drew v) (by kernel_rfl) (by kernel_rfl) (Below.refl _ _) ?_
      refine we_move (by rfl) _ (.inl rfl) (.bool true) rfl ?_
      simp only [Act.put, List.setIfInBounds_toArray, List.set_cons_zero, List.set_cons_succ]
      refine we_not (by rfl) _ _ rfl true rfl ?_
      simp only [Bool.not_true]
      simp only [Act.put, List.setIfInBounds_toArray, List.set_cons_zero, List.set_cons_succ]
      refine we_move (by rfl) _ (.inl rfl) (.bool false) rfl ?_
      simp only [Act.put, List.setIfInBounds_toArray, List.set_cons_zero, List.set_cons_succ]
      refine we_move (by rfl) _ (.inl rfl) (.string R) rfl ?_
      simp only [Act.put, List.setIfInBounds_toArray, List.set_cons_zero, List.set_cons_succ]
      refine we_len (by rfl) _ _ rfl (R) rfl Try.underlying9 ?_
      simp only [Act.put, List.setIfInBounds_toArray, List.set_cons_zero, List.set_cons_succ]
      refine we_icmp (by rfl) .lss _ _ _ _ rfl .i64 (((R).size : Int)) (4) rfl rfl true (tl) ?_
      simp only [Act.put, List.setIfInBounds_toArray, List.set_cons_zero, List.set_cons_succ]
      refine we_pick (by rfl) _ _ _ rfl false rfl (.bool true) rfl ?_
      simp only [Act.put, List.setIfInBounds_toArray, List.set_cons_zero, List.set_cons_succ]
      refine we_move (by rfl) _ (.inl rfl) (.bool true) rfl ?_
      simp only [Act.put, List.setIfInBounds_toArray, List.set_cons_zero, List.set_cons_succ]
      refine we_off 7 21 false (by rfl) (by rfl) (by exact .inl rfl) ?_
      simp only [Act.put, List.setIfInBounds_toArray, List.set_cons_zero, List.set_cons_succ]
      refine we_off 7 21 false (by rfl) (by rfl) (by exact .inl rfl) ?_
      simp only [Act.put, List.setIfInBounds_toArray, List.set_cons_zero, List.set_cons_succ]
      refine we_off 7 21 false (by rfl) (by rfl) (by exact .inl rfl) ?_
      simp only [Act.put, List.setIfInBounds_toArray, List.set_cons_zero, List.set_cons_succ]
      refine we_off 7 21 false (by rfl) (by rfl) (by exact .inl rfl) ?_
      simp only [Act.put, List.setIfInBounds_toArray, List.set_cons_zero, List.set_cons_succ]
      refine we_off 7 21 false (by rfl) (by rfl) (by exact .inl rfl) ?_
      simp only [Act.put, List.setIfInBounds_toArray, List.set_cons_zero, List.set_cons_succ]
      refine we_off 7 21 false (by rfl) (by rfl) (by exact .inl rfl) ?_
      simp only [Act.put, List.setIfInBounds_toArray, List.set_cons_zero, List.set_cons_succ]
      refine we_pick (by rfl) _ _ _ rfl true rfl (.bool true) rfl ?_
      simp only [Act.put, List.setIfInBounds_toArray, List.set_cons_zero, List.set_cons_succ]
      refine we_nil ?_
      intro w2 b2
      go_wp2_with fail
      go_returns
      exact ⟨rfl, below_on B1.out.drew b2⟩
    · have tl : decide (((mk r).size : Int) < 4) = false := by rw [size_li, li_mk']; simp; omega
      have h4' : 4 ≤ (mk r).size := by rw [size_li, li_mk']; omega
      have hx0 : Hid (li ((mk r).extract 0 4) = r.take 4) := by show _ = _; rw [li_ext, li_mk']; simp
      by_cases hE : r.take 4 = chk (text t)
      · have hV := Lib.hid (fR_some (gf_yes (q := r.drop 4) h (by rw [← hE, List.take_append_drop])))
        have tn : Hid ((!(((mk r).extract 0 4).toList == (mk (chk (text t))).toList)) = false) := by show _ = _; rw [toList_li, toList_li, hx0.out, li_mk', hE]; simp
        have e2 : Hid (mk (r.drop 4) = (mk r).extract 4 (mk r).size) := by show _ = _; apply li_inj; rw [li_mk', li_ext, size_li, li_mk', List.take_of_length_le (Nat.le_refl _)]
        rw [hV.out, e2.out]
        clear hx0 hE e2 hV hl hlt ht hx h
        revert c1 tl c2 c3 tn h4'
        generalize mk r = R
        generalize mk (chk (text t)) = Y
        generalize mk (text t) = X
        generalize mk t = T
        intro c1 c2 c3 tl h4' tn
        have i4 : (4 : Int) ≤ (R.size : Int) := by omega
        go_enter Try.func21, Try.ntmps21
        go_wp2_with fail
        refine (c1.out _).mono ?_
        rintro e w1 ⟨rfl, b1⟩
        have B1 := Lib.hid b1
        clear b1
        go_wp2_with (refine park_region (fun Pk hX => ?_))
        refine hX.out ?_
        clear hX
        refine we_region (fun v => Below w1.drew.heap.size w1.drew v) (by kernel_rfl) (by kernel_rfl) (Below.refl _ _) ?_
        refine we_move (by rfl) _ (.inl rfl) (.bool true) rfl ?_
        simp only [Act.put, List.setIfInBounds_toArray, List.set_cons_zero, List.set_cons_succ]
        refine we_not (by rfl) _ _ rfl true rfl ?_
        simp only [Bool.not_true]
        simp only [Act.put, List.setIfInBounds_toArray, List.set_cons_zero, List.set_cons_succ]
        refine we_move (by rfl) _ (.inl rfl) (.bool false) rfl ?_
        simp only [Act.put, List.setIfInBounds_toArray, List.set_cons_zero, List.set_cons_succ]
        refine we_move (by rfl) _ (.inl rfl) (.string R) rfl ?_
        simp only [Act.put, List.setIfInBounds_toArray, List.set_cons_zero, List.set_cons_succ]
        refine we_len (by rfl) _ _ rfl (R) rfl Try.underlying9 ?_
        simp only [Act.put, List.setIfInBounds_toArray, List.set_cons_zero, List.set_cons_succ]
        refine we_icmp (by rfl) .lss _ _ _ _ rfl .i64 (((R).size : Int)) (4) rfl rfl false (tl) ?_
        simp only [Act.put, List.setIfInBounds_toArray, List.set_cons_zero, List.set_cons_succ]
        refine we_pick (by rfl) _ _ _ rfl false rfl (.bool false) rfl ?_
        simp only [Act.put, List.setIfInBounds_toArray, List.set_cons_zero, List.set_cons_succ]
        refine we_move (by rfl) _ (.inl rfl) (.bool false) rfl ?_
        simp only [Act.put, List.setIfInBounds_toArray, List.set_cons_zero, List.set_cons_succ]
        refine we_move (by rfl) _ (.inl rfl) (.string R) rfl ?_
        simp only [Act.put, List.setIfInBounds_toArray, List.set_cons_zero, List.set_cons_succ]
        refine we_sub (by rfl) _ _ _ _ rfl Try.underlying9 (R) rfl (none) (some 4) rfl rfl 0 4 (rfl) (rfl) (by omega) (by omega) ?_
        simp only [Act.put, List.setIfInBounds_toArray, List.set_cons_zero, List.set_cons_succ]
        refine we_move (by rfl) _ (.inl rfl) (.string T) rfl ?_
        simp only [Act.put, List.setIfInBounds_toArray, List.set_cons_zero, List.set_cons_succ]
        refine we_call1 (by rfl) 23 _ _ rfl ent23 (.string T) rfl (.string X) (below_call c2.out) ?_
        simp only [Act.put, List.setIfInBounds_toArray, List.set_cons_zero, List.set_cons_succ]
        refine we_call1 (by rfl) 36 _ _ rfl ent36 (.string X) rfl (.string Y) (below_call c3.out) ?_
        simp only [Act.put, List.setIfInBounds_toArray, List.set_cons_zero, List.set_cons_succ]
        refine we_sne (by rfl) _ _ _ _ rfl ((R.extract 0 4)) (Y) rfl rfl false (tn.out) ?_
        simp only [Act.put, List.setIfInBounds_toArray, List.set_cons_zero, List.set_cons_succ]
        refine we_pick (by rfl) _ _ _ rfl false rfl (.bool false) rfl ?_
        simp only [Act.put, List.setIfInBounds_toArray, List.set_cons_zero, List.set_cons_succ]
        refine we_nil ?_
        intro w2 b2
        go_wp2_with fail
        go_region
        go_wp2_with fail
        go_returns
        exact ⟨rfl, (below_on B1.out.drew b2).drew⟩
      · have hV := Lib.hid (fR_none (gf_not h (Bool.eq_false_iff.2 (fun k => by
          obtain ⟨q, hq⟩ := List.isPrefixOf_iff_prefix.1 k
          apply hE
          rw [← hq]
          exact List.take_left' (chk_len _)))))
        have tn : Hid ((!(((mk r).extract 0 4).toList == (mk (chk (text t))).toList)) = true) := by show _ = _; rw [toList_li, toList_li, hx0.out, li_mk']; simpa using hE
        rw [hV.out]
        clear hx0 hE hV hl hlt ht hx h
        revert c1 tl c2 c3 tn h4'
        generalize mk r = R
        generalize mk (chk (text t)) = Y
        generalize mk (text t) = X
        generalize mk t = T
        intro c1 c2 c3 tl h4' tn
        go_enter Try.func21, Try.ntmps21
        go_wp2_with fail
        refine (c1.out _).mono ?_
        rintro e w1 ⟨rfl, b1⟩
        have B1 := Lib.hid b1
        clear b1
        go_wp2_with (refine park_region (fun Pk hX => ?_))
        refine hX.out ?_
        clear hX
        refine we_region (fun v => Below w1.drew.heap.size w1.drew v) (by kernel_rfl) (by kernel_rfl) (Below.refl _ _) ?_
        refine we_move (by rfl) _ (.inl rfl) (.bool true) rfl ?_
        simp only [Act.put, List.setIfInBounds_toArray, List.set_cons_zero, List.set_cons_succ]
        refine we_not (by rfl) _ _ rfl true rfl ?_
        simp only [Bool.not_true]
        simp only [Act.put, List.setIfInBounds_toArray, List.set_cons_zero, List.set_cons_succ]
        refine we_move (by rfl) _ (.inl rfl) (.bool false) rfl ?_
        simp only [Act.put, List.setIfInBounds_toArray, List.set_cons_zero, List.set_cons_succ]
        refine we_move (by rfl) _ (.inl rfl) (.string R) rfl ?_
        simp only [Act.put, List.setIfInBounds_toArray, List.set_cons_zero, List.set_cons_succ]
        refine we_len (by rfl) _ _ rfl (R) rfl Try.underlying9 ?_
        simp only [Act.put, List.setIfInBounds_toArray, List.set_cons_zero, List.set_cons_succ]
        refine we_icmp (by rfl) .lss _ _ _ _ rfl .i64 (((R).size : Int)) (4) rfl rfl false (tl) ?_
        simp only [Act.put, List.setIfInBounds_toArray, List.set_cons_zero, List.set_cons_succ]
        refine we_pick (by rfl) _ _ _ rfl false rfl (.bool false) rfl ?_
        simp only [Act.put, List.setIfInBounds_toArray, List.set_cons_zero, List.set_cons_succ]
        refine we_move (by rfl) _ (.inl rfl) (.bool false) rfl ?_
        simp only [Act.put, List.setIfInBounds_toArray, List.set_cons_zero, List.set_cons_succ]
        refine we_move (by rfl) _ (.inl rfl) (.string R) rfl ?_
        simp only [Act.put, List.setIfInBounds_toArray, List.set_cons_zero, List.set_cons_succ]
        refine we_sub (by rfl) _ _ _ _ rfl Try.underlying9 (R) rfl (none) (some 4) rfl rfl 0 4 (rfl) (rfl) (by omega) (by omega) ?_
        simp only [Act.put, List.setIfInBounds_toArray, List.set_cons_zero, List.set_cons_succ]
        refine we_move (by rfl) _ (.inl rfl) (.string T) rfl ?_
        simp only [Act.put, List.setIfInBounds_toArray, List.set_cons_zero, List.set_cons_succ]
        refine we_call1 (by rfl) 23 _ _ rfl ent23 (.string T) rfl (.string X) (below_call c2.out) ?_
        simp only [Act.put, List.setIfInBounds_toArray, List.set_cons_zero, List.set_cons_succ]
        refine we_call1 (by rfl) 36 _ _ rfl ent36 (.string X) rfl (.string Y) (below_call c3.out) ?_
        simp only [Act.put, List.setIfInBounds_toArray, List.set_cons_zero, List.set_cons_succ]
        refine we_sne (by rfl) _ _ _ _ rfl ((R.extract 0 4)) (Y) rfl rfl true (tn.out) ?_
        simp only [Act.put, List.setIfInBounds_toArray, List.set_cons_zero, List.set_cons_succ]
        refine we_pick (by rfl) _ _ _ rfl false rfl (.bool true) rfl ?_
        simp only [Act.put, List.setIfInBounds_toArray, List.set_cons_zero, List.set_cons_succ]
        refine we_nil ?_
        intro w2 b2
        go_wp2_with fail
        go_returns
        exact ⟨rfl, below_on B1.out.drew b2⟩
end Go.Proofs.Ytgaggncepknafaa
