/-
  The walk of ChainInputs at each other head.
-/
import Derived.Test.YtfilolmbppjbjaaIFacts2
namespace Go.Proofs.Ytfilolmbppjbjaa
open Go Go.RowKit
set_option linter.unusedVariables false

set_option maxRecDepth 100000 in
set_option maxHeartbeats 2000000 in
theorem inputs_next (l : List Ev) (k : Nat) (n : Int) (hkl : k < l.length) (hn : Hid (n = ((k + 1 : Nat) : Int))) (hl : Hid ((l.length : Int) ≤ 9223372036854775807 ∧ (∀ e ∈ l, e.name.length ≤ 9223372036854775807) ∧ ∀ e ∈ l, e.wf)) (p : Option Addr) (cap : Nat) (w : World) (hE : Hid (EvsAt w.heap.size w p l)) (hq : Hid (fewB l = true)) (fl : Hid (Fit l ∧ l.length ≤ 20)) (ol : Hid (l.all okP = true)) :
    Calls Try.prog 5 #[.slice p l.length cap, .int .i64 n] w fun e w' => e = .returned (.bool true) ∧ Below w.heap.size w w' := by
  have h20 : l.length ≤ 20 := fl.out.2
  have hTl : Hid ((told l).length = l.length + 1) := Lib.hid (told_ok_len ol.out)
  obtain ⟨D, hDe⟩ : ∃ D, Hid (headD startD (l.take (k + 1)) = D) := ⟨_, Lib.hid rfl⟩
  have hD : Hid (D.length = 32) := Lib.hid (by rw [← hDe.out]; exact headD_len _ _ startD_len)
  have hs := Lib.hid (inp_sha ol.out fl.out.1 (k + 1) (by omega))
  have hz := Lib.hid (inp_next ol.out k hkl)
  obtain ⟨S, hS⟩ : ∃ S, Hid (inpD l ((k + 1 : Nat) : Int) = S) := ⟨_, Lib.hid rfl⟩
  have cO : Hid (∀ v, Calls Try.prog 13 #[.string ⟨S.toArray⟩] v fun e v' => e = .returned (.agg (row D)) ∧ Below v.heap.size v v') := Lib.hid (fun v => by
    have e1 := hs.out.1
    rw [hS.out, hDe.out] at e1
    rw [← e1]
    exact sh.of_any ⟨S.toArray⟩ (by have := hs.out.2; rw [hS.out] at this; show S.toArray.size ≤ 4000; simp; omega) v)
  go_enter Try.func5, Try.ntmps5
  go_wp2_with fail
  refine (works_any _).mono ?_
  rintro e v0 ⟨rfl, b0⟩
  have K0 := Lib.hid ((KW.start w).past b0)
  have fa := Lib.hid (few_any l hl.out.1 hl.out.2.1 p cap v0 ((hE.out.past b0).mono b0.size))
  rw [hq.out] at fa
  clear b0
  go_wp2_with fail
  refine fa.out.mono ?_
  rintro e u ⟨rfl, rfl⟩
  clear fa
  have ch1 := Lib.hid (heads_any l fl.out.1 (by omega) p cap v0 ((hE.out.past K0.out.bel).mono K0.out.size))
  go_wp2_with fail
  refine ch1.out.mono ?_
  rintro r v1 ⟨x, rfl, ho, b1⟩
  rcases own_cells (fun y hy => (told_fine l fl.out.1 y hy).2) ho with ⟨_, h0⟩ | ⟨gh, ch, curh, hxe, hg1, hgh, hld⟩
  · exfalso; have := hTl.out; rw [h0] at this; simp at this
  rw [hTl.out] at hxe
  subst hxe
  have K1 : Hid (KW w.heap.size w [(gh, .cells curh 26)] v1) := Lib.hid ((K0.out.past b1).know gh _ hgh (by simp))
  have ldh : Hid (∀ u : World, u.heap[gh]? = some (.cells curh 26) → (Instr.loadAt 26 (.pointer (some ⟨gh, (k + 1) * 32, none⟩))).run Try.prog u = .ok (.agg (row D)) u) := Lib.hid (fun u hu => by
    have h := (hld (k + 1) (by rw [hTl.out]; omega)).1 u hu
    rw [told_at ol.out (k + 1), hDe.out] at h
    exact h)
  obtain ⟨E, hEe⟩ : ∃ E, Hid (headD startD (l.take k) = E) := ⟨_, Lib.hid rfl⟩
  have hEl : Hid (E.length = 32) := Lib.hid (by rw [← hEe.out]; exact headD_len _ _ startD_len)
  have cvh : Hid (∀ u : World, u.heap[gh]? = some (.cells curh 26) → (convert 44 9 (.slice (some ⟨gh, k * 32, none⟩) 32 32)).run Try.prog u = .ok (.string ⟨E.toArray⟩) u) := Lib.hid (fun u hu => by
    have h := (hld k (by rw [hTl.out]; omega)).2
    rw [told_at ol.out k, hEe.out] at h
    exact conv_mid u gh (k * 32) 26 curh E hEl.out hu h)
  clear ho b1 hg1 hgh hld ch1
  have ci := Lib.hid (input_any l fl.out.1 (by omega) n p cap v1 ((hE.out.past K1.out.bel).mono K1.out.size))
  rw [hn.out, hS.out, ← hn.out] at ci
  go_wp2_with fail
  refine ci.out.mono ?_
  rintro r v2 ⟨rfl, b2⟩
  have K2 := Lib.hid ((K1.out.past b2).drew)
  clear b2 ci
  have t0 : decide (n < 0) = false := by have := hn.out; exact decide_eq_false (by omega)
  have t1 : decide (((l.length : Int) + 1) ≤ n) = false := by have := hn.out; exact decide_eq_false (by omega)
  have t2 : decide (((l.length + 1 : Nat) : Int) ≤ n) = false := by have := hn.out; exact decide_eq_false (by omega)
  have t3 : (n == 0) = false := by have := hn.out; simp; omega
  have ixh : Hid (∀ v, (Instr.indexAt 35 (.slice (some ⟨gh, 0, none⟩) (l.length + 1) ch) (.int .i64 n)).run Try.prog v = .ok (.pointer (some ⟨gh, (k + 1) * 32, none⟩)) v) := Lib.hid (fun v => by rw [hn.out]; exact index35 gh (l.length + 1) ch (k + 1) (by omega) v)
  have eqD : Hid (∀ v, (Op.equalIn 10000 26 (.agg (row D)) (.agg (row D))).run Try.prog v = .ok true v) := Lib.hid (fun v => (eql_dig D D hD.out hD.out v).trans (by simp))
  go_wp2_with (refine park_region (fun Pk hX => ?_))
  refine hX.out ?_
  clear hX
  refine wp_region_class (KW w.heap.size w [(gh, .cells curh 26)]) (by kernel_rfl) (by kernel_rfl) K2.out ?_
  refine wpQuiet_move (by rfl) _ (.inl rfl) (.string ⟨S.toArray⟩) rfl ?_
  refine wpQuiet_call1 (by rfl) 13 (.tmp 38) _ rfl ent13 (.string ⟨S.toArray⟩) rfl (.agg (row D)) (fun v h => (cO.out v).mono fun e v' ⟨he, hb⟩ => ⟨he, h.past hb⟩) ?_
  refine wpQuiet_move (by rfl) _ (.inl rfl) (.slice (some ⟨gh, 0, none⟩) (l.length + 1) ch) rfl ?_
  refine wpQuiet_move (by rfl) _ (.inl rfl) (.int .i64 n) rfl ?_
  refine wpQuiet_index (by rfl) 35 _ _ rfl _ _ rfl rfl _ ixh.out ?_
  refine wpQuiet_mid (by rfl) 26 _ rfl gh ((k + 1) * 32) rfl (.agg (row D)) (fun v h => ldh.out v (h.at 0 rfl)) ?_
  simp only [Act.put, List.setIfInBounds_toArray, List.set_cons_zero, List.set_cons_succ]
  refine wpQuiet_dne (by rfl) _ _ _ _ rfl (row D) (row D) rfl rfl (by kernel_rfl) true eqD.out ?_
  simp only [Act.put, List.setIfInBounds_toArray, List.set_cons_zero, List.set_cons_succ]
  refine wpQuiet_nil ?_
  intro x hx
  have hx' := Lib.hid hx
  clear hx
  obtain ⟨e, hee⟩ : ∃ e, Hid (l[k] = e) := ⟨_, Lib.hid rfl⟩
  have hef : Hid (e.fit) := Lib.hid (by rw [← hee.out]; exact fl.out.1 _ (List.getElem_mem hkl))
  have heo : Hid (okP e = true) := Lib.hid (by rw [← hee.out]; exact List.all_eq_true.1 ol.out _ (List.getElem_mem hkl))
  have hSe : Hid (S = E ++ putE e) := Lib.hid (by rw [← hS.out, hz.out, hEe.out, hee.out])
  have hSl : Hid (32 < S.length ∧ S.length ≤ 600) := Lib.hid (by
    have h1 := hs.out.2
    rw [hS.out] at h1
    refine ⟨?_, h1⟩
    rw [hSe.out, List.length_append, hEl.out]
    have := putE_pos e
    omega)
  have hcut : Hid ((⟨S.toArray⟩ : ByteArray).extract (min 32 (S.length : Int)).toNat S.length = mk (putE e)) := Lib.hid (by
    have h32 : (min 32 (S.length : Int)).toNat = 32 := by have := hSl.out.1; omega
    rw [h32]
    apply ByteArray.ext
    rw [ByteArray.data_extract]
    unfold mk
    show S.toArray.extract 32 S.length = (putE e).toArray
    apply Array.ext'
    rw [Array.toList_extract, List.toList_toArray, hSe.out]
    simp [List.extract, hEl.out])
  have hhead : Hid ((⟨S.toArray⟩ : ByteArray).extract 0 32 = (⟨E.toArray⟩ : ByteArray)) := Lib.hid (by
    apply ByteArray.ext
    rw [ByteArray.data_extract]
    show S.toArray.extract 0 32 = E.toArray
    apply Array.ext'
    rw [Array.toList_extract, List.toList_toArray, hSe.out]
    simp [List.extract, hEl.out])
  have gt : Hid (∀ v, Calls Try.prog 17 #[.string (mk (putE e))] v fun x w' => x = .returned (.tuple #[.agg (evr e), .string (mk []), .bool true]) ∧ Below v.heap.size v w') := Lib.hid (fun v => by
    have h := get_any e hef.out heo.out [] (by rw [List.append_nil]; have := putE_len e hef.out; omega) v
    rw [List.append_nil] at h
    exact h)
  have gx := Lib.hid (gt.out x)
  go_wp2_with fail
  rw [hcut.out]
  refine gx.out.mono ?_
  rintro r v3 ⟨rfl, b3⟩
  have K3 := Lib.hid (hx'.out.past b3)
  clear b3 gx
  obtain ⟨b1, o1, rfl, hr1⟩ := hE.out.at k hkl
  rw [hee.out] at hr1
  have z37 : Hid ((evr e).size = 37) := Lib.hid (by rw [evr_size, hef.out.w.s])
  have i41 : Hid ((Try.prog.info? 41).map (·.size) = some (evr e).size) := Lib.hid (by rw [z37.out]; exact info41)
  have one41 : Hid ((evr e).all (·.oneCell') = true) := Lib.hid (by unfold evr; rw [Array.all_append, row_one]; simp [Value.oneCell'])
  have K4 := Lib.hid (K3.out.new (.cells #[.int .i64 0, .int .i64 0, .string ⟨#[]⟩, .int .i64 0, .int .i64 0, .int .u8 0, .int .u8 0, .int .u8 0, .int .u8 0, .int .u8 0, .int .u8 0, .int .u8 0, .int .u8 0, .int .u8 0, .int .u8 0, .int .u8 0, .int .u8 0, .int .u8 0, .int .u8 0, .int .u8 0, .int .u8 0, .int .u8 0, .int .u8 0, .int .u8 0, .int .u8 0, .int .u8 0, .int .u8 0, .int .u8 0, .int .u8 0, .int .u8 0, .int .u8 0, .int .u8 0, .int .u8 0, .int .u8 0, .int .u8 0, .int .u8 0, .int .u8 0] 41))
  have K5 := Lib.hid (K4.out.row 0 rfl K3.out.size (evr e))
  have K6 := Lib.hid K5.out.drew
  have nx := Lib.hid (show n - 1 = (k : Int) by have := hn.out; omega)
  have bd : Hid (-9223372036854775808 ≤ n - 1 ∧ n - 1 ≤ 9223372036854775807) := Lib.hid (by have := hn.out; omega)
  have ix35 : Hid (∀ v, (Instr.indexAt 35 (.slice (some ⟨gh, 0, none⟩) (l.length + 1) ch) (.int .i64 (k : Int))).run Try.prog v = .ok (.pointer (some ⟨gh, k * 32, none⟩)) v) := Lib.hid (fun v => index35 gh (l.length + 1) ch k (by omega) v)
  have ix22 : Hid (∀ v, (Instr.indexAt 22 (.slice (some ⟨b1, o1, none⟩) l.length cap) (.int .i64 (k : Int))).run Try.prog v = .ok (.pointer (some ⟨b1, o1 + k * 37, none⟩)) v) := Lib.hid (fun v => index22 b1 o1 l.length cap k hkl v)
  have ld1 : Hid (∀ v, Below w.heap.size w v → (Instr.loadAt 41 (.pointer (some ⟨b1, o1 + k * 37, none⟩))).run Try.prog v = .ok (.agg (evr e)) v) := Lib.hid (fun v h => load_ev e hef.out.w.s b1 (o1 + k * 37) v (hr1 v h))
  have eqE : Hid (∀ v, (Op.equalIn 10000 41 (.agg (evr e)) (.agg (evr e))).run Try.prog v = .ok true v) := Lib.hid (fun v => (eql_ev e e hef.out.w.s hef.out.w.s v).trans (by rw [(evB_iff e e).2 rfl]))
  have szS : Hid ((⟨S.toArray⟩ : ByteArray).size = S.length) := Lib.hid (by show S.toArray.size = _; simp)
  have big : Hid (decide ((32 : Int) < (((⟨S.toArray⟩ : ByteArray).size : Nat) : Int)) = true) := Lib.hid (decide_eq_true (by have := hSl.out.1; rw [szS.out]; omega))
  have big2 : Hid (32 ≤ (⟨S.toArray⟩ : ByteArray).size) := Lib.hid (by have := hSl.out.1; rw [szS.out]; omega)
  clear hr1
  go_wp2_with (refine wpList_store_row rfl 41 (.tmp 9) (.tmp 59) rfl _ (evr e) rfl rfl 41 _ (K4.out.at 0 rfl) i41.out (by rw [z37.out]; rfl) one41.out ?_)
  go_wp2_with (refine park_region (fun Pk hX => ?_))
  refine hX.out ?_
  clear hX
  refine wp_region_class (KW w.heap.size w [(v3.heap.size, .cells (evr e) 41), (gh, .cells curh 26)]) (by kernel_rfl) (by kernel_rfl) K6.out ?_
  refine wpQuiet_move (by rfl) _ (.inl rfl) (.bool true) rfl ?_
  refine wpQuiet_move (by rfl) _ (.inl rfl) (.bool true) rfl ?_
  refine wpQuiet_move (by rfl) _ (.inl rfl) (.string ⟨S.toArray⟩) rfl ?_
  refine wpQuiet_len (by rfl) 9 _ rfl ⟨S.toArray⟩ rfl Try.underlying9 ?_
  simp only [Act.put, List.setIfInBounds_toArray, List.set_cons_zero, List.set_cons_succ]
  refine wpQuiet_icmp (by rfl) .gtr _ _ _ _ rfl .i64 _ 32 rfl rfl true big.out ?_
  refine wpQuiet_pick (by rfl) _ _ _ rfl true rfl (.bool true) rfl ?_
  refine wpQuiet_move (by rfl) _ (.inl rfl) (.bool true) rfl ?_
  simp only [Act.put, List.setIfInBounds_toArray, List.set_cons_zero, List.set_cons_succ]
  refine wpQuiet_move (by rfl) _ (.inl rfl) (.string ⟨S.toArray⟩) rfl ?_
  refine wpQuiet_sub (by rfl) 9 _ none (some (.const (.int .i64 32))) rfl Try.underlying9 ⟨S.toArray⟩ rfl none (some 32) rfl rfl 0 32 rfl rfl (by decide) big2.out ?_
  rw [hhead.out]
  simp only [Act.put, List.setIfInBounds_toArray, List.set_cons_zero, List.set_cons_succ]
  refine wpQuiet_move (by rfl) _ (.inl rfl) (.slice (some ⟨gh, 0, none⟩) (l.length + 1) ch) rfl ?_
  refine wpQuiet_move (by rfl) _ (.inl rfl) (.int .i64 n) rfl ?_
  refine wpQuiet_isub (by rfl) _ _ _ _ rfl n 1 rfl rfl bd.out ?_
  rw [nx.out]
  simp only [Act.put, List.setIfInBounds_toArray, List.set_cons_zero, List.set_cons_succ]
  refine wpQuiet_index (by rfl) 35 _ _ rfl _ _ rfl rfl _ ix35.out ?_
  refine wpQuiet_val (by rfl) (.slice (some ⟨gh, k * 32, none⟩) 32 32) (fun u _ => run_val (slice_mid gh (k * 32) u)) ?_
  simp only [Act.put, List.setIfInBounds_toArray, List.set_cons_zero, List.set_cons_succ]
  refine wpQuiet_conv (by rfl) 44 9 _ rfl _ (.string ⟨E.toArray⟩) rfl (fun v h => cvh.out v (h.at 1 rfl)) ?_
  simp only [Act.put, List.setIfInBounds_toArray, List.set_cons_zero, List.set_cons_succ]
  refine wpQuiet_seq (by rfl) _ _ _ _ rfl ⟨E.toArray⟩ ⟨E.toArray⟩ rfl rfl true (by simp) ?_
  refine wpQuiet_pick (by rfl) _ _ _ rfl true rfl (.bool true) rfl ?_
  refine wpQuiet_move (by rfl) _ (.inl rfl) (.bool true) rfl ?_
  simp only [Act.put, List.setIfInBounds_toArray, List.set_cons_zero, List.set_cons_succ]
  refine wpQuiet_move (by rfl) _ (.inl rfl) (.bool true) rfl ?_
  refine wpQuiet_pick (by rfl) _ _ _ rfl true rfl (.bool true) rfl ?_
  refine wpQuiet_move (by rfl) _ (.inl rfl) (.bool true) rfl ?_
  simp only [Act.put, List.setIfInBounds_toArray, List.set_cons_zero, List.set_cons_succ]
  refine wpQuiet_load (by rfl) 41 _ rfl v3.heap.size rfl 41 (evr e) _ (fun v h => h.at 0 rfl) Try.underlying41 rfl i41.out ?_
  simp only [Act.put, List.setIfInBounds_toArray, List.set_cons_zero, List.set_cons_succ]
  refine wpQuiet_move (by rfl) _ (.inl rfl) (.slice (some ⟨b1, o1, none⟩) l.length cap) rfl ?_
  refine wpQuiet_move (by rfl) _ (.inl rfl) (.int .i64 n) rfl ?_
  refine wpQuiet_isub (by rfl) _ _ _ _ rfl n 1 rfl rfl bd.out ?_
  rw [nx.out]
  simp only [Act.put, List.setIfInBounds_toArray, List.set_cons_zero, List.set_cons_succ]
  refine wpQuiet_index (by rfl) 22 _ _ rfl _ _ rfl rfl _ ix22.out ?_
  refine wpQuiet_mid (by rfl) 41 _ rfl b1 (o1 + k * 37) rfl (.agg (evr e)) (fun v h => ld1.out v h.bel) ?_
  simp only [Act.put, List.setIfInBounds_toArray, List.set_cons_zero, List.set_cons_succ]
  refine wpQuiet_deq (by rfl) _ _ _ _ rfl (evr e) (evr e) rfl rfl (by kernel_rfl) true eqE.out ?_
  refine wpQuiet_pick (by rfl) _ _ _ rfl true rfl (.bool true) rfl ?_
  refine wpQuiet_move (by rfl) _ (.inl rfl) (.bool true) rfl ?_
  simp only [Act.put, List.setIfInBounds_toArray, List.set_cons_zero, List.set_cons_succ]
  refine wpQuiet_move (by rfl) _ (.inl rfl) (.string (mk [])) rfl ?_
  refine wpQuiet_seq (by rfl) _ _ _ _ rfl (mk []) ⟨#[]⟩ rfl rfl true (by show ((⟨#[]⟩ : ByteArray).toList == (⟨#[]⟩ : ByteArray).toList) = true; simp) ?_
  refine wpQuiet_pick (by rfl) _ _ _ rfl true rfl (.bool true) rfl ?_
  refine wpQuiet_move (by rfl) _ (.inr rfl) (.bool true) rfl ?_
  simp only [Act.put, List.setIfInBounds_toArray, List.set_cons_zero, List.set_cons_succ]
  refine wpQuiet_nil ?_
  intro y hy
  go_wp2_with fail
  go_ret
  exact ⟨rfl, hy.bel⟩
end Go.Proofs.Ytfilolmbppjbjaa
