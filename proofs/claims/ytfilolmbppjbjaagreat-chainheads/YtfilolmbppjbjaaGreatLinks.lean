/-
  What 'links' tells: the inputs, and the heads, of a row of events, whatever loop it is told to.
-/
import Derived.Test.YtfilolmbppjbjaaGreatInRows
namespace Go.Proofs.YtfilolmbppjbjaaGreat
open Go Go.RowKit

def tld (d : List UInt8) : List Ev → List (List UInt8 × List UInt8)
  | [] => []
  | e :: l => (d ++ putE e, nextD d e) :: tld (nextD d e) l
def told (l : List Ev) : List (List UInt8 × List UInt8) := if l.all okP then (CEN, startD) :: tld startD l else []
theorem tld_snoc (d : List UInt8) (l : List Ev) (e : Ev) : tld d (l ++ [e]) = tld d l ++ [(headD d l ++ putE e, nextD (headD d l) e)] := by
  induction l generalizing d with
  | nil => rfl
  | cons x l ih => simp only [List.cons_append, tld, ih]; rfl
theorem tld_take (d : List UInt8) (l : List Ev) (k : Nat) : tld d (l.take k) <+: tld d l := by
  induction l generalizing d k with
  | nil => simp [tld]
  | cons e l ih =>
    cases k with
    | zero => simp [tld]
    | succ k => simp only [List.take_succ_cons, tld]; exact List.cons_prefix_cons.2 ⟨rfl, ih _ _⟩
def encL (x : List UInt8 × List UInt8) : Array Value := #[.string ⟨x.1.toArray⟩, .agg (row x.2)]

/-- What the iterator knows between two rounds. -/
structure LW (J : List (List UInt8 × List UInt8) → World → Prop) (A : Nat → World → Prop) (n₀ : Nat) (W0 : World) (cb : Nat) (co : Obj) (hb : Nat) (pre : List (List UInt8 × List UInt8)) (D : List UInt8) (v : World) : Prop where
  j : J pre v
  ac : A cb v ∨ cb < n₀
  cc : v.heap[cb]? = some co
  ah : A hb v
  hh : v.heap[hb]? = some (.cells (row D) 23)
  bel : Below n₀ W0 v
  ne : cb ≠ hb
  ge : n₀ ≤ hb
  le : n₀ ≤ W0.heap.size
section
variable {J : List (List UInt8 × List UInt8) → World → Prop} {A : Nat → World → Prop} {n₀ : Nat} {W0 : World} {cb : Nat} {co : Obj} {hb : Nat} {pre : List (List UInt8 × List UInt8)} {D : List UInt8} {v : World}
theorem LW.past (h : LW J A n₀ W0 cb co hb pre D v) (hJg : ∀ s X Y, J s X → Below X.heap.size X Y → J s Y) (hAg : ∀ b X Y, A b X → Below X.heap.size X Y → A b Y) {v' : World} (hB : Below v.heap.size v v') : LW J A n₀ W0 cb co hb pre D v' :=
  { h with
    j := hJg _ _ _ h.j hB
    ac := h.ac.imp (fun q => hAg _ _ _ q hB) id
    cc := (hB.block _ (lt_of_some h.cc)).trans h.cc
    ah := hAg _ _ _ h.ah hB
    hh := (hB.block _ (lt_of_some h.hh)).trans h.hh
    bel := h.bel.trans (hB.mono (Nat.le_trans h.le h.bel.size)) }
theorem LW.row (h : LW J A n₀ W0 cb co hb pre D v) (hJr : ∀ s b X c, J s X → A b X → J s (X.setRow b c)) (hAr : ∀ b b' X c, A b X → A b' X → A b (X.setRow b' c)) (D' : List UInt8) : LW J A n₀ W0 cb co hb pre D' (v.setRow hb (row D')) :=
  { h with
    j := hJr _ _ _ _ h.j h.ah
    ac := h.ac.imp (fun q => hAr _ _ _ _ q h.ah) id
    cc := by rw [setRow_other _ _ _ _ h.ne]; exact h.cc
    ah := hAr _ _ _ _ h.ah h.ah
    hh := setRow_heap _ _ _ _ _ _ h.hh
    bel := below_setRow h.bel h.ge _ }
theorem LW.round {cc : Array Value} {tt : TypeId} (h : LW J A n₀ W0 cb (.cells cc tt) hb pre D v) {pre' : List (List UInt8 × List UInt8)} {v' : World} (hj : J pre' v') (hk : Keep n₀ A v v') : LW J A n₀ W0 cb (.cells cc tt) hb pre' D v' :=
  { h with
    j := hj
    ac := h.ac.imp (fun q => (hk.2 _ _ _ q h.cc).1) id
    cc := h.ac.elim (fun q => (hk.2 _ _ _ q h.cc).2) (fun q => (hk.1.block _ q).trans h.cc)
    ah := (hk.2 _ _ _ h.ah h.hh).1
    hh := (hk.2 _ _ _ h.ah h.hh).2
    bel := h.bel.trans hk.1 }
end

set_option maxRecDepth 100000 in
set_option maxHeartbeats 1000000 in
theorem links1 (l : List Ev) (hl : Fit l) (hn : l.length ≤ 1000) (p : Option Addr) (cap n₀ cb : Nat) (w : World) (hn₀ : n₀ ≤ w.heap.size) (hE : EvsAt n₀ w p l) (m : Nat) (hm : 1 ≤ m) :
    SeqX Fence.wide m Tryz.prog 34 #[.pointer (some ⟨cb, 0, none⟩)] encL n₀ cb (.cells #[.slice p l.length cap] 24) (told l) w := by
  intro lp J Jx A W hW hAc hcb hJg hJr hAg hAr hAn hY h0
  have hE' := Lib.hid (hE.past (hW.mono hn₀))
  have hfit := Lib.hid hl
  have hll : (l.length : Int) ≤ 1000 := by omega
  have hnW : Hid (n₀ ≤ W.heap.size) := Lib.hid (Nat.le_trans hn₀ hW.size)
  have cv := Lib.hid (fun v (h : EvsAt v.heap.size v p l) => valid_all l hl hn p cap v h)
  have hcell : W.cell? ⟨cb, 0, none⟩ = some (.slice p l.length cap) := cell_of_row W cb 0 _ _ _ hcb
  have cv1 := Lib.hid (cv.out W (hE'.out.mono hnW.out))
  clear hE hl hW hn₀
  refine callsIn_of_wp Tryz.func34 rfl trivial ?_ rfl
  simp only [Tryz.ntmps34, List.size_toArray, List.length_cons, List.length_nil, Nat.reduceAdd, Nat.reduceSub, Array.replicate_succ, Array.replicate_zero, List.push_toArray, List.append_toArray, List.nil_append, List.cons_append]
  cases hok : l.all okP with
  | false =>
    rw [hok] at cv1
    have hT : Hid (told l = []) := Lib.hid (by unfold told; rw [hok]; rfl)
    clear hok
    gi_wp2_with fail
    refine ⟨trivial, (callsIn_wide.2 cv1.out).mono ?_⟩
    rintro e W' ⟨rfl, hB⟩
    gi_wp2_with fail
    refine bodyPost_ret (results_none rfl _ _ _) rfl ?_
    exact ⟨⟨_, rfl⟩, .inl (by rw [hT.out]; exact hJg _ _ _ h0 hB)⟩
  | true =>
    rw [hok] at cv1
    have hT : Hid (told l = (CEN, startD) :: tld startD l) := Lib.hid (by unfold told; rw [hok]; rfl)
    have hall := Lib.hid (List.all_eq_true.1 hok)
    have hz := zero26
    have hz41 := z41
    have hstl : Hid (startD.length = 32) := Lib.hid (sha_len _)
    clear hok
    gi_wp2_with fail
    refine ⟨trivial, (callsIn_wide.2 cv1.out).mono ?_⟩
    rintro e W1 ⟨rfl, hB1⟩
    have hJ1 := Lib.hid (hJg _ _ _ h0 hB1)
    have hA1 := Lib.hid (hAc.imp (fun q => hAg _ _ _ q hB1) id)
    have hc1 := Lib.hid ((hB1.block _ (lt_of_some hcb)).trans hcb)
    have hw1 := Lib.hid (hB1.mono hnW.out)
    clear hB1 h0 hAc hcb hcell
    gi_wp2_with fail
    refine ⟨trivial, (callsIn_wide.2 (start_any W1)).mono ?_⟩
    rintro e W2 ⟨rfl, hB2⟩
    have hJ2 := Lib.hid (hJg _ _ _ hJ1.out hB2)
    have hA2 := Lib.hid (hA1.out.imp (fun q => hAg _ _ _ q hB2) id)
    have hc2 := Lib.hid ((hB2.block _ (lt_of_some hc1.out)).trans hc1.out)
    have hw2 := Lib.hid (hw1.out.trans (hB2.mono (Nat.le_trans hnW.out hw1.out.size)))
    clear hB2 hJ1 hA1 hc1 hw1
    have hL0 : Hid (LW J A n₀ W cb (.cells #[.slice p l.length cap] 24) W2.heap.size [] zs (W2.alloc (.cells (row zs) 23))) := Lib.hid {
      j := hJg _ _ _ hJ2.out ((Below.refl _ _).alloc (Nat.le_refl _) _)
      ac := hA2.out.imp (fun q => hAg _ _ _ q ((Below.refl _ _).alloc (Nat.le_refl _) _)) id
      cc := by rw [heap_alloc_if, if_neg (Nat.ne_of_lt (lt_of_some hc2.out))]; exact hc2.out
      ah := hAn _ _ hJ2.out
      hh := by rw [heap_alloc_if, if_pos rfl]
      bel := hw2.out.alloc (Nat.le_trans hnW.out hw2.out.size) _
      ne := Nat.ne_of_lt (lt_of_some hc2.out)
      ge := Nat.le_trans hnW.out hw2.out.size
      le := hnW.out }
    have hL1 := Lib.hid (hL0.out.row hJr hAr startD)
    obtain ⟨fn, tmps, assign, body, hy, hR⟩ := hY [] (CEN, startD) _ (by rw [hT.out]; simp) hL1.out.j
    dsimp only [encL] at hy
    have hR' := Lib.hid hR
    have hcen : (⟨CEN.toArray⟩ : ByteArray) = ⟨#[99, 101, 110, 111, 116, 97, 112, 104]⟩ := rfl
    rw [hcen] at hy
    clear hcen hR hJ2 hA2 hc2 hw2
    generalize startD = S at *
    gi_wp2_with (first
      | (with_reducible refine wpListIn_store_row rfl 23 (.tmp 3) (.tmp 12) rfl _ (row S) rfl rfl 23 _ hL0.out.hh (row26 S hstl.out) (row_eq _ _ zs_len hstl.out) (row_one S) ?_)
      | (with_reducible refine wpListIn_load_row rfl 23 (.tmp 3) rfl _ rfl 23 (row S) _ hL1.out.hh Tryz.underlying23 rfl (row26 S hstl.out) ?_))
    refine hR'.out.mono ?_
    rintro e W3 (⟨rfl, hJ3, hk3⟩ | ⟨rfl, hJx3⟩)
    case inr =>
      gi_wp2_with fail
      refine bodyPost_ret (results_none rfl _ _ _) rfl ?_
      exact ⟨⟨_, rfl⟩, .inr ⟨_, by rw [hT.out]; simp, hJx3⟩⟩
    have hL3 := Lib.hid (hL1.out.round hJ3 hk3)
    have hcc := cell_of_row W3 cb 0 _ _ _ hL3.out.cc
    simp only [List.getElem?_toArray, List.getElem?_cons_zero] at hcc
    clear hJ3 hk3 hL1 hL0 hy hR'
    gi_wp2_with fail
    gi_loopw [19] (fun i wr => ∃ k : Nat, k ≤ l.length ∧ i = .int .i64 (k : Int) ∧ Hid (LW J A n₀ W cb (.cells #[.slice p l.length cap] 24) W2.heap.size ((CEN, S) :: tld S (l.take k)) (headD S (l.take k)) wr)) (fun i _ => l.length - (intOf i).toNat)
    case atStart => exact ⟨0, Nat.zero_le _, rfl, hL3⟩
    case round =>
      obtain ⟨k, hk, rfl, hL⟩ := hrel
      by_cases hlt : k < l.length
      · have hb : (k : Int) < (l.length : Int) := by omega
        obtain ⟨b, o, rfl, hr⟩ := hE'.out.at k hlt
        have hr' := Lib.hid (hr wr hL.out.bel)
        have hft := Lib.hid (hfit.out _ (List.getElem_mem hlt))
        have hoke := Lib.hid (hall.out _ (List.getElem_mem hlt))
        have hes := Lib.hid hft.out.w.s
        have hts : Hid (tld S (l.take (k + 1)) = tld S (l.take k) ++ [(headD S (l.take k) ++ putE l[k], nextD (headD S (l.take k)) l[k])]) := Lib.hid (by rw [List.take_succ_eq_append_getElem hlt, tld_snoc])
        have hhd : Hid (headD S (l.take (k + 1)) = nextD (headD S (l.take k)) l[k]) := Lib.hid (by rw [List.take_succ_eq_append_getElem hlt, headD_snoc])
        have hDl := Lib.hid (headD_len S (l.take k) hstl.out)
        have hpre : Hid (((CEN, S) :: tld S (l.take k)) ++ [(headD S (l.take k) ++ putE l[k], nextD (headD S (l.take k)) l[k])] <+: told l) := Lib.hid (by
          rw [hT.out, List.cons_append, ← hts.out]
          exact List.cons_prefix_cons.2 ⟨rfl, tld_take _ _ _⟩)
        clear hr
        generalize l[k] = e at *
        generalize headD S (l.take k) = D at *
        have cput := Lib.hid (fun v => eput_true e hft.out.w (by have := hft.out.n; omega) hoke.out v)
        have hpe : Hid (putL (partsOf e) = putE e) := Lib.hid rfl
        rw [hpe.out] at cput
        have clink : Hid (∀ v, Calls Tryz.prog 22 #[.agg (row D), .string ⟨(putE e).toArray⟩] v fun r w' => r = .returned (.agg (row (nextD D e))) ∧ Below v.heap.size v w') := Lib.hid (fun v => by
          exact sh.link_any D hDl.out ⟨(putE e).toArray⟩ (by rw [mk_size]; have := putE_len e hft.out; omega) v)
        have hNl := Lib.hid (nextD_len D e)
        have hpl : (putE e).length ≤ 540 := putE_len e hft.out
        have hB0 : Hid (Below wr.heap.size wr ((wr.alloc (.cells (evr zeroE) 34)).setRow wr.heap.size (evr e))) := Lib.hid (below_setRow ((Below.refl _ _).alloc (Nat.le_refl _) _) (Nat.le_refl _) _)
        have hE0 : Hid ((wr.alloc (.cells (evr zeroE) 34)).heap[wr.heap.size]? = some (.cells (evr zeroE) 34)) := Lib.hid (by rw [heap_alloc_if, if_pos rfl])
        have hE1 := Lib.hid (setRow_heap _ _ _ (evr e) _ _ hE0.out)
        have hL4 := Lib.hid (hL.out.past hJg hAg hB0.out)
        clear hpe hB0
        generalize nextD D e = N at *
        generalize putE e = pe at *
        gi_wp2_with (first
          | (with_reducible refine wpListIn_load_ev rfl (.tmp 21) rfl b (o + k * 37) rfl e hes.out hr'.out ?_)
          | (with_reducible refine wpListIn_store_row rfl 34 (.tmp 5) (.tmp 22) rfl _ (evr e) rfl rfl 34 _ hE0.out (row41 e hes.out) (evr_same _ _ rfl hes.out) (evr_one e) ?_)
          | (with_reducible refine wpListIn_load_row rfl 34 (.tmp 5) rfl _ rfl 34 (evr e) _ hE1.out Tryz.underlying34 rfl (row41 e hes.out) ?_))
        refine ⟨trivial, (callsIn_wide.2 (cput.out _)).mono ?_⟩
        rintro r V ⟨rfl, hB5⟩
        have hL5 := Lib.hid (hL4.out.past hJg hAg hB5)
        have hadd : ¬ 9223372036854775807 < D.length + pe.length := by rw [hDl.out]; omega
        have hcv := conv_row V W2.heap.size 32 23 D hDl.out hL5.out.hh
        have hsl := slice_all W2.heap.size V
        clear hB5
        gi_wp2_with (first
          | (with_reducible refine wpListIn_slice rfl 23 (.tmp 3) rfl _ _ rfl hsl ?_)
          | (with_reducible refine wpListIn_conv rfl 64 9 (.tmp 28) rfl _ _ rfl hcv ?_)
          | (with_reducible refine wpListIn_load_row rfl 23 (.tmp 3) rfl _ rfl 23 (row D) _ hL5.out.hh Tryz.underlying23 rfl (row26 D hDl.out) ?_))
        refine ⟨trivial, (callsIn_wide.2 (clink.out _)).mono ?_⟩
        rintro r V2 ⟨rfl, hB6⟩
        have hL6 := Lib.hid (hL5.out.past hJg hAg hB6)
        have hL7 := Lib.hid (hL6.out.row hJr hAr N)
        obtain ⟨fn, tmps, assign, body, hy, hR⟩ := hY _ _ _ hpre.out hL7.out.j
        dsimp only [encL] at hy
        rw [← mk_app] at hy
        have hR' := Lib.hid hR
        clear hB6 hR hcv hsl
        gi_wp2_with (first
          | (with_reducible refine wpListIn_store_row rfl 23 (.tmp 3) (.tmp 34) rfl _ (row N) rfl rfl 23 _ hL6.out.hh (row26 N hNl.out) (row_eq _ _ hDl.out hNl.out) (row_one N) ?_)
          | (with_reducible refine wpListIn_load_row rfl 23 (.tmp 3) rfl _ rfl 23 (row N) _ hL7.out.hh Tryz.underlying23 rfl (row26 N hNl.out) ?_))
        refine hR'.out.mono ?_
        rintro e V3 (⟨rfl, hJ3, hk3⟩ | ⟨rfl, hJx3⟩)
        · have hL8 := Lib.hid (hL7.out.round hJ3 hk3)
          clear hJ3 hk3 hy hR'
          gi_wp2_with fail
          go_roundw
          case rel => exact ⟨k + 1, by omega, by go_num, Lib.hid (by rw [hts.out, hhd.out, ← List.cons_append]; exact hL8.out)⟩
          case measure => simp [intOf]; omega
        · gi_wp2_with fail
          refine bodyPost_ret (results_none rfl _ _ _) rfl ?_
          exact ⟨⟨_, rfl⟩, .inr ⟨_, hpre.out, hJx3⟩⟩
      · obtain rfl : k = l.length := by omega
        have hb : ¬ (l.length : Int) < (l.length : Int) := by omega
        have hj : Hid (J (told l) wr) := Lib.hid (by have := hL.out.j; rw [List.take_length] at this; rw [hT.out]; exact this)
        gi_wp2_with fail
        go_end0
        exact ⟨⟨_, rfl⟩, .inl hj.out⟩
end Go.Proofs.YtfilolmbppjbjaaGreat
