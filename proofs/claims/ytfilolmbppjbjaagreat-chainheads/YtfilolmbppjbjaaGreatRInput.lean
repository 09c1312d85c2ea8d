/-
  What Input of the document's answer (chain) returns.
-/
import Derived.Test.YtfilolmbppjbjaaGreatRHeads
import Derived.Test.YtfilolmbppjbjaaGreatWorks
import Derived.Test.YtfilolmbppjbjaaGreatInput
namespace Go.Proofs.YtfilolmbppjbjaaGreat
open Go Go.RowKit

theorem inp_at {l : List Ev} (m : Nat) (hm : m < (told l).length) : inpD l (m : Int) = ((told l)[m]).1 := by
  unfold inpD
  rw [if_pos (by omega), Int.toNat_natCast, List.getElem?_eq_getElem hm]
  rfl
theorem tld_first (d : List UInt8) (l : List Ev) (k : Nat) (hk : k < l.length) (hk2 : k < (tld d l).length) : ((tld d l)[k]).1 = headD d (l.take k) ++ putE l[k] := by
  induction l generalizing d k with
  | nil => simp at hk
  | cons e l ih =>
    cases k with
    | zero => simp [tld, headD]
    | succ k =>
      simp only [tld, List.getElem_cons_succ, List.take_succ_cons]
      rw [ih (nextD d e) k (by simpa using hk)]
      simp [headD]
theorem tld_second (d : List UInt8) (l : List Ev) (k : Nat) (hk : k < (tld d l).length) : ((tld d l)[k]).2 = headD d (l.take (k + 1)) := by
  induction l generalizing d k with
  | nil => simp [tld] at hk
  | cons e l ih =>
    cases k with
    | zero => simp [tld, headD]
    | succ k =>
      simp only [tld, List.getElem_cons_succ, List.take_succ_cons]
      rw [ih (nextD d e) k (by simpa [tld] using hk)]
      simp [headD]
theorem told_at2 {l : List Ev} (h : l.all okP = true) (k : Nat) (hk : k < (told l).length) : ((told l)[k]).2 = headD startD (l.take k) := by
  have e : told l = (CEN, startD) :: tld startD l := by unfold told; rw [h]; rfl
  have key : ∀ (T : List (List UInt8 × List UInt8)), T = (CEN, startD) :: tld startD l → ∀ hk : k < T.length, (T[k]).2 = headD startD (l.take k) := by
    rintro T rfl hk
    cases k with
    | zero => simp [headD]
    | succ k => simp only [List.getElem_cons_succ]; exact tld_second startD l k _
  exact key _ e hk
theorem inp_next {l : List Ev} (h : l.all okP = true) (k : Nat) (hk : k < l.length) : inpD l ((k + 1 : Nat) : Int) = headD startD (l.take k) ++ putE l[k] := by
  have e : told l = (CEN, startD) :: tld startD l := by unfold told; rw [h]; rfl
  have hl : k + 1 < (told l).length := by rw [e, List.length_cons, tld_len]; omega
  rw [inp_at (k + 1) hl]
  have key : ∀ (T : List (List UInt8 × List UInt8)), T = (CEN, startD) :: tld startD l → ∀ hk2 : k + 1 < T.length, (T[k + 1]).1 = headD startD (l.take k) ++ putE l[k] := by
    rintro T rfl hk2
    simp only [List.getElem_cons_succ]; exact tld_first startD l k hk _
  exact key _ e hl
theorem inp_zero {l : List Ev} (h : l.all okP = true) : inpD l 0 = CEN := by
  unfold inpD told; rw [h]; rfl
theorem inp_out {l : List Ev} {i : Int} (h : i < 0 ∨ ((told l).length : Int) ≤ i) : inpD l i = [] := by
  unfold inpD
  split
  · rw [List.getElem?_eq_none (by omega)]; rfl
  · rfl

set_option maxRecDepth 100000 in
set_option maxHeartbeats 1000000 in
theorem rinp_zero (a b : Value) (w : World) :
    Calls Tryz.prog 25 #[a, b, .int .i64 0] w fun r w' => r = .returned (.string ⟨#[99, 101, 110, 111, 116, 97, 112, 104]⟩) ∧ sh.Belo w.heap.size w w' := by
  have hb := Lib.hid (sh.Belo.refl w.heap.size w)
  go_enter Tryz.func25, Tryz.ntmps25
  go_wp2_with fail
  go_returns
  exact ⟨rfl, hb.out⟩
set_option maxRecDepth 100000 in
set_option maxHeartbeats 1000000 in
theorem rinp_next (l : List Ev) (hl : Fit l) (hok : l.all okP = true) (k : Nat) (hk : k < l.length) (hn : l.length ≤ 1000) (g c : Nat) (cur : Array Value) (p : Option Addr) (cap : Nat) (w : World) (hE : EvsAt w.heap.size w p l)
    (hg : w.heap[g]? = some (.cells cur 23)) (hld : ∀ u : World, u.heap[g]? = some (.cells cur 23) → (Instr.loadAt 23 (.pointer (some ⟨g, k * 32, none⟩))).run Tryz.prog u = .ok (.agg (row (headD startD (l.take k)))) u) :
    Calls Tryz.prog 25 #[.slice (some ⟨g, 0, none⟩) (l.length + 1) c, .slice p l.length cap, .int .i64 ((k + 1 : Nat) : Int)] w fun r w' => r = .returned (.string ⟨(inpD l ((k + 1 : Nat) : Int)).toArray⟩) ∧ sh.Belo w.heap.size w w' := by
  obtain ⟨b, o, rfl, hr⟩ := hE.atB k hk
  have hft := Lib.hid (hl _ (List.getElem_mem hk))
  have hq : okP l[k] = true := List.all_eq_true.1 hok _ (List.getElem_mem hk)
  have hi := Lib.hid (inp_next hok k hk)
  have hE1 := Lib.hid (fun (u : World) (hu : sh.Belo w.heap.size w u) => load_ev l[k] hft.out.w.s b (o + k * 37) u (hr u hu))
  have cp := Lib.hid (fun v => reput_true l[k] hft.out hq v)
  have hDl := Lib.hid (headD_len startD (l.take k) (sha_len _))
  have hpl := putE_len l[k] hft.out
  have hz1 : (mk (putE l[k])).size ≤ 540 := by rw [size_li, li_mk']; exact hpl
  have hz2 : (ByteArray.mk (headD startD (l.take k)).toArray).size ≤ 32 := by rw [mk_size, hDl.out]; exact Nat.le_refl _
  have hbs := Lib.hid (fun v => sh.rbytes_any (headD startD (l.take k)) hDl.out v)
  have hld' := Lib.hid hld
  have hg' := Lib.hid hg
  have h22 := Lib.hid (fun v => index22 b o l.length cap k hk v)
  have h35 := Lib.hid (fun v => index35 g (l.length + 1) c k (by omega) v)
  have hs1 : (((k + 1 : Nat) : Int) - 1) = (k : Int) := by omega
  have hne : (((k + 1 : Nat) : Int) == 0) = false := by rw [beq_eq_false_iff_ne]; omega
  have hkk : (k : Int) ≤ 1000 := by omega
  have hjoin : Hid (ByteArray.mk (inpD l ((k + 1 : Nat) : Int)).toArray = ByteArray.mk (headD startD (l.take k)).toArray ++ mk (putE l[k])) := Lib.hid (by rw [hi.out]; exact (mkj _ _).symm)
  have hb0 := Lib.hid (sh.Belo.refl w.heap.size w)
  clear hi hpl hq hr hE hl hok hg hld
  generalize ByteArray.mk (inpD l ((k + 1 : Nat) : Int)).toArray = R at *
  generalize ((k + 1 : Nat) : Int) = i at *
  generalize headD startD (l.take k) = D at *
  generalize l[k] = e at *
  generalize mk (putE e) = PE at *
  generalize ByteArray.mk D.toArray = DB at *
  go_enter Tryz.func25, Tryz.ntmps25
  go_wp2_with (refine sh.wpList_val rfl (.agg (evr e)) (x_load 34 (.tmp 15) rfl _ _ rfl (hE1.out _ hb0.out)) ?_)
  refine (cp.out _).mono ?_
  rintro r v ⟨rfl, hB⟩
  have hB' := Lib.hid hB
  have hg1 := Lib.hid ((hB.block g (lt_of_some hg'.out)).trans hg'.out)
  clear hB
  go_wp2_with (refine sh.wpList_val rfl (.agg (row D)) (x_load 23 (.tmp 23) rfl _ _ rfl (hld'.out _ hg1.out)) ?_)
  refine (hbs.out _).mono ?_
  rintro r u ⟨rfl, hu⟩
  have hB2 := Lib.hid (hB'.out.trans (hu.mono hB'.out.size))
  clear hu
  go_wp2_with fail
  go_returns
  exact ⟨by rw [hjoin.out]; rfl, hB2.out⟩

set_option maxRecDepth 100000 in
set_option maxHeartbeats 1000000 in
theorem rinput_any (l : List Ev) (hl : Fit l) (hn : l.length ≤ 1000) (i : Int) (p : Option Addr) (cap : Nat) (w : World) (hE : EvsAt w.heap.size w p l) :
    Calls Tryz.prog 14 #[.slice p l.length cap, .int .i64 i] w fun r w' => r = .returned (.string ⟨(inpD l i).toArray⟩) ∧ sh.Belo w.heap.size w w' := by
  have ch := Lib.hid (rheads_any l hl hn p cap w hE)
  have hTl := told_len l
  have hlen : ((told l).length : Int) ≤ 1001 := by omega
  by_cases h0 : i < 0
  · have hi := Lib.hid (inp_out (l := l) (.inl h0))
    have d1 : decide (i < 0) = true := by simpa using h0
    clear h0
    go_enter Tryz.func14, Tryz.ntmps14
    go_wp2_with fail
    refine ch.out.mono ?_
    rintro r v ⟨x, rfl, hO, hB⟩
    have hB' := Lib.hid hB
    clear hO hB
    go_wp2_with fail
    go_returns
    exact ⟨by rw [hi.out]; rfl, hB'.out⟩
  · have d1 : decide (i < 0) = false := by simpa using h0
    by_cases h1 : ((told l).length : Int) ≤ i
    · have hi := Lib.hid (inp_out (l := l) (.inr h1))
      have d2 : decide (((told l).length : Int) ≤ i) = true := by simpa using h1
      clear h0 h1
      go_enter Tryz.func14, Tryz.ntmps14
      go_wp2_with fail
      refine ch.out.mono ?_
      rintro r v ⟨x, rfl, hO, hB⟩
      have hB' := Lib.hid hB
      obtain ⟨A, c, rfl⟩ : ∃ A c, x = .slice A (told l).length c := by
        rcases hO.2 with ⟨rfl, h⟩ | ⟨g, c, _, rfl, _⟩
        · exact ⟨none, 0, by rw [h]⟩
        · exact ⟨_, c, rfl⟩
      clear hO hB
      go_wp2_with fail
      go_returns
      exact ⟨by rw [hi.out]; rfl, hB'.out⟩
    · have d2 : decide (((told l).length : Int) ≤ i) = false := by simpa using h1
      have hok : l.all okP = true := by
        cases h : l.all okP with
        | true => rfl
        | false => rw [told_no l h] at h1; simp at h1; omega
      have hT : (told l).length = l.length + 1 := by rw [TT_told l hok, TT_len]
      have hfine := told_fine l hl
      have key : ∀ (v : World) (g c : Nat) (cur : Array Value), sh.Belo w.heap.size w v → v.heap[g]? = some (.cells cur 23) → (∀ k (hk : k < (told l).length), ∀ u : World, u.heap[g]? = some (.cells cur 23) → (Instr.loadAt 23 (.pointer (some ⟨g, k * 32, none⟩))).run Tryz.prog u = .ok (.agg (row (told l)[k].2)) u) →
          Calls Tryz.prog 25 #[.slice (some ⟨g, 0, none⟩) (told l).length c, .slice p l.length cap, .int .i64 i] v fun r w' => r = .returned (.string ⟨(inpD l i).toArray⟩) ∧ sh.Belo v.heap.size v w' := by
        intro v g c cur hB hg hld
        obtain ⟨k, rfl⟩ : ∃ k : Nat, i = (k : Int) := ⟨i.toNat, by omega⟩
        cases k with
        | zero =>
          have h := inp_zero hok
          show Calls Tryz.prog 25 #[_, _, .int .i64 0] v fun r w' => r = .returned (.string ⟨(inpD l 0).toArray⟩) ∧ sh.Belo v.heap.size v w'
          rw [h]
          exact rinp_zero _ _ v
        | succ k =>
          rw [hT]
          refine rinp_next l hl hok k (by omega) hn g c cur p cap v ((hE.pastB hB).mono hB.size) hg (fun u hu => ?_)
          have := hld k (by omega) u hu
          rw [told_at2 hok k (by omega)] at this
          exact this
      have key' := Lib.hid key
      have hf' := Lib.hid hfine
      have hT' := Lib.hid hT
      clear h0 h1 key hfine hok hT
      go_enter Tryz.func14, Tryz.ntmps14
      go_wp2_with fail
      refine ch.out.mono ?_
      rintro r v ⟨x, rfl, hO, hB⟩
      have hB' := Lib.hid hB
      rcases own_digs (fun x hx => (hf'.out x hx).2) hO with ⟨rfl, h⟩ | ⟨g, c, cur, rfl, _, hg, hld⟩
      · exact absurd (congrArg List.length h) (by rw [hT'.out]; simp)
      · have cc := Lib.hid (key'.out v g c cur hB hg hld)
        clear hO hg hld hB
        go_wp2_with fail
        refine cc.out.mono ?_
        rintro r u ⟨rfl, hu⟩
        have hB2 := Lib.hid (hB'.out.trans (hu.mono hB'.out.size))
        clear hu
        go_wp2_with fail
        go_returns
        exact ⟨rfl, hB2.out⟩
end Go.Proofs.YtfilolmbppjbjaaGreat
