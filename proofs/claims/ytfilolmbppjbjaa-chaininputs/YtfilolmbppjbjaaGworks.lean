/-
  A region that draws its order, cut where the order is forced: each segment walked once, in its own class of worlds; between two segments one operation as it stands. No program is named here.
  What 'Few' returns.
  The document's example: no events, and one.
  The document's example, as the statements begin with it: works.
  Whether two rows of events are the same: what the reference's 'Same' returns.
  A row of events that came in, as the statements' form reads it.
  Plain facts: bytes tell an event; two rows of events of one head are the same, or two texts have one digest.
-/
import Derived.Test.YtfilolmbppjbjaaGevent
import Derived.Test.YtfilolmbppjbjaaGchain
import Derived.ChangeArms
import Derived.ChangeOld
import Derived.DataReads
namespace Go.Proofs.Ytfilolmbppjbjaa
open Go Go.RowKit
variable {P : Program} {ops : Array Oper} {C : World → Prop}

/-- The first k operations are done. -/
def upto (n k : Nat) : Array Bool := (List.replicate k true ++ List.replicate (n - k) false).toArray
/-- From operation k on, in whatever order. -/
def Seg (P : Program) (ops : Array Oper) (Q : Exit → Act → World → Prop) (k : Nat) (a : Act) (w : World) : Prop := wpAny P .any ops Q (ops.size - k) (upto ops.size k) a w
theorem upto_zero (n : Nat) : upto n 0 = Array.replicate n false := by simp [upto]
theorem upto_size (n k : Nat) (h : k ≤ n) : (upto n k).size = n := by simp [upto]; omega
theorem upto_false (n k i : Nat) (_h : k ≤ n) (hi : k ≤ i) (hn : i < n) : (upto n k).getD i true = false := by
  have h1 : (upto n k)[i]? = some false := by
    unfold upto
    rw [List.getElem?_toArray, List.getElem?_append_right (by simpa using hi), List.getElem?_replicate]
    simp; omega
  simp [h1]
theorem upto_true (n k i : Nat) (_h : k ≤ n) (hi : i < k) : (upto n k).getD i false = true := by
  have h1 : (upto n k)[i]? = some true := by
    unfold upto
    rw [List.getElem?_toArray, List.getElem?_append_left (by simpa using hi), List.getElem?_replicate]
    simp; omega
  simp [h1]
theorem upto_set (n k : Nat) (h : k < n) : (upto n k).setIfInBounds k true = upto n (k + 1) := by
  obtain ⟨m, hm⟩ : ∃ m, n - k = m + 1 := ⟨n - k - 1, by omega⟩
  have e : n - (k + 1) = m := by omega
  unfold upto
  rw [List.setIfInBounds_toArray, hm, e, List.set_append_right _ _ (by simp), List.length_replicate, Nat.sub_self, List.replicate_succ, List.set_cons_zero, List.replicate_succ' (n := k), List.append_assoc]
  rfl

/-- Nothing that is done waits for what is not; nothing from n on can come ahead of all below n. -/
def closedB (ops : Array Oper) (k : Nat) : Bool := (List.range k).all fun j => match ops[j]? with
  | some o => o.after.all fun e => !Region.binds .any e || decide (e.on < k)
  | none => true
def laterB (ops : Array Oper) (n : Nat) : Bool := (List.range ops.size).all fun t => decide (t ≤ n) || (List.range t).any fun j => decide (n ≤ j) && Region.waitsFor .any ops t j
def sinkFrom (ops : Array Oper) (k n : Nat) : Bool := (List.range n).all fun i => decide (i < k) || (List.range (n + 1)).any fun j => decide (i < j) && Region.waitsFor .any ops j i

structure SegInv (ops : Array Oper) (k n : Nat) (listed : Array Bool) : Prop where
  size : listed.size = ops.size
  closed : ∀ j oj, ops[j]? = some oj → listed.getD j false = true → ∀ e ∈ oj.after, Region.binds .any e = true → listed.getD e.on false = true
  tail : ∀ t, n ≤ t → t < ops.size → listed.getD t true = false
  low : ∀ i, i < k → listed.getD i false = true
theorem SegInv.set {k n i : Nat} {listed : Array Bool} (inv : SegInv ops k n listed) (hi : i ∈ Region.ready .any ops listed) (hin : i < n) : SegInv ops k n (listed.setIfInBounds i true) := by
  obtain ⟨_, oi, hoi, hall⟩ := mem_ready.1 hi
  refine ⟨by simp [inv.size], fun j oj hj hl e he hb => ?_, fun t ht ht' => by rw [getD_set_ne true (by omega)]; exact inv.tail t ht ht', fun q hq => getD_set_true (inv.low q hq)⟩
  by_cases hij : i = j
  · subst hij
    have : oj = oi := Option.some.inj (hj.symm.trans hoi)
    subst this
    exact getD_set_true (hall e he hb)
  · rw [getD_set_ne false hij] at hl
    exact getD_set_true (inv.closed j oj hj hl e he hb)
theorem seg_waits {k n : Nat} {listed : Array Bool} (hs : sinkFrom ops k n = true) (hc : laterB ops n = true) (hn : n < ops.size) (inv : SegInv ops k n listed) :
    ∀ (d i : Nat), n - i = d → i < n → listed.getD i true = false → ∀ t, n ≤ t → t ∉ Region.ready .any ops listed := by
  intro d
  induction d using Nat.strongRecOn with
  | _ d ih =>
    intro i hd hi hun t ht hr
    obtain ⟨_, ot, hot, hall⟩ := mem_ready.1 hr
    have htlt : t < ops.size := (Array.getElem?_eq_some_iff.1 hot).1
    by_cases htn : t = n
    · subst htn
      have h1 := List.all_eq_true.1 hs i (List.mem_range.2 hi)
      rw [Bool.or_eq_true, decide_eq_true_eq] at h1
      rcases h1 with h1 | h1
      · have := inv.low i h1
        rw [getD_both hun] at this
        cases this
      obtain ⟨j, hj, hj2⟩ := List.any_eq_true.1 h1
      simp only [Bool.and_eq_true, decide_eq_true_eq] at hj2
      obtain ⟨oj, hoj, e, he, hb, hon⟩ := Region.waitsFor_spec hj2.2
      have hjle : j ≤ t := by have := List.mem_range.1 hj; omega
      by_cases hjt : j = t
      · subst hjt
        have : oj = ot := Option.some.inj (hoj.symm.trans hot)
        subst this
        have h2 := hall e he hb
        rw [hon, getD_both hun] at h2
        cases h2
      · cases hl : listed.getD j false with
        | true =>
          have h2 := inv.closed j oj hoj hl e he hb
          rw [hon, getD_both hun] at h2
          cases h2
        | false =>
          have hjs : j < listed.size := by rw [inv.size]; omega
          exact ih (t - j) (by omega) j rfl (by omega) (getD_in hjs hl) t (Nat.le_refl _) hr
    · have h1 := List.all_eq_true.1 hc t (List.mem_range.2 htlt)
      rw [Bool.or_eq_true, decide_eq_true_eq] at h1
      rcases h1 with h1 | h1
      · omega
      · obtain ⟨j, hj, hj2⟩ := List.any_eq_true.1 h1
        have hjt := List.mem_range.1 hj
        simp only [Bool.and_eq_true, decide_eq_true_eq] at hj2
        obtain ⟨o', ho', e, he, hb, hon⟩ := Region.waitsFor_spec hj2.2
        have : o' = ot := Option.some.inj (ho'.symm.trans hot)
        subst this
        have h2 := hall e he hb
        rw [hon, getD_both (inv.tail j hj2.1 (by omega))] at h2
        cases h2

theorem segHead_first {k n i : Nat} {oi : Oper} {v : Value} {L : Array Bool → Act → Prop} (hi : ops[i]? = some oi) (hsel : ∀ (j : Nat) (o : Oper) cs b, ops[j]? = some o → o.op ≠ .select cs b)
    (hs : sinkFrom ops k n = true) (hc : laterB ops n = true) (hn : n < ops.size) (hin : i < n)
    (hdone : ∀ listed a, L listed a → ∀ j ∈ Region.ready .any ops listed, n ≤ j) :
    ∀ (f : Nat) (listed : Array Bool) (a : Act), SegInv ops k n listed →
      (∀ j oj, ops[j]? = some oj → j ≠ i → listed.getD j true = false → (∀ e ∈ oj.after, Region.binds .any e = true → e.on ≠ i) → oi.apart ops oj = true) →
      i ∈ Region.ready .any ops listed → YieldsIn P ops C oi v a →
      anyHead P .any ops C n L f (listed.setIfInBounds i true) (a.put oi.dst v) → anyHead P .any ops C n L (f + 1) listed a := by
  intro f
  induction f with
  | zero =>
    intro listed a inv _ hr hy H
    refine ⟨fun h => (by rw [h] at hr; cases hr), fun j hj => ?_⟩
    have hjn : j < n := by
      rcases Nat.lt_or_ge j n with h | h
      · exact h
      · exact absurd hj (seg_waits hs hc hn inv _ i rfl hin (mem_ready.1 hr).1 j h)
    refine ⟨hjn, ?_⟩
    by_cases e : j = i
    · subst e; exact hy.qOp hi H
    · have := hdone _ _ H j (ready_mono hj e)
      omega
  | succ f ih =>
    intro listed a inv hfree hr hy H
    refine ⟨fun h => (by rw [h] at hr; cases hr), fun j hj => ?_⟩
    have hun := (mem_ready.1 hr).1
    have hjn : j < n := by
      rcases Nat.lt_or_ge j n with h | h
      · exact h
      · exact absurd hj (seg_waits hs hc hn inv _ i rfl hin hun j h)
    refine ⟨hjn, ?_⟩
    by_cases e : j = i
    · subst e; exact hy.qOp hi H
    · have h1 := (H.2 j (ready_mono hj e)).2
      obtain ⟨hjun, oj, hoj, hall⟩ := mem_ready.1 hj
      have hnot : ∀ x ∈ oj.after, Region.binds .any x = true → x.on ≠ i := fun x hx hb he => by
        have h2 := hall x hx hb
        rw [he, getD_both hun] at h2
        cases h2
      have h2 := qOp_put hoj (hfree j oj hoj e hjun hnot) (fun cs b => hsel i oi cs b hi) (fun cs b => hsel j oj cs b hoj) hy h1
      refine qOp_mono (fun a' h3 => ih (listed.setIfInBounds j true) a' (inv.set hj hjn) ?_ (ready_mono hr (Ne.symm e)) h3.1 ?_) h2
      · intro k ok hk hki hkun hno
        refine hfree k ok hk hki ?_ hno
        by_cases hjk : j = k
        · subst hjk; exact hjun
        · rw [getD_set_ne true hjk] at hkun; exact hkun
      · rw [Array.setIfInBounds_comm _ _ e]
        exact h3.2

/-- The operations from k up to n, one by one, may be taken first; and then n and all behind it are what is left. -/
def segB (ops : Array Oper) (n : Nat) : Nat → Nat → Bool
  | 0, k => decide (k = n)
  | f + 1, k => (Region.ready .any ops (upto ops.size k)).contains k && Region.free .any ops (upto ops.size k) k && segB ops n f (k + 1)

theorem segHead_lex {n : Nat} {Lq : Act → Prop} {k0 : Nat} (hsel : Region.noSelect ops = true) (hs : sinkFrom ops k0 n = true) (hc : laterB ops n = true) (hn : n < ops.size) (hrd : ∀ j ∈ Region.ready .any ops (upto ops.size n), n ≤ j) :
    ∀ (l : List Oper) (k : Nat) (a : Act), (∀ j, j < l.length → l[j]? = ops[k + j]?) → k + l.length = n → SegInv ops k0 n (upto ops.size k) →
    segB ops n l.length k = true → wpQuiet P ops C Lq l a → anyHead P .any ops C n (fun listed' a' => listed' = upto ops.size n ∧ Lq a') l.length (upto ops.size k) a
  | [], k, a, _, hk, _, _, h => by
    have : k = n := by simpa using hk
    subst this
    exact ⟨rfl, h⟩
  | o :: l, k, a, hl, hk, inv, hB, h => by
    have h0 : ops[k]? = some o := by simpa using (hl 0 (by simp)).symm
    simp only [List.length_cons, segB, Bool.and_eq_true] at hB
    obtain ⟨⟨hr, hf⟩, hB'⟩ := hB
    have hkn : k < n := by simp only [List.length_cons] at hk; omega
    have hr' : k ∈ Region.ready .any ops (upto ops.size k) := by simpa using hr
    have hst : qOp P ops C k (wpQuiet P ops C Lq l) a := by unfold qOp; simp only [h0]; exact h
    obtain ⟨v, hy, hK⟩ := yieldsIn_of_qOp h0 hst
    have inv' := inv.set hr' hkn
    rw [upto_set _ _ (by omega)] at inv'
    refine segHead_first h0 (Region.noSelect_spec hsel) hs hc hn hkn (fun listed' a' hL => by rw [hL.1]; exact hrd) l.length _ a inv (Region.free_spec h0 hf) hr' hy ?_
    rw [upto_set _ _ (by omega)]
    exact segHead_lex hsel hs hc hn hrd l (k + 1) _ (fun j hj => by have := hl (j + 1) (by simp; omega); simpa [Nat.add_assoc, Nat.add_comm 1 j] using this) (by simp only [List.length_cons] at hk; omega) inv' hB' hK

/-- All that is asked of a segment from k up to n. -/
def cutB (ops : Array Oper) (k n : Nat) : Bool :=
  Region.noSelect ops && decide (k ≤ n) && decide (n < ops.size) && closedB ops k && sinkFrom ops k n && laterB ops n && (Region.ready .any ops (upto ops.size n)).all (fun j => decide (n ≤ j)) && segB ops n (n - k) k

theorem seg_quiet {Q : Exit → Act → World → Prop} {a : Act} {w : World} {l : List Oper} (C : World → Prop) (k n : Nat) (hB : cutB l.toArray k n = true) (hC : C w)
    (h : wpQuiet P l.toArray C (fun a' => ∀ w', C w' → Seg P l.toArray Q n a' w') ((l.drop k).take (n - k)) a) : Seg P l.toArray Q k a w := by
  simp only [cutB, Bool.and_eq_true, decide_eq_true_eq] at hB
  obtain ⟨⟨⟨⟨⟨⟨⟨hsel, hkn⟩, hn⟩, hcl⟩, hs⟩, hc⟩, hrd⟩, hlex⟩ := hB
  have hn' : n < l.length := by simpa using hn
  have hlen : ((l.drop k).take (n - k)).length = n - k := by simp; omega
  have inv0 : SegInv l.toArray k n (upto l.toArray.size k) := by
    refine ⟨upto_size _ _ (by omega), fun j oj hj hl e he hb => ?_, fun t ht ht' => upto_false _ _ _ (by omega) (by omega) ht', fun i hi => upto_true _ _ _ (by omega) hi⟩
    have hjk : j < k := by
      rcases Nat.lt_or_ge j k with h1 | h1
      · exact h1
      · have hjs : j < l.toArray.size := (Array.getElem?_eq_some_iff.1 hj).1
        rw [getD_both (upto_false _ _ _ (by omega) h1 hjs)] at hl
        cases hl
    have h1 := List.all_eq_true.1 hcl j (List.mem_range.2 hjk)
    simp only [hj] at h1
    have h2 := Array.all_eq_true_iff_forall_mem.1 h1 e he
    rw [hb] at h2
    exact upto_true _ _ _ (by omega) (by simpa using h2)
  have H := segHead_lex (C := C) (k0 := k) hsel hs hc hn (fun j hj => by simpa using List.all_eq_true.1 hrd j hj) ((l.drop k).take (n - k)) k a (fun j hj => by
    rw [hlen] at hj
    rw [List.getElem?_take_of_lt hj, List.getElem?_drop, List.getElem?_toArray]) (by omega) inv0 (by rw [hlen]; exact hlex) h
  have := any_of_head (Q' := Q) (g := l.toArray.size - n) (fun listed a' w' hw' hL => by
    have h2 := hL.2 w' hw'
    unfold Seg at h2
    rw [hL.1]; exact h2) _ _ _ w hC H
  rw [hlen, show n - k + (l.toArray.size - n) = l.toArray.size - k by omega] at this
  exact this
/-- One operation, which alone can come next. -/
theorem seg_one {Q : Exit → Act → World → Prop} {a : Act} {w : World} {l : List Oper} (k : Nat) (o : Oper) (ho : l.toArray[k]? = some o) (hr : (Region.ready .any l.toArray (upto l.toArray.size k) == [k]) = true) (hw : Region.wanted o (yielded l.toArray a.tmps) = true)
    (h : o.wp P a w (fun a' w' => Seg P l.toArray Q (k + 1) a' w') Q) : Seg P l.toArray Q k a w := by
  have hk : k < l.toArray.size := (Array.getElem?_eq_some_iff.1 ho).1
  have hr' : Region.ready .any l.toArray (upto l.toArray.size k) = [k] := by simpa using hr
  unfold Seg
  rw [show l.toArray.size - k = (l.toArray.size - (k + 1)) + 1 by omega]
  refine ⟨fun h0 => (by rw [hr'] at h0; cases h0), fun i hi => ?_⟩
  rw [hr'] at hi
  have : i = k := by simpa using hi
  subst this
  rw [upto_set _ _ hk]
  refine wpOp_step ho fun K hK => ?_
  rw [if_pos hw]
  exact Oper.wp_mono (fun a' w' h' => hK _ _ h') h
theorem seg_end {Q : Exit → Act → World → Prop} {a : Act} {w : World} {l : List Oper} (C : World → Prop) (k : Nat) (hs : Region.noSelect l.toArray = true) (hB : Region.lexFrom .any l.toArray (l.drop k).length k (upto l.toArray.size k) = true) (hC : C w)
    (h : wpQuiet P l.toArray C (fun a' => ∀ w', C w' → Q .normal a' w') (l.drop k) a) : Seg P l.toArray Q k a w := by
  have := wpAnyQ_lex (C := C) (md := .any) hs (l.drop k) k (upto l.toArray.size k) a (fun j => by rw [List.getElem?_drop, List.getElem?_toArray]) hB h
  have h2 := wpAny_of_quiet (Q' := Q) (fun a' w' hw' h' => h' w' hw') _ _ _ w hC this
  unfold Seg
  rw [show l.toArray.size - k = (l.drop k).length by simp]
  exact h2
theorem seg_start {id : Nat} {Q : Exit → Act → World → Prop} {a : Act} {w : World} {l : List Oper} (hm : P.follows .mixedOrders = true) (h : Seg P l.toArray Q 0 a w.drew) : (Code.region id l.toArray true).wp P Q a w := by
  refine wp_region_any hm ?_
  unfold Seg at h
  rw [upto_zero] at h
  exact h
end Go.Proofs.Ytfilolmbppjbjaa

namespace Go.Proofs.Ytfilolmbppjbjaa
open Go Go.RowKit

def shortE (e : Ev) : Bool := decide (e.name.length ≤ 100)
def fewB (l : List Ev) : Bool := (l.take 21).all shortE && decide (l.length ≤ 20)
theorem fewB_fit {l : List Ev} (h : fewB l = true) (hw : ∀ e ∈ l, e.wf) : Fit l ∧ l.length ≤ 20 := by
  unfold fewB at h
  rw [Bool.and_eq_true, decide_eq_true_eq] at h
  have ht : l.take 21 = l := List.take_of_length_le (by omega)
  rw [ht, List.all_eq_true] at h
  exact ⟨fun e he => ⟨hw e he, by simpa [shortE] using h.1 e he⟩, h.2⟩

set_option maxRecDepth 100000 in
set_option maxHeartbeats 1000000 in
theorem few_any (l : List Ev) (hll : (l.length : Int) ≤ 9223372036854775807) (hnl : ∀ e ∈ l, e.name.length ≤ 9223372036854775807) (p : Option Addr) (cap : Nat) (w : World) (hE : EvsAt w.heap.size w p l) :
    Calls Try.prog 8 #[.slice p l.length cap] w fun r w' => r = .returned (.bool (fewB l)) ∧ w = w' := by
  have hE' := Lib.hid hE
  have hnl' := Lib.hid hnl
  clear hE hnl
  go_enter Try.func8, Try.ntmps8
  go_wp2_with fail
  go_loopw [3] (fun i wr => ∃ k : Nat, k ≤ l.length ∧ k ≤ 21 ∧ i = .int .i64 (k : Int) ∧ Hid ((l.take k).all shortE = true) ∧ wr = w) (fun i _ => l.length - (intOf i).toNat)
  case atStart => exact ⟨0, Nat.zero_le _, by omega, rfl, Lib.hid rfl, rfl⟩
  case round =>
    obtain ⟨k, hk, hk21, rfl, hall, rfl⟩ := hrel
    by_cases hlt : k < l.length
    · have hb : (k : Int) < (l.length : Int) := by omega
      by_cases h20 : k ≤ 20
      · have hb2 : (k : Int) ≤ 20 := by omega
        obtain ⟨b, o, rfl, hr⟩ := hE'.out.at k hlt
        have hr' := hr wr (Below.refl _ _)
        have hc := hr' 2 (.string ⟨(l[k]).name.toArray⟩) (by rw [Array.getElem?_toList]; exact evr2 _)
        have hts : Hid ((l.take (k + 1)).all shortE = shortE l[k]) := Lib.hid (by rw [List.take_succ_eq_append_getElem hlt, List.all_append, hall.out]; simp)
        have hno : Hid (shortE l[k] = false → fewB l = false) := Lib.hid (fun h => by
          unfold fewB
          rw [Bool.and_eq_false_iff]
          left
          rw [List.all_eq_false]
          exact ⟨l[k], by rw [List.mem_take_iff_getElem]; exact ⟨k, by omega, rfl⟩, by rw [h]; decide⟩)
        have hnk : (l[k]).name.length ≤ 9223372036854775807 := hnl'.out _ (List.getElem_mem hlt)
        clear hr hr'
        generalize l[k] = e at *
        have hsz : Hid ((⟨e.name.toArray⟩ : ByteArray).size = e.name.length) := Lib.hid (mk_size _)
        have hms := mk_size e.name
        by_cases hs : e.name.length ≤ 100
        · have hd : ((e.name.length : Int) ≤ 100) := by omega
          have hgt : ¬ (100 < (e.name.length : Int)) := by omega
          have hq : Hid (shortE e = true) := Lib.hid (by simpa [shortE] using hs)
          rw [hq.out] at hts
          clear hno hq
          go_wp2_with fail
          go_roundw
          case rel => exact ⟨k + 1, by omega, by omega, by go_num, hts, trivial⟩
          case measure => simp [intOf]; omega
        · have hgt : (100 < (e.name.length : Int)) := by omega
          have hq := Lib.hid (hno.out (by simp [shortE]; omega))
          clear hno hts
          go_wp2_with fail
          go_ret
          exact ⟨by rw [hq.out]; rfl, rfl⟩
      · have hk1 : k = 21 := by omega
        have hb2 : ¬ (k : Int) ≤ 20 := by omega
        have hll2 : ¬ (l.length : Int) ≤ 20 := by omega
        have hq : Hid (fewB l = false) := Lib.hid (by unfold fewB; rw [Bool.and_eq_false_iff]; right; simp; omega)
        go_wp2_with fail
        go_ret
        exact ⟨by rw [hq.out]; rfl, rfl⟩
    · obtain rfl : k = l.length := by omega
      have hb : ¬ (l.length : Int) < (l.length : Int) := by omega
      have hall' : Hid ((l.take 21).all shortE = true) := Lib.hid (by have := hall.out; rw [List.take_length] at this; rw [List.take_of_length_le hk21]; exact this)
      by_cases h20 : l.length ≤ 20
      · have hll2 : (l.length : Int) ≤ 20 := by omega
        have hq : Hid (fewB l = true) := Lib.hid (by unfold fewB; rw [hall'.out]; simpa using h20)
        go_wp2_with fail
        go_ret
        exact ⟨by rw [hq.out]; rfl, rfl⟩
      · have hll2 : ¬ (l.length : Int) ≤ 20 := by omega
        have hq : Hid (fewB l = false) := Lib.hid (by unfold fewB; rw [Bool.and_eq_false_iff]; right; simpa using h20)
        go_wp2_with fail
        go_ret
        exact ⟨by rw [hq.out]; rfl, rfl⟩
end Go.Proofs.Ytfilolmbppjbjaa

namespace Go.Proofs.Ytfilolmbppjbjaa
open Go Go.RowKit

def E1 : Ev := ⟨7, 0, [], 1, 0, zs⟩
theorem E1_ok : okP E1 = true := by decide +kernel
theorem E1_put : putE E1 = [7, 1] := by decide +kernel
theorem E1_fit : E1.fit := ⟨⟨by unfold i64 E1; decide, by unfold i64 E1; decide, by unfold i64 E1; decide, by unfold i64 E1; decide, rfl⟩, by decide⟩
def d0L : List UInt8 := [0x2c, 0x95, 0xc8, 0x5e, 0xea, 0x09, 0x6c, 0xa1, 0xd0, 0xb7, 0xde, 0xee, 0xc2, 0x6e, 0x83, 0xd9, 0x08, 0x3d, 0x30, 0x0f, 0x8a, 0x21, 0xb6, 0x6e, 0x35, 0x37, 0xcd, 0xf2, 0x27, 0x1f, 0x6d, 0x6f]
theorem startD_eq : startD = d0L := by decide +kernel
def frA (ev : Ev) (z : Nat) (x2 x3 x11 x12 x13 x14 x15 x16 : Value) : Act := { tmps := #[.bool false, .pointer (some ⟨z, 0, none⟩), x2, x3, undef, undef, undef, undef, undef, undef, .agg (evr ev), x11, x12, x13, x14, x15, x16, undef, undef, undef, undef, undef, undef, undef, undef, undef, undef, undef, undef, undef, undef, undef, undef, undef, undef, undef, undef, undef, undef, undef, undef, undef, undef, undef, undef, undef, undef, undef, undef, undef, undef, undef, undef, undef, undef, undef, undef, undef, undef, undef, undef, undef, undef, undef, undef, undef, undef, undef, undef, undef, undef, undef, undef, undef, undef, undef, undef, undef, undef, undef, undef, undef], defers := [] }
def frB (ev : Ev) (z : Nat) (x2 x3 x11 x12 x13 x14 x15 x16 x4 x5 x17 x18 x19 x20 x21 x22 x23 : Value) : Act := { tmps := #[.bool false, .pointer (some ⟨z, 0, none⟩), x2, x3, x4, x5, undef, undef, undef, undef, .agg (evr ev), x11, x12, x13, x14, x15, x16, x17, x18, x19, x20, x21, x22, x23, undef, undef, undef, undef, undef, undef, undef, undef, undef, undef, undef, undef, undef, undef, undef, undef, undef, undef, undef, undef, undef, undef, undef, undef, undef, undef, undef, undef, undef, undef, undef, undef, undef, undef, undef, undef, undef, undef, undef, undef, undef, undef, undef, undef, undef, undef, undef, undef, undef, undef, undef, undef, undef, undef, undef, undef, undef, undef], defers := [] }
theorem wp_call_fn0 {P : Program} {op : Oper} {a : Act} {w : World} {K : Act → World → Prop} {Q : Exit → Act → World → Prop} (f : FuncId) (ho : op.op = .call { callee := .value (.func f), args := #[], argTypes := #[] })
    (he : ∀ args w, (callFunc f args).run P w = .ok (.enter f args) w) (h : Calls P f #[] w fun e w' => ∃ r, e = .returned r ∧ K (a.put op.dst r) w') : op.wp P a w K Q := by
  unfold Oper.wp execOp
  simp [ho, resolve, invoke, he, go_sem]
  refine h.mono ?_
  rintro e w' ⟨r, rfl, hk⟩
  exact hk
theorem wp_build1 {P : Program} {op : Oper} {a : Act} {w w' : World} {K : Act → World → Prop} {Q : Exit → Act → World → Prop} (t : TypeId) (x : Operand) (ho : op.op = .buildSlice t 1 #[(0, x)]) (u v : Value) (hx : a.eval x = u) (hv : (Instr.buildSlice t 1 #[(0, u)]).run P w = .ok v w')
    (h : K (a.put op.dst v) w') : op.wp P a w K Q := by
  unfold Oper.wp execOp
  simp only [ho, List.map_toArray, List.map_cons, List.map_nil, hx, Sem.run_bind, hv, Result.andThen_ok, Sem.run_pure]
  exact h
theorem ent10 : ∀ args w, (callFunc 10 args).run Try.prog w = .ok (.enter 10 args) w := enters_of Try.func10 (by kernel_rfl) rfl
theorem ent18 : ∀ args w, (callFunc 18 args).run Try.prog w = .ok (.enter 18 args) w := enters_of Try.func18 (by kernel_rfl) rfl
theorem ent9 : ∀ args w, (callFunc 9 args).run Try.prog w = .ok (.enter 9 args) w := enters_of Try.func9 (by kernel_rfl) rfl
theorem below_on' {B : Nat} {w v v' : World} (h : Below B w v) (hB : B ≤ w.heap.size) (hb : Below v.heap.size v v') : Below B w v' := h.trans (hb.mono (Nat.le_trans hB h.size))
/-- What holds at each step of 'd, ok := Next(Start(), e)', in whatever order. -/
structure WA (ev : Ev) (w : World) (z : Nat) (D1 S : List UInt8) (l0 l1 l2 l3 l4 l5 l6 l7 l8 : Bool) (x2 x3 x11 x12 x13 x14 x15 x16 : Value) (v : World) : Prop where
  bel : Below w.heap.size w v
  src : v.heap[z]? = some (.cells (evr ev) 41)
  wz : w.heap.size ≤ z
  e0 : l0 = true → x12 = .agg (row S)
  e1 : l1 = true → x13 = .agg (evr ev)
  e2 : l2 = true → x14 = .tuple #[.agg (row D1), .bool true]
  e3 : l3 = true → x11 = .tuple #[.agg (row D1), .bool true]
  e4 : l4 = true → x15 = .agg (row D1)
  e5 : l5 = true → x16 = .bool true
  e6 : l6 = true → ∃ b, x2 = .pointer (some ⟨b, 0, none⟩) ∧ w.heap.size ≤ b ∧ b ≠ z ∧ v.heap[b]? = some (.cells (if l7 then row D1 else row zs) 26)
  e8 : l8 = true → x3 = .bool true
  l76 : l7 = true → l6 = true
theorem WA.past {w : World} {ev : Ev} {z : Nat} {D1 S : List UInt8} {v v' : World} {l0 l1 l2 l3 l4 l5 l6 l7 l8 : Bool} {x2 x3 x11 x12 x13 x14 x15 x16 : Value} (T : WA ev w z D1 S l0 l1 l2 l3 l4 l5 l6 l7 l8 x2 x3 x11 x12 x13 x14 x15 x16 v) (hb : Below v.heap.size v v') : WA ev w z D1 S l0 l1 l2 l3 l4 l5 l6 l7 l8 x2 x3 x11 x12 x13 x14 x15 x16 v' :=
  { T with bel := below_on' T.bel (Nat.le_refl _) hb, src := (hb.block _ (lt_of_some T.src)).trans T.src, e6 := fun h => by obtain ⟨b, h1, h2, h3, h4⟩ := T.e6 h; exact ⟨b, h1, h2, h3, (hb.block _ (lt_of_some h4)).trans h4⟩ }
theorem tickA {ops : Array Oper} {Q : Exit → Act → World → Prop} {id : Nat} (ev : Ev) (w : World) (z : Nat) (D1 S : List UInt8) (v : World) (hev : ev.sum.length = 32) (hcS : ∀ v, Calls Try.prog 10 #[] v fun e v' => e = .returned (.agg (row S)) ∧ Below v.heap.size v v') (hD : D1.length = 32) (hc : ∀ v, Calls Try.prog 18 #[.agg (row S), .agg (evr ev)] v fun e v' => e = .returned (.tuple #[.agg (row D1), .bool true]) ∧ Below v.heap.size v v')
    (o0 o1 o2 o3 o4 o5 o6 o7 o8 : Oper) (hsz : ops.size = 9) (h0 : ops[0]? = some o0) (h1 : ops[1]? = some o1) (h2 : ops[2]? = some o2) (h3 : ops[3]? = some o3) (h4 : ops[4]? = some o4) (h5 : ops[5]? = some o5) (h6 : ops[6]? = some o6) (h7 : ops[7]? = some o7) (h8 : ops[8]? = some o8)
    (p0 : o0.op = .call { callee := .value (.func 10), args := #[], argTypes := #[] }) (p1 : o1.op = .load 41 (.tmp 1)) (p2 : o2.op = .call { callee := .value (.func 18), args := #[.tmp 12, .tmp 13], argTypes := #[26, 41] }) (p3 : o3.op = .move (.tmp 14)) (p4 : o4.op = .extract (.tmp 11) 0) (p5 : o5.op = .extract (.tmp 11) 1) (p6 : o6.op = .alloc 26) (p7 : o7.op = .store 26 (.tmp 2) (.tmp 15)) (p8 : o8.op = .assign (.tmp 16))
    (d0 : o0.dst = some 12) (d1 : o1.dst = some 13) (d2 : o2.dst = some 14) (d3 : o3.dst = some 11) (d4 : o4.dst = some 15) (d5 : o5.dst = some 16) (d6 : o6.dst = some 2) (d7 : o7.dst = none) (d8 : o8.dst = some 3)
    (g0 : o0.guard = none) (g1 : o1.guard = none) (g2 : o2.guard = none) (g3 : o3.guard = none) (g4 : o4.guard = none) (g5 : o5.guard = none) (g6 : o6.guard = none) (g7 : o7.guard = none) (g8 : o8.guard = none)
    (e2_0 : edgeB ops 2 0 = true) (e2_1 : edgeB ops 2 1 = true) (e3_2 : edgeB ops 3 2 = true) (e4_3 : edgeB ops 4 3 = true) (e5_3 : edgeB ops 5 3 = true) (e7_6 : edgeB ops 7 6 = true) (e7_4 : edgeB ops 7 4 = true) (e8_5 : edgeB ops 8 5 = true)
    (n0 : onlyB ops 0 [] = true) (n1 : onlyB ops 1 [] = true) (n2 : onlyB ops 2 [0, 1] = true) (n3 : onlyB ops 3 [2] = true) (n4 : onlyB ops 4 [3] = true) (n5 : onlyB ops 5 [3] = true) (n6 : onlyB ops 6 [] = true) (n7 : onlyB ops 7 [0, 1, 2, 3, 4, 6] = true) (n8 : onlyB ops 8 [0, 1, 2, 3, 4, 5, 6, 7] = true)
    (hbel : Below w.heap.size w v) (hsrc : v.heap[z]? = some (.cells (evr ev) 41)) (hwz : w.heap.size ≤ z)
    (hQ : ∀ b x11 x12 x13 x14 x15 x16 v', Below w.heap.size w v' → v'.heap[z]? = some (.cells (evr ev) 41) → w.heap.size ≤ b → b ≠ z → v'.heap[b]? = some (.cells (row D1) 26) → Q .normal (frA ev z (.pointer (some ⟨b, 0, none⟩)) (.bool true) x11 x12 x13 x14 x15 x16) v') :
    (Code.region id ops true).wp Try.prog Q (frA ev z undef undef undef undef undef undef undef undef) v := by
  refine wp_region_any (by kernel_rfl) ?_
  rw [hsz]
  refine wpAny_inv (fun listed a v => ∃ l0 l1 l2 l3 l4 l5 l6 l7 l8 x2 x3 x11 x12 x13 x14 x15 x16, listed = #[l0, l1, l2, l3, l4, l5, l6, l7, l8] ∧ a = frA ev z x2 x3 x11 x12 x13 x14 x15 x16 ∧ WA ev w z D1 S l0 l1 l2 l3 l4 l5 l6 l7 l8 x2 x3 x11 x12 x13 x14 x15 x16 v) ?_ ?_ _ _ _ _ ?_ ?_
  · rintro listed a v ⟨l0, l1, l2, l3, l4, l5, l6, l7, l8, x2, x3, x11, x12, x13, x14, x15, x16, rfl, rfl, T⟩ i hi
    have hlt := ready_lt hi
    have hno := ready_not hi
    rw [hsz] at hlt
    obtain rfl | rfl | rfl | rfl | rfl | rfl | rfl | rfl | rfl : i = 0 ∨ i = 1 ∨ i = 2 ∨ i = 3 ∨ i = 4 ∨ i = 5 ∨ i = 6 ∨ i = 7 ∨ i = 8 := by omega
    · refine wpOp_plain h0 g0 (wp_call_fn0 10 p0 ent10 ((hcS v).mono ?_))
      rintro e v' ⟨rfl, hb⟩
      refine ⟨_, rfl, ?_⟩
      rw [d0]
      exact ⟨_, _, _, _, _, _, _, _, _, x2, x3, x11, _, x13, x14, x15, x16, rfl, rfl, { T.past hb with e0 := fun _ => rfl }⟩
    · refine wpOp_plain h1 g1 (wp_load_row 41 _ p1 z rfl 41 (evr ev) _ T.src Try.underlying41 rfl (row41 ev hev) ?_)
      rw [d1]
      exact ⟨_, _, _, _, _, _, _, _, _, x2, x3, x11, x12, _, x14, x15, x16, rfl, rfl, { T with e1 := fun _ => rfl }⟩
    · have k0 := T.e0 (ready_edge hi e2_0)
      have k1 := T.e1 (ready_edge hi e2_1)
      refine wpOp_plain h2 g2 (wp_call_fn2 18 12 13 26 41 p2 ent18 _ _ k0 k1 ((hc v).mono ?_))
      rintro e v' ⟨rfl, hb⟩
      refine ⟨_, rfl, ?_⟩
      rw [d2]
      exact ⟨_, _, _, _, _, _, _, _, _, x2, x3, x11, x12, x13, _, x15, x16, rfl, rfl, { T.past hb with e2 := fun _ => rfl }⟩
    · have k2 := T.e2 (ready_edge hi e3_2)
      refine wpOp_plain h3 g3 (wp_val (.tuple #[.agg (row D1), .bool true]) (by unfold execOp; simp only [p3]; subst k2; rfl) ?_)
      rw [d3]
      exact ⟨_, _, _, _, _, _, _, _, _, x2, x3, _, x12, x13, x14, x15, x16, rfl, rfl, { T with e3 := fun _ => rfl }⟩
    · have k3 := T.e3 (ready_edge hi e4_3)
      refine wpOp_plain h4 g4 (wp_val (.agg (row D1)) (by unfold execOp; simp only [p4]; subst k3; rfl) ?_)
      rw [d4]
      exact ⟨_, _, _, _, _, _, _, _, _, x2, x3, x11, x12, x13, x14, _, x16, rfl, rfl, { T with e4 := fun _ => rfl }⟩
    · have k3 := T.e3 (ready_edge hi e5_3)
      refine wpOp_plain h5 g5 (wp_val (.bool true) (by unfold execOp; simp only [p5]; subst k3; rfl) ?_)
      rw [d5]
      exact ⟨_, _, _, _, _, _, _, _, _, x2, x3, x11, x12, x13, x14, x15, _, rfl, rfl, { T with e5 := fun _ => rfl }⟩
    · have k7 : l7 = false := by
        cases hq : l7 with
        | false => rfl
        | true =>
          have := T.l76 hq
          have hno' : l6 = false := hno
          rw [hno'] at this
          cases this
      refine wpOp_plain h6 g6 (wp_alloc_row 26 p6 (row zs) (zero26 v) ?_)
      rw [d6]
      have hB : Below v.heap.size v (v.alloc (.cells (row zs) 26)) := (Below.refl _ _).alloc (Nat.le_refl _) _
      exact ⟨_, _, _, _, _, _, _, _, _, _, x3, x11, x12, x13, x14, x15, x16, rfl, rfl, { T.past hB with e6 := fun _ => ⟨v.heap.size, rfl, T.bel.size, Nat.ne_of_gt (lt_of_some T.src), by rw [k7, heap_alloc_if, if_pos rfl]; rfl⟩, l76 := fun _ => rfl }⟩
    · have k7 : l7 = false := hno
      have k4 := T.e4 (ready_edge hi e7_4)
      have k6 : l6 = true := ready_edge hi e7_6
      obtain ⟨b, q1, q2, q3, q4⟩ := T.e6 k6
      rw [k7] at q4
      subst q1
      refine wpOp_plain h7 g7 (wp_store_row 26 _ _ p7 b (row D1) rfl k4 26 (row zs) q4 (row26 D1 hD) (row_eq _ _ zs_len hD) (row_one D1) ?_)
      rw [d7]
      refine ⟨_, _, _, _, _, _, _, _, _, _, x3, x11, x12, x13, x14, x15, x16, rfl, rfl, { T with bel := below_setRow T.bel q2 _, src := ?_, e6 := fun _ => ⟨b, rfl, q2, q3, setRow_heap _ _ _ _ _ _ q4⟩, l76 := fun _ => k6 }⟩
      rw [setRow_other _ _ _ _ (Ne.symm q3)]; exact T.src
    · have k5 := T.e5 (ready_edge hi e8_5)
      refine wpOp_plain h8 g8 (wp_val (.bool true) (by unfold execOp; simp only [p8]; subst k5; rfl) ?_)
      rw [d8]
      exact ⟨_, _, _, _, _, _, _, _, _, x2, _, x11, x12, x13, x14, x15, x16, rfl, rfl, { T with e8 := fun _ => rfl }⟩
  · rintro listed a v ⟨l0, l1, l2, l3, l4, l5, l6, l7, l8, x2, x3, x11, x12, x13, x14, x15, x16, rfl, rfl, T⟩ hr
    have k0 : l0 = true := done_of hr 0 _ n0 (by simp)
    have k1 : l1 = true := done_of hr 1 _ n1 (by simp)
    have k2 : l2 = true := done_of hr 2 _ n2 (by simp [k0, k1])
    have k3 : l3 = true := done_of hr 3 _ n3 (by simp [k2])
    have k4 : l4 = true := done_of hr 4 _ n4 (by simp [k3])
    have k5 : l5 = true := done_of hr 5 _ n5 (by simp [k3])
    have k6 : l6 = true := done_of hr 6 _ n6 (by simp)
    have k7 : l7 = true := done_of hr 7 _ n7 (by simp [k0, k1, k2, k3, k4, k6])
    have k8 : l8 = true := done_of hr 8 _ n8 (by simp [k0, k1, k2, k3, k4, k5, k6, k7])
    obtain ⟨b, q1, q2, q3, q4⟩ := T.e6 k6
    rw [k7] at q4
    rw [q1, T.e8 k8]
    exact hQ b _ _ _ _ _ _ v T.bel T.src q2 q3 q4
  · unfold todo; rw [hsz]; decide
  · refine ⟨false, false, false, false, false, false, false, false, false, undef, undef, undef, undef, undef, undef, undef, undef, rfl, rfl, ?_⟩
    exact { bel := hbel.drew, src := hsrc, wz := hwz, e0 := nofun, e1 := nofun, e2 := nofun, e3 := nofun, e4 := nofun, e5 := nofun, e6 := nofun, e8 := nofun, l76 := nofun }
/-- What holds at each step of 'h, is := Head(Start(), []Event{e})', in whatever order. -/
structure WB (ev : Ev) (w : World) (z b2 : Nat) (D1 S : List UInt8) (l0 l1 l2 l3 l4 l5 l6 l7 l8 l9 : Bool) (x4 x5 x17 x18 x19 x20 x21 x22 x23 : Value) (v : World) : Prop where
  bel : Below w.heap.size w v
  src : v.heap[z]? = some (.cells (evr ev) 41)
  two : v.heap[b2]? = some (.cells (row D1) 26)
  wz : w.heap.size ≤ z
  e0 : l0 = true → x18 = .agg (row S)
  e1 : l1 = true → x19 = .agg (evr ev)
  e2 : l2 = true → ∃ g, x20 = .slice (some ⟨g, 0, none⟩) 1 1 ∧ v.heap[g]? = some (.cells (evr ev) 41)
  e3 : l3 = true → x21 = .tuple #[.agg (row D1), .bool true]
  e4 : l4 = true → x17 = .tuple #[.agg (row D1), .bool true]
  e5 : l5 = true → x22 = .agg (row D1)
  e6 : l6 = true → x23 = .bool true
  e7 : l7 = true → ∃ b, x4 = .pointer (some ⟨b, 0, none⟩) ∧ w.heap.size ≤ b ∧ (b ≠ z ∧ b ≠ b2 ∧ (l2 = true → ∀ g, x20 = .slice (some ⟨g, 0, none⟩) 1 1 → b ≠ g)) ∧ v.heap[b]? = some (.cells (if l8 then row D1 else row zs) 26)
  e9 : l9 = true → x5 = .bool true
  l87 : l8 = true → l7 = true
theorem WB.past {w : World} {ev : Ev} {z b2 : Nat} {D1 S : List UInt8} {v v' : World} {l0 l1 l2 l3 l4 l5 l6 l7 l8 l9 : Bool} {x4 x5 x17 x18 x19 x20 x21 x22 x23 : Value} (T : WB ev w z b2 D1 S l0 l1 l2 l3 l4 l5 l6 l7 l8 l9 x4 x5 x17 x18 x19 x20 x21 x22 x23 v) (hb : Below v.heap.size v v') : WB ev w z b2 D1 S l0 l1 l2 l3 l4 l5 l6 l7 l8 l9 x4 x5 x17 x18 x19 x20 x21 x22 x23 v' :=
  { T with bel := below_on' T.bel (Nat.le_refl _) hb, src := (hb.block _ (lt_of_some T.src)).trans T.src, two := (hb.block _ (lt_of_some T.two)).trans T.two, e2 := fun h => by obtain ⟨g, h1, h2⟩ := T.e2 h; exact ⟨g, h1, (hb.block _ (lt_of_some h2)).trans h2⟩, e7 := fun h => by obtain ⟨b, h1, h2, h3, h4⟩ := T.e7 h; exact ⟨b, h1, h2, h3, (hb.block _ (lt_of_some h4)).trans h4⟩ }
theorem tickB {ops : Array Oper} {Q : Exit → Act → World → Prop} {id : Nat} (ev : Ev) (w : World) (z b2 : Nat) (D1 S : List UInt8) (v : World) (y2 y3 y11 y12 y13 y14 y15 y16 : Value) (hev : ev.sum.length = 32) (hcS : ∀ v, Calls Try.prog 10 #[] v fun e v' => e = .returned (.agg (row S)) ∧ Below v.heap.size v v') (hD : D1.length = 32) (hc : ∀ v g, v.heap[g]? = some (.cells (evr ev) 41) → Calls Try.prog 9 #[.agg (row S), .slice (some ⟨g, 0, none⟩) 1 1] v fun e v' => e = .returned (.tuple #[.agg (row D1), .bool true]) ∧ Below v.heap.size v v')
    (o0 o1 o2 o3 o4 o5 o6 o7 o8 o9 : Oper) (hsz : ops.size = 10) (h0 : ops[0]? = some o0) (h1 : ops[1]? = some o1) (h2 : ops[2]? = some o2) (h3 : ops[3]? = some o3) (h4 : ops[4]? = some o4) (h5 : ops[5]? = some o5) (h6 : ops[6]? = some o6) (h7 : ops[7]? = some o7) (h8 : ops[8]? = some o8) (h9 : ops[9]? = some o9)
    (p0 : o0.op = .call { callee := .value (.func 10), args := #[], argTypes := #[] }) (p1 : o1.op = .load 41 (.tmp 1)) (p2 : o2.op = .buildSlice 22 1 #[(0, .tmp 19)]) (p3 : o3.op = .call { callee := .value (.func 9), args := #[.tmp 18, .tmp 20], argTypes := #[26, 22] }) (p4 : o4.op = .move (.tmp 21)) (p5 : o5.op = .extract (.tmp 17) 0) (p6 : o6.op = .extract (.tmp 17) 1) (p7 : o7.op = .alloc 26) (p8 : o8.op = .store 26 (.tmp 4) (.tmp 22)) (p9 : o9.op = .assign (.tmp 23))
    (d0 : o0.dst = some 18) (d1 : o1.dst = some 19) (d2 : o2.dst = some 20) (d3 : o3.dst = some 21) (d4 : o4.dst = some 17) (d5 : o5.dst = some 22) (d6 : o6.dst = some 23) (d7 : o7.dst = some 4) (d8 : o8.dst = none) (d9 : o9.dst = some 5)
    (g0 : o0.guard = none) (g1 : o1.guard = none) (g2 : o2.guard = none) (g3 : o3.guard = none) (g4 : o4.guard = none) (g5 : o5.guard = none) (g6 : o6.guard = none) (g7 : o7.guard = none) (g8 : o8.guard = none) (g9 : o9.guard = none)
    (e2_1 : edgeB ops 2 1 = true) (e3_0 : edgeB ops 3 0 = true) (e3_2 : edgeB ops 3 2 = true) (e4_3 : edgeB ops 4 3 = true) (e5_4 : edgeB ops 5 4 = true) (e6_4 : edgeB ops 6 4 = true) (e8_7 : edgeB ops 8 7 = true) (e8_5 : edgeB ops 8 5 = true) (e9_6 : edgeB ops 9 6 = true)
    (n0 : onlyB ops 0 [] = true) (n1 : onlyB ops 1 [] = true) (n2 : onlyB ops 2 [1] = true) (n3 : onlyB ops 3 [0, 2] = true) (n4 : onlyB ops 4 [3] = true) (n5 : onlyB ops 5 [4] = true) (n6 : onlyB ops 6 [4] = true) (n7 : onlyB ops 7 [] = true) (n8 : onlyB ops 8 [0, 1, 2, 3, 4, 5, 7] = true) (n9 : onlyB ops 9 [0, 1, 2, 3, 4, 5, 6, 7, 8] = true)
    (hbel : Below w.heap.size w v) (hsrc : v.heap[z]? = some (.cells (evr ev) 41)) (htwo : v.heap[b2]? = some (.cells (row D1) 26)) (hwz : w.heap.size ≤ z)
    (hQ : ∀ b x17 x18 x19 x20 x21 x22 x23 v', Below w.heap.size w v' → v'.heap[z]? = some (.cells (evr ev) 41) → v'.heap[b2]? = some (.cells (row D1) 26) → w.heap.size ≤ b → b ≠ z → b ≠ b2 → v'.heap[b]? = some (.cells (row D1) 26) → Q .normal (frB ev z y2 y3 y11 y12 y13 y14 y15 y16 (.pointer (some ⟨b, 0, none⟩)) (.bool true) x17 x18 x19 x20 x21 x22 x23) v') :
    (Code.region id ops true).wp Try.prog Q (frB ev z y2 y3 y11 y12 y13 y14 y15 y16 undef undef undef undef undef undef undef undef undef) v := by
  refine wp_region_any (by kernel_rfl) ?_
  rw [hsz]
  refine wpAny_inv (fun listed a v => ∃ l0 l1 l2 l3 l4 l5 l6 l7 l8 l9 x4 x5 x17 x18 x19 x20 x21 x22 x23, listed = #[l0, l1, l2, l3, l4, l5, l6, l7, l8, l9] ∧ a = frB ev z y2 y3 y11 y12 y13 y14 y15 y16 x4 x5 x17 x18 x19 x20 x21 x22 x23 ∧ WB ev w z b2 D1 S l0 l1 l2 l3 l4 l5 l6 l7 l8 l9 x4 x5 x17 x18 x19 x20 x21 x22 x23 v) ?_ ?_ _ _ _ _ ?_ ?_
  · rintro listed a v ⟨l0, l1, l2, l3, l4, l5, l6, l7, l8, l9, x4, x5, x17, x18, x19, x20, x21, x22, x23, rfl, rfl, T⟩ i hi
    have hlt := ready_lt hi
    have hno := ready_not hi
    rw [hsz] at hlt
    obtain rfl | rfl | rfl | rfl | rfl | rfl | rfl | rfl | rfl | rfl : i = 0 ∨ i = 1 ∨ i = 2 ∨ i = 3 ∨ i = 4 ∨ i = 5 ∨ i = 6 ∨ i = 7 ∨ i = 8 ∨ i = 9 := by omega
    · refine wpOp_plain h0 g0 (wp_call_fn0 10 p0 ent10 ((hcS v).mono ?_))
      rintro e v' ⟨rfl, hb⟩
      refine ⟨_, rfl, ?_⟩
      rw [d0]
      exact ⟨_, _, _, _, _, _, _, _, _, _, x4, x5, x17, _, x19, x20, x21, x22, x23, rfl, rfl, { T.past hb with e0 := fun _ => rfl }⟩
    · refine wpOp_plain h1 g1 (wp_load_row 41 _ p1 z rfl 41 (evr ev) _ T.src Try.underlying41 rfl (row41 ev hev) ?_)
      rw [d1]
      exact ⟨_, _, _, _, _, _, _, _, _, _, x4, x5, x17, x18, _, x20, x21, x22, x23, rfl, rfl, { T with e1 := fun _ => rfl }⟩
    · have k1 := T.e1 (ready_edge hi e2_1)
      refine wpOp_plain h2 g2 (wp_build1 22 (.tmp 19) p2 (.agg (evr ev)) _ k1 (build_ev ev hev v) ?_)
      rw [d2]
      have hB : Below v.heap.size v (v.alloc (.cells (evr ev) 41)) := (Below.refl _ _).alloc (Nat.le_refl _) _
      refine ⟨_, _, _, _, _, _, _, _, _, _, x4, x5, x17, x18, x19, _, x21, x22, x23, rfl, rfl, { T.past hB with e2 := fun _ => ⟨v.heap.size, rfl, by rw [heap_alloc_if, if_pos rfl]⟩, e7 := fun h => ?_ }⟩
      obtain ⟨b, q1, q2, q3, q4⟩ := T.e7 h
      refine ⟨b, q1, q2, ⟨q3.1, q3.2.1, fun _ g hg => ?_⟩, (hB.block _ (lt_of_some q4)).trans q4⟩
      have hlt := lt_of_some q4
      have hge : v.heap.size = g := by injection hg with h1; injection h1 with h1; injection h1
      omega
    · have k0 := T.e0 (ready_edge hi e3_0)
      obtain ⟨g, k2, hg⟩ := T.e2 (ready_edge hi e3_2)
      refine wpOp_plain h3 g3 (wp_call_fn2 9 18 20 26 22 p3 ent9 _ _ k0 k2 ((hc v g hg).mono ?_))
      rintro e v' ⟨rfl, hb⟩
      refine ⟨_, rfl, ?_⟩
      rw [d3]
      exact ⟨_, _, _, _, _, _, _, _, _, _, x4, x5, x17, x18, x19, x20, _, x22, x23, rfl, rfl, { T.past hb with e3 := fun _ => rfl }⟩
    · have k2 := T.e3 (ready_edge hi e4_3)
      refine wpOp_plain h4 g4 (wp_val (.tuple #[.agg (row D1), .bool true]) (by unfold execOp; simp only [p4]; subst k2; rfl) ?_)
      rw [d4]
      exact ⟨_, _, _, _, _, _, _, _, _, _, x4, x5, _, x18, x19, x20, x21, x22, x23, rfl, rfl, { T with e4 := fun _ => rfl }⟩
    · have k3 := T.e4 (ready_edge hi e5_4)
      refine wpOp_plain h5 g5 (wp_val (.agg (row D1)) (by unfold execOp; simp only [p5]; subst k3; rfl) ?_)
      rw [d5]
      exact ⟨_, _, _, _, _, _, _, _, _, _, x4, x5, x17, x18, x19, x20, x21, _, x23, rfl, rfl, { T with e5 := fun _ => rfl }⟩
    · have k3 := T.e4 (ready_edge hi e6_4)
      refine wpOp_plain h6 g6 (wp_val (.bool true) (by unfold execOp; simp only [p6]; subst k3; rfl) ?_)
      rw [d6]
      exact ⟨_, _, _, _, _, _, _, _, _, _, x4, x5, x17, x18, x19, x20, x21, x22, _, rfl, rfl, { T with e6 := fun _ => rfl }⟩
    · have k7 : l8 = false := by
        cases hq : l8 with
        | false => rfl
        | true =>
          have := T.l87 hq
          have hno' : l7 = false := hno
          rw [hno'] at this
          cases this
      refine wpOp_plain h7 g7 (wp_alloc_row 26 p7 (row zs) (zero26 v) ?_)
      rw [d7]
      have hB : Below v.heap.size v (v.alloc (.cells (row zs) 26)) := (Below.refl _ _).alloc (Nat.le_refl _) _
      exact ⟨_, _, _, _, _, _, _, _, _, _, _, x5, x17, x18, x19, x20, x21, x22, x23, rfl, rfl, { T.past hB with e7 := fun _ => ⟨v.heap.size, rfl, T.bel.size, ⟨Nat.ne_of_gt (lt_of_some T.src), Nat.ne_of_gt (lt_of_some T.two), fun h g hg => by obtain ⟨g2, p1, p2⟩ := T.e2 h; rw [p1] at hg; injection hg with hg; injection hg with hg; injection hg with hg; subst hg; exact Nat.ne_of_gt (lt_of_some p2)⟩, by rw [k7, heap_alloc_if, if_pos rfl]; rfl⟩, l87 := fun _ => rfl }⟩
    · have k8 : l8 = false := hno
      have k5 := T.e5 (ready_edge hi e8_5)
      have k7 : l7 = true := ready_edge hi e8_7
      obtain ⟨b, q1, q2, q3, q4⟩ := T.e7 k7
      rw [k8] at q4
      subst q1
      refine wpOp_plain h8 g8 (wp_store_row 26 _ _ p8 b (row D1) rfl k5 26 (row zs) q4 (row26 D1 hD) (row_eq _ _ zs_len hD) (row_one D1) ?_)
      rw [d8]
      refine ⟨_, _, _, _, _, _, _, _, _, _, _, x5, x17, x18, x19, x20, x21, x22, x23, rfl, rfl, { T with bel := below_setRow T.bel q2 _, src := ?_, two := ?_, e2 := fun h => ?_, e7 := fun _ => ⟨b, rfl, q2, q3, setRow_heap _ _ _ _ _ _ q4⟩, l87 := fun _ => k7 }⟩
      · rw [setRow_other _ _ _ _ (Ne.symm q3.1)]; exact T.src
      · rw [setRow_other _ _ _ _ (Ne.symm q3.2.1)]; exact T.two
      · obtain ⟨g, h1, h2⟩ := T.e2 h
        exact ⟨g, h1, by rw [setRow_other _ _ _ _ (Ne.symm (q3.2.2 h g h1))]; exact h2⟩
    · have k6 := T.e6 (ready_edge hi e9_6)
      refine wpOp_plain h9 g9 (wp_val (.bool true) (by unfold execOp; simp only [p9]; subst k6; rfl) ?_)
      rw [d9]
      exact ⟨_, _, _, _, _, _, _, _, _, _, x4, _, x17, x18, x19, x20, x21, x22, x23, rfl, rfl, { T with e9 := fun _ => rfl }⟩
  · rintro listed a v ⟨l0, l1, l2, l3, l4, l5, l6, l7, l8, l9, x4, x5, x17, x18, x19, x20, x21, x22, x23, rfl, rfl, T⟩ hr
    have k0 : l0 = true := done_of hr 0 _ n0 (by simp)
    have k1 : l1 = true := done_of hr 1 _ n1 (by simp)
    have k2 : l2 = true := done_of hr 2 _ n2 (by simp [k1])
    have k3 : l3 = true := done_of hr 3 _ n3 (by simp [k0, k2])
    have k4 : l4 = true := done_of hr 4 _ n4 (by simp [k3])
    have k5 : l5 = true := done_of hr 5 _ n5 (by simp [k4])
    have k6 : l6 = true := done_of hr 6 _ n6 (by simp [k4])
    have k7 : l7 = true := done_of hr 7 _ n7 (by simp)
    have k8 : l8 = true := done_of hr 8 _ n8 (by simp [k0, k1, k2, k3, k4, k5, k7])
    have k9 : l9 = true := done_of hr 9 _ n9 (by simp [k0, k1, k2, k3, k4, k5, k6, k7, k8])
    obtain ⟨b, q1, q2, q3, q4⟩ := T.e7 k7
    rw [k8] at q4
    rw [q1, T.e9 k9]
    exact hQ b _ _ _ _ _ _ _ v T.bel T.src T.two q2 q3.1 q3.2.1 q4
  · unfold todo; rw [hsz]; decide
  · refine ⟨false, false, false, false, false, false, false, false, false, false, undef, undef, undef, undef, undef, undef, undef, undef, undef, rfl, rfl, ?_⟩
    exact { bel := hbel.drew, src := hsrc, two := htwo, wz := hwz, e0 := nofun, e1 := nofun, e2 := nofun, e3 := nofun, e4 := nofun, e5 := nofun, e6 := nofun, e7 := nofun, e9 := nofun, l87 := nofun }
end Go.Proofs.Ytfilolmbppjbjaa

namespace Go.Proofs.Ytfilolmbppjbjaa
open Go Go.RowKit

def d1L : List UInt8 := nextD startD E1
theorem told_none : told [] = [(CEN, startD)] := rfl
theorem told_E1 : told [E1] = [(CEN, startD), (startD ++ [7, 1], d1L)] := by
  unfold told
  have h : [E1].all okP = true := by simp [E1_ok]
  rw [h, if_pos rfl]
  show [(CEN, startD), (startD ++ putE E1, nextD startD E1)] = _
  rw [E1_put]; rfl
theorem D1_ne : d1L ≠ startD := by
  unfold d1L nextD
  rw [E1_put, startD_eq]
  decide +kernel
theorem fit_none : Fit [] := fun e h => (by cases h)
theorem fit_E1 : Fit [E1] := fun e h => by rw [List.mem_singleton] at h; rw [h]; exact E1_fit
theorem evs_none (B : Nat) (w : World) (p : Option Addr) : EvsAt B w p [] := .inl rfl
theorem evs_one {B : Nat} {w : World} {g : Nat} (h : w.heap[g]? = some (.cells (evr E1) 41)) (hB : g < B) : EvsAt B w (some ⟨g, 0, none⟩) [E1] := by
  refine .inr ⟨g, 0, rfl, hB, fun k hk j x hx => ?_⟩
  have : k = 0 := by simp at hk; omega
  subst this
  rw [cell_of_row w g _ _ _ _ h]
  simpa using hx
section
variable {P : Program} {ops : Array Oper} {C : World → Prop} {Q : Act → Prop} {a : Act} {o : Oper} {rest : List Oper}
theorem wpQuiet_call0 (hw : Region.wanted o (yielded ops a.tmps) = true) (f : FuncId) (ts : Array TypeId) (ho : o.op = .call { callee := .value (.func f), args := #[], argTypes := ts })
    (he : ∀ args w, (callFunc f args).run P w = .ok (.enter f args) w) (v : Value) (hc : ∀ w, C w → Calls P f #[] w fun e w' => e = .returned v ∧ C w')
    (h : wpQuiet P ops C Q rest (a.put o.dst v)) : wpQuiet P ops C Q (o :: rest) a :=
  wpQuiet_call hw f _ ts ho he _ (by simp) v hc h
theorem wpQuiet_slen (hw : Region.wanted o (yielded ops a.tmps) = true) (t e : TypeId) (x : Operand) (ho : o.op = .call { callee := .builtin .len, args := #[x], argTypes := #[t] }) (p : Option Addr) (k c : Nat) (hx : a.eval x = .slice p k c) (ht : P.underlying t = some (.slice e))
    (h : wpQuiet P ops C Q rest (a.put o.dst (.int .i64 (k : Int)))) : wpQuiet P ops C Q (o :: rest) a :=
  wpQuiet_val hw _ (fun w _ => by unfold execOp; simp only [ho]; simp only [resolve, List.map_toArray, List.map_cons, List.map_nil, hx]; simp [invoke, builtin, Builtin.len_, run_underlying ht, goInt, go_sem]) h
theorem wpQuiet_dne (hw : Region.wanted o (yielded ops a.tmps) = true) (t t' : TypeId) (x y : Operand) (ho : o.op = .binOp .neq t x y t') (c d : Array Value) (hx : a.eval x = .agg c) (hy : a.eval y = .agg d) (hp : P.eqGuardType P.depth t = false) (r : Bool) (hr : ∀ w, (Op.equalIn 10000 t (.agg c) (.agg d)).run P w = .ok r w)
    (h : wpQuiet P ops C Q rest (a.put o.dst (.bool (!r)))) : wpQuiet P ops C Q (o :: rest) a :=
  wpQuiet_val hw _ (fun w _ => by unfold execOp; simp only [ho, hx, hy]; simp [eqGuard, hp, run_neq_struct, hr, go_sem]) h
theorem wpList_build2 {w : World} {Q : Exit → Act → World → Prop} (hgd : o.guard = none) (t : TypeId) (i j : Nat) (x y : Operand) (ho : o.op = .build t #[(i, x), (j, y)]) (u1 u2 : Value) (hx : a.eval x = u1) (hy : a.eval y = u2) (v : Value) (hv : ∀ w, (Instr.build t #[(i, u1), (j, u2)]).run P w = .ok v w)
    (h : wpList P ops Q rest (a.put o.dst v) w) : wpList P ops Q (o :: rest) a w :=
  wpList_plain hgd fun _ hK => by
    unfold Oper.wp execOp
    simp only [ho, List.map_toArray, List.map_cons, List.map_nil, hx, hy, Sem.run_bind, hv, Result.andThen_ok, Sem.run_pure]
    exact hK _ _ h
end
theorem seg_build1 {P : Program} {Q : Exit → Act → World → Prop} {a : Act} {w : World} {l : List Oper} (k : Nat) (o : Oper) (ho : l.toArray[k]? = some o) (hr : (Region.ready .any l.toArray (upto l.toArray.size k) == [k]) = true) (hw : Region.wanted o (yielded l.toArray a.tmps) = true)
    (t : TypeId) (x : Operand) (hop : o.op = .buildSlice t 1 #[(0, x)]) (d : Option Tmp) (hd : o.dst = d) (u v : Value) (hx : a.eval x = u) (w' : World) (hv : (Instr.buildSlice t 1 #[(0, u)]).run P w = .ok v w') (h : Seg P l.toArray Q (k + 1) (a.put d v) w') : Seg P l.toArray Q k a w :=
  seg_one k o ho hr hw (wp_build1 t x hop u v hx hv (by rw [hd]; exact h))
theorem ent13 : ∀ args w, (callFunc 13 args).run Try.prog w = .ok (.enter 13 args) w := enters_of Try.func13 (by kernel_rfl) rfl
theorem ent16 : ∀ args w, (callFunc 16 args).run Try.prog w = .ok (.enter 16 args) w := enters_of Try.func16 (by kernel_rfl) rfl
theorem buildE1 (v : World) : (Instr.build 41 #[(0, .int .i64 7), (3, .int .i64 1)]).run Try.prog v = .ok (.agg (evr E1)) v := run_build v 41 _ _ (by kernel_rfl)
theorem index35 (g n c k : Nat) (hk : k < n) (v : World) : (Instr.indexAt 35 (.slice (some ⟨g, 0, none⟩) n c) (.int .i64 (k : Int))).run Try.prog v = .ok (.pointer (some ⟨g, k * 32, none⟩)) v := by
  rw [run_indexAt_slice (P := Try.prog) v 35 ⟨g, 0, none⟩ n c .i64 (k : Int) (by kernel_rfl)]
  have e1 : Try.prog.elem 35 = 26 := by kernel_rfl
  simp [e1, Try.sizeOf26, hk, Addr.add_mid]
/-- What 'Heads' returned, once more: a row of digests. -/
theorem own_digs {n₀ : Nat} {w : World} {v : Value} {T : List (List UInt8 × List UInt8)} (hT : ∀ x ∈ T, x.2.length = 32) (h : w.ownsRow n₀ 26 32 v T.length (digs T)) : (v = .slice none 0 0 ∧ T = []) ∨ ∃ g cap cur, v = .slice (some ⟨g, 0, none⟩) T.length cap ∧ n₀ ≤ g ∧ w.heap[g]? = some (.cells cur 26) ∧ ∀ k (hk : k < T.length), ∀ u : World, u.heap[g]? = some (.cells cur 26) → (Instr.loadAt 26 (.pointer (some ⟨g, k * 32, none⟩))).run Try.prog u = .ok (.agg (row T[k].2)) u := by
  rcases h.2 with ⟨h1, h0⟩ | ⟨g, cap, cur, h1, h2, h3, h4, h5, h6, h7⟩
  · exact .inl ⟨h1, List.eq_nil_of_length_eq_zero h0⟩
  · refine .inr ⟨g, cap, cur, h1, h2, h3, fun k hk u hu => ?_⟩
    have key : ∀ (T : List (List UInt8 × List UInt8)), (∀ x ∈ T, x.2.length = 32) → ∀ k (hk : k < T.length) j, j < 32 → (digs T)[k * 32 + j]? = (row T[k].2).toList[j]? := by
      intro T
      induction T with
      | nil => intro _ k hk; simp at hk
      | cons x T ih =>
        intro hT k hk j hj
        have hx : (row x.2).toList.length = 32 := by rw [Array.length_toList, row_size, hT x (by simp)]
        have hd : digs (x :: T) = (row x.2).toList ++ digs T := by simp [digs]
        cases k with
        | zero => rw [hd, Nat.zero_mul, Nat.zero_add, List.getElem?_append_left (by omega)]; rfl
        | succ k =>
          rw [hd, List.getElem?_append_right (by omega), hx, show (k + 1) * 32 + j - 32 = k * 32 + j by omega]
          exact ih (fun y hy => hT y (by simp [hy])) k (by simpa using hk) j hj
    have hl : (T[k].2).length = 32 := hT _ (List.getElem_mem hk)
    have := run_loadAt_mid (P := Try.prog) u g (k * 32) 26 (row T[k].2).toList _ (fun j x hx => by
      have hj : j < 32 := by
        have := (List.getElem?_eq_some_iff.1 hx).1
        rw [Array.length_toList, row_size, hl] at this; exact this
      rw [cell_of_row u g _ _ _ _ hu, ← Array.getElem?_toList]
      have h8 : (cur.toList.take (T.length * 32))[k * 32 + j]? = (digs T)[k * 32 + j]? := by rw [h7]
      rw [List.getElem?_take_of_lt (by omega)] at h8
      rw [h8, key T hT k hk j hj]; exact hx) Try.underlying26 rfl (by rw [Array.length_toList, row_size, hl]; exact info28)
    simpa using this

set_option maxRecDepth 100000 in
set_option maxHeartbeats 2000000 in
theorem works_gen (E : Ev) (S D1 : List UInt8) (I1 : ByteArray) (hEs : Hid (E.sum.length = 32)) (hD : Hid (D1.length = 32)) (hS : Hid (S.length = 32))
    (cN : Hid (∀ v, Calls Try.prog 18 #[.agg (row S), .agg (evr E)] v fun e v' => e = .returned (.tuple #[.agg (row D1), .bool true]) ∧ Below v.heap.size v v'))
    (cH : Hid (∀ v g, v.heap[g]? = some (.cells (evr E) 41) → Calls Try.prog 9 #[.agg (row S), .slice (some ⟨g, 0, none⟩) 1 1] v fun e v' => e = .returned (.tuple #[.agg (row D1), .bool true]) ∧ Below v.heap.size v v'))
    (cS0 : Hid (∀ v, Calls Try.prog 10 #[] v fun e v' => e = .returned (.agg (row S)) ∧ Below v.heap.size v v'))
    (cO0 : Hid (∀ v, Calls Try.prog 13 #[.string ⟨#[99, 101, 110, 111, 116, 97, 112, 104]⟩] v fun e v' => e = .returned (.agg (row S)) ∧ Below v.heap.size v v'))
    (cHs : Hid (∀ v g, v.heap[g]? = some (.cells (evr E) 41) → Calls Try.prog 15 #[.slice (some ⟨g, 0, none⟩) 1 1] v fun r v' => ∃ x, r = .returned x ∧ (∃ g cap cur, x = .slice (some ⟨g, 0, none⟩) 2 cap ∧ v.heap.size ≤ g ∧ v'.heap[g]? = some (.cells cur 26) ∧ ∀ u : World, u.heap[g]? = some (.cells cur 26) → (Instr.loadAt 26 (.pointer (some ⟨g, 32, none⟩))).run Try.prog u = .ok (.agg (row D1)) u) ∧ Below v.heap.size v v'))
    (cC : Hid (∀ v g, v.heap[g]? = some (.cells (evr E) 41) → Calls Try.prog 11 #[.slice none 0 0, .slice (some ⟨g, 0, none⟩) 1 1] v fun r v' => r = .returned (.tuple #[.string ⟨#[]⟩, .string ⟨#[]⟩, .bool false]) ∧ Below v.heap.size v v'))
    (hI1 : Hid ((I1.size : Int) = 34))
    (cI : Hid (∀ g (i : Nat) v, v.heap[g]? = some (.cells (evr E) 41) → Calls Try.prog 16 #[.slice (some ⟨g, 0, none⟩) 1 1, .int .i64 (i : Int)] v fun r v' => r = .returned (.string (if i = 0 then ⟨#[99, 101, 110, 111, 116, 97, 112, 104]⟩ else if i = 1 then I1 else ⟨#[]⟩)) ∧ Below v.heap.size v v'))
    (eqN : Hid (∀ v, (Op.equalIn 10000 26 (.agg (row D1)) (.agg (row S))).run Try.prog v = .ok false v))
    (bE : Hid ((((evr zeroE).setIfInBounds 0 (.int .i64 7)).setIfInBounds 3 (.int .i64 1)) = evr E)) (w : World) :
    Calls Try.prog 7 #[] w fun e w' => e = .returned (.bool true) ∧ Below w.heap.size w w' := by
  have eqS : Hid (∀ v, (Op.equalIn 10000 26 (.agg (row S)) (.agg (row S))).run Try.prog v = .ok true v) := Lib.hid (fun v => (eql_dig S S hS.out hS.out v).trans (by simp))
  have eqD : Hid (∀ v, (Op.equalIn 10000 26 (.agg (row D1)) (.agg (row D1))).run Try.prog v = .ok true v) := Lib.hid (fun v => (eql_dig D1 D1 hD.out hD.out v).trans (by simp))
  have hz := zero26
  have hz41 := z41
  have hE0 : Hid ((w.alloc (.cells (evr zeroE) 41)).heap[w.heap.size]? = some (.cells (evr zeroE) 41)) := Lib.hid (by rw [heap_alloc_if, if_pos rfl])
  have hK0 : Hid (KW w.heap.size w [(w.heap.size, .cells (evr E) 41)] ((w.alloc (.cells (evr zeroE) 41)).setRow w.heap.size (evr E))) := Lib.hid (((KW.start w).new (.cells (evr zeroE) 41)).row 0 rfl (Nat.le_refl _) (evr E))
  have hE1 : Hid ((Try.prog.info? 41).map (·.size) = some (((evr zeroE).setIfInBounds 0 (.int .i64 7)).setIfInBounds 3 (.int .i64 1)).size ∧ (evr zeroE).size = (((evr zeroE).setIfInBounds 0 (.int .i64 7)).setIfInBounds 3 (.int .i64 1)).size ∧ (((evr zeroE).setIfInBounds 0 (.int .i64 7)).setIfInBounds 3 (.int .i64 1)).all (·.oneCell') = true) := Lib.hid (by rw [bE.out]; exact ⟨row41 E hEs.out, evr_same _ _ rfl hEs.out, evr_one E⟩)
  go_enter Try.func7, Try.ntmps7
  go_wp2_with (first
    | (refine park_region (fun Pk hX => ?_))
    | (with_reducible refine wpList_store_row rfl 41 (.tmp 1) (.tmp 10) rfl _ (((evr zeroE).setIfInBounds 0 (.int .i64 7)).setIfInBounds 3 (.int .i64 1)) rfl rfl 41 _ hE0.out hE1.out.1 hE1.out.2.1 hE1.out.2.2 ?_))
  refine hX.out ?_
  rw [bE.out]
  refine tickA E w w.heap.size D1 S _ hEs.out cS0.out hD.out cN.out _ _ _ _ _ _ _ _ _ rfl rfl rfl rfl rfl rfl rfl rfl rfl rfl rfl rfl rfl rfl rfl rfl rfl rfl rfl rfl rfl rfl rfl rfl rfl rfl rfl rfl rfl rfl rfl rfl rfl rfl rfl rfl rfl
    (by kernel_rfl) (by kernel_rfl) (by kernel_rfl) (by kernel_rfl) (by kernel_rfl) (by kernel_rfl) (by kernel_rfl) (by kernel_rfl) (by kernel_rfl) (by kernel_rfl) (by kernel_rfl) (by kernel_rfl) (by kernel_rfl) (by kernel_rfl) (by kernel_rfl) (by kernel_rfl) (by kernel_rfl) hK0.out.bel (hK0.out.at 0 rfl) (Nat.le_refl _) ?_
  intro b2 x11 x12 x13 x14 x15 x16 v1 hB1 hz1 hb2 hn2 h21
  clear hX
  simp only [frA]
  go_wp2_with (refine park_region (fun Pk hX => ?_))
  refine hX.out ?_
  refine tickB E w w.heap.size b2 D1 S _ _ _ _ _ _ _ _ _ hEs.out cS0.out hD.out cH.out _ _ _ _ _ _ _ _ _ _ rfl rfl rfl rfl rfl rfl rfl rfl rfl rfl rfl rfl rfl rfl rfl rfl rfl rfl rfl rfl rfl rfl rfl rfl rfl rfl rfl rfl rfl rfl rfl rfl rfl rfl rfl rfl rfl rfl rfl rfl rfl
    (by kernel_rfl) (by kernel_rfl) (by kernel_rfl) (by kernel_rfl) (by kernel_rfl) (by kernel_rfl) (by kernel_rfl) (by kernel_rfl) (by kernel_rfl) (by kernel_rfl) (by kernel_rfl) (by kernel_rfl) (by kernel_rfl) (by kernel_rfl) (by kernel_rfl) (by kernel_rfl) (by kernel_rfl) (by kernel_rfl) (by kernel_rfl) hB1 hz1 h21 (Nat.le_refl _) ?_
  intro b4 x17 x18 x19 x20 x21 x22 x23 v2 hB2 hz2 h22 hb4 hn4 hn42 h24
  clear hX
  simp only [frB]
  have hK2 : Hid (KW w.heap.size w [(b4, .cells (row D1) 26), (b2, .cells (row D1) 26), (w.heap.size, .cells (evr E) 41)] v2) := Lib.hid ⟨Nat.le_refl _, hB2, fun x hx => by
    simp only [List.mem_cons, List.not_mem_nil, or_false] at hx
    rcases hx with rfl | rfl | rfl
    · exact h24
    · exact h22
    · exact hz2, by simp; omega⟩
  clear hB1 hz1 hb2 hn2 h21 hB2 hz2 h22 hb4 hn4 hn42 h24 hK0 hE0
  have hK3 := Lib.hid (hK2.out.new (.cells (evr E) 41))
  have ch := Lib.hid (cHs.out _ _ (hK3.out.at 0 rfl))
  have bv2 := Lib.hid (build_ev E hEs.out v2)
  go_wp2_with (first
    | (with_reducible refine wpList_load_row rfl 41 (.tmp 1) rfl _ rfl 41 (evr E) _ (hK2.out.at 2 rfl) Try.underlying41 rfl (row41 E hEs.out) ?_)
    | (with_reducible refine wpList_build1 rfl 22 (.tmp 24) rfl (.agg (evr E)) (.slice (some ⟨v2.heap.size, 0, none⟩) 1 1) rfl (v2.alloc (.cells (evr E) 41)) bv2.out ?_))
  refine ch.out.mono ?_
  rintro r v3 ⟨x, rfl, ⟨g6, cp, cur, rfl, hg6, hg6h, hld⟩, hB3⟩
  have ld6 := Lib.hid hld
  have hK4 : Hid (KW w.heap.size w [(g6, .cells cur 26), (b4, .cells (row D1) 26), (b2, .cells (row D1) 26), (w.heap.size, .cells (evr E) 41)] v3) := Lib.hid ((hK3.out.past hB3).drop.know g6 _ hg6h (by
    have l1 := hK2.out.lt 0 rfl
    have l2 := hK2.out.lt 1 rfl
    have l3 := hK2.out.lt 2 rfl
    simp at hg6 ⊢
    omega))
  clear hB3 hg6 hg6h hld ch hK3 hK2 bv2
  have hK5 := Lib.hid (hK4.out.new (.cells (evr E) 41))
  have cc := Lib.hid (cC.out _ _ (hK5.out.at 0 rfl))
  have bv3 := Lib.hid (build_ev E hEs.out v3)
  go_wp2_with (first
    | (with_reducible refine wpList_load_row rfl 41 (.tmp 1) rfl _ rfl 41 (evr E) _ (hK4.out.at 3 rfl) Try.underlying41 rfl (row41 E hEs.out) ?_)
    | (with_reducible refine wpList_build1 rfl 22 (.tmp 28) rfl (.agg (evr E)) (.slice (some ⟨v3.heap.size, 0, none⟩) 1 1) rfl (v3.alloc (.cells (evr E) 41)) bv3.out ?_))
  refine cc.out.mono ?_
  rintro r v4 ⟨rfl, hB4⟩
  have hK6 := Lib.hid (hK5.out.past hB4).drop.drew
  clear hB4 cc hK5 hK4 bv3
  have ix : Hid (∀ v, (Instr.indexAt 35 (.slice (some ⟨g6, 0, none⟩) 2 cp) (.int .i64 1)).run Try.prog v = .ok (.pointer (some ⟨g6, 32, none⟩)) v) := Lib.hid (fun v => index35 g6 2 cp 1 (by omega) v)
  have cS : Hid (∀ v, KW w.heap.size w [(g6, .cells cur 26), (b4, .cells (row D1) 26), (b2, .cells (row D1) 26), (w.heap.size, .cells (evr E) 41)] v → Calls Try.prog 10 #[] v fun e v' => e = .returned (.agg (row S)) ∧ KW w.heap.size w [(g6, .cells cur 26), (b4, .cells (row D1) 26), (b2, .cells (row D1) 26), (w.heap.size, .cells (evr E) 41)] v') := Lib.hid (fun v h => (cS0.out v).mono fun _ _ k => ⟨k.1, h.past k.2⟩)
  have cO : Hid (∀ v, KW w.heap.size w [(g6, .cells cur 26), (b4, .cells (row D1) 26), (b2, .cells (row D1) 26), (w.heap.size, .cells (evr E) 41)] v → Calls Try.prog 13 #[.string ⟨#[99, 101, 110, 111, 116, 97, 112, 104]⟩] v fun e v' => e = .returned (.agg (row S)) ∧ KW w.heap.size w [(g6, .cells cur 26), (b4, .cells (row D1) 26), (b2, .cells (row D1) 26), (w.heap.size, .cells (evr E) 41)] v') := Lib.hid (fun v h => (cO0.out v).mono fun _ _ k => ⟨k.1, h.past k.2⟩)
  go_wp2_with (refine park_region (fun Pk hX => ?_))
  refine hX.out ?_
  clear hX
  refine seg_start (by kernel_rfl) ?_
  refine seg_quiet (KW w.heap.size w [(g6, .cells cur 26), (b4, .cells (row D1) 26), (b2, .cells (row D1) 26), (w.heap.size, .cells (evr E) 41)]) 0 32 (by kernel_rfl) hK6.out ?_
  simp only [List.take_succ_cons, List.take_zero, List.drop_zero]
  refine wpQuiet_call0 (by rfl) 10 _ rfl ent10 (.agg (row S)) cS.out ?_
  refine wpQuiet_call1 (by rfl) 13 (.const (.string ⟨#[99, 101, 110, 111, 116, 97, 112, 104]⟩)) _ rfl ent13 (.string ⟨#[99, 101, 110, 111, 116, 97, 112, 104]⟩) rfl (.agg (row S)) cO.out ?_
  simp only [Act.put, List.setIfInBounds_toArray, List.set_cons_zero, List.set_cons_succ]
  refine wpQuiet_deq (by rfl) _ _ _ _ rfl (row S) (row S) rfl rfl (by kernel_rfl) true eqS.out ?_
  refine wpQuiet_move (by rfl) _ (.inl rfl) (.bool true) rfl ?_
  refine wpQuiet_move (by rfl) _ (.inl rfl) (.bool true) rfl ?_
  simp only [Act.put, List.setIfInBounds_toArray, List.set_cons_zero, List.set_cons_succ]
  refine wpQuiet_pick (by rfl) _ _ _ rfl true rfl (.bool true) rfl ?_
  refine wpQuiet_move (by rfl) _ (.inl rfl) (.bool true) rfl ?_
  refine wpQuiet_move (by rfl) _ (.inl rfl) (.bool true) rfl ?_
  simp only [Act.put, List.setIfInBounds_toArray, List.set_cons_zero, List.set_cons_succ]
  refine wpQuiet_pick (by rfl) _ _ _ rfl true rfl (.bool true) rfl ?_
  refine wpQuiet_move (by rfl) _ (.inl rfl) (.bool true) rfl ?_
  simp only [Act.put, List.setIfInBounds_toArray, List.set_cons_zero, List.set_cons_succ]
  refine wpQuiet_load (by rfl) 26 (.tmp 2) rfl _ rfl 26 (row D1) _ (fun _ h => h.at 2 rfl) Try.underlying26 rfl (row26 D1 hD.out) ?_
  refine wpQuiet_load (by rfl) 26 (.tmp 4) rfl _ rfl 26 (row D1) _ (fun _ h => h.at 1 rfl) Try.underlying26 rfl (row26 D1 hD.out) ?_
  simp only [Act.put, List.setIfInBounds_toArray, List.set_cons_zero, List.set_cons_succ]
  refine wpQuiet_deq (by rfl) _ _ _ _ rfl (row D1) (row D1) rfl rfl (by kernel_rfl) true eqD.out ?_
  refine wpQuiet_pick (by rfl) _ _ _ rfl true rfl (.bool true) rfl ?_
  refine wpQuiet_move (by rfl) _ (.inl rfl) (.bool true) rfl ?_
  simp only [Act.put, List.setIfInBounds_toArray, List.set_cons_zero, List.set_cons_succ]
  refine wpQuiet_move (by rfl) _ (.inl rfl) (.slice (some ⟨g6, 0, none⟩) 2 cp) rfl ?_
  refine wpQuiet_slen (by rfl) 35 26 _ rfl _ 2 _ rfl Try.underlying35 ?_
  simp only [Act.put, List.setIfInBounds_toArray, List.set_cons_zero, List.set_cons_succ]
  refine wpQuiet_ieq (by rfl) _ _ _ _ rfl .i64 _ _ rfl rfl true rfl ?_
  refine wpQuiet_pick (by rfl) _ _ _ rfl true rfl (.bool true) rfl ?_
  refine wpQuiet_move (by rfl) _ (.inl rfl) (.bool true) rfl ?_
  simp only [Act.put, List.setIfInBounds_toArray, List.set_cons_zero, List.set_cons_succ]
  refine wpQuiet_move (by rfl) _ (.inl rfl) (.slice (some ⟨g6, 0, none⟩) 2 cp) rfl ?_
  refine wpQuiet_index (by rfl) 35 _ _ rfl _ _ rfl rfl (.pointer (some ⟨g6, 32, none⟩)) ix.out ?_
  refine wpQuiet_mid (by rfl) 26 _ rfl g6 32 rfl (.agg (row D1)) (fun v h => ld6.out v (h.at 0 rfl)) ?_
  simp only [Act.put, List.setIfInBounds_toArray, List.set_cons_zero, List.set_cons_succ]
  refine wpQuiet_load (by rfl) 26 (.tmp 2) rfl _ rfl 26 (row D1) _ (fun _ h => h.at 2 rfl) Try.underlying26 rfl (row26 D1 hD.out) ?_
  refine wpQuiet_deq (by rfl) _ _ _ _ rfl (row D1) (row D1) rfl rfl (by kernel_rfl) true eqD.out ?_
  refine wpQuiet_pick (by rfl) _ _ _ rfl true rfl (.bool true) rfl ?_
  refine wpQuiet_move (by rfl) _ (.inl rfl) (.bool true) rfl ?_
  simp only [Act.put, List.setIfInBounds_toArray, List.set_cons_zero, List.set_cons_succ]
  refine wpQuiet_move (by rfl) _ (.inl rfl) (.bool false) rfl ?_
  refine wpQuiet_not (by rfl) _ _ rfl false rfl ?_
  simp only [Act.put, List.setIfInBounds_toArray, List.set_cons_zero, List.set_cons_succ]
  refine wpQuiet_pick (by rfl) _ _ _ rfl true rfl (.bool true) rfl ?_
  refine wpQuiet_move (by rfl) _ (.inl rfl) (.bool true) rfl ?_
  refine wpQuiet_load (by rfl) 41 (.tmp 1) rfl _ rfl 41 (evr E) _ (fun _ h => h.at 3 rfl) Try.underlying41 rfl (row41 E hEs.out) ?_
  simp only [Act.put, List.setIfInBounds_toArray, List.set_cons_zero, List.set_cons_succ]
  refine wpQuiet_nil ?_
  intro v hv
  have hv' := Lib.hid hv
  clear hv
  refine seg_build1 32 _ rfl (by kernel_rfl) (by rfl) 22 (.tmp 65) rfl (some 66) rfl (.agg (evr E)) (.slice (some ⟨v.heap.size, 0, none⟩) 1 1) rfl (v.alloc (.cells (evr E) 41)) (build_ev E hEs.out v) ?_
  simp only [Act.put, List.setIfInBounds_toArray, List.set_cons_zero, List.set_cons_succ]
  have hK2 := Lib.hid (hv'.out.new (.cells (evr E) 41))
  have ci0 := Lib.hid (cI.out v.heap.size 0)
  refine seg_quiet (KW w.heap.size w ((v.heap.size, .cells (evr E) 41) :: [(g6, .cells cur 26), (b4, .cells (row D1) 26), (b2, .cells (row D1) 26), (w.heap.size, .cells (evr E) 41)])) 33 38 (by kernel_rfl) hK2.out ?_
  simp only [List.take_succ_cons, List.take_zero, List.drop_succ_cons, List.drop_zero]
  refine wpQuiet_call2 (by rfl) 16 (.tmp 66) (.const (.int .i64 0)) _ rfl ent16 (.slice (some ⟨v.heap.size, 0, none⟩) 1 1) (.int .i64 0) rfl rfl (.string ⟨#[99, 101, 110, 111, 116, 97, 112, 104]⟩) (fun u h => (ci0.out u (h.at 0 rfl)).mono fun _ _ k => ⟨k.1, h.past k.2⟩) ?_
  simp only [Act.put, List.setIfInBounds_toArray, List.set_cons_zero, List.set_cons_succ]
  refine wpQuiet_seq (by rfl) _ _ _ _ rfl ⟨#[99, 101, 110, 111, 116, 97, 112, 104]⟩ ⟨#[99, 101, 110, 111, 116, 97, 112, 104]⟩ rfl rfl true (by simp) ?_
  refine wpQuiet_pick (by rfl) _ _ _ rfl true rfl (.bool true) rfl ?_
  refine wpQuiet_move (by rfl) _ (.inl rfl) (.bool true) rfl ?_
  simp only [Act.put, List.setIfInBounds_toArray, List.set_cons_zero, List.set_cons_succ]
  refine wpQuiet_load (by rfl) 41 (.tmp 1) rfl _ rfl 41 (evr E) _ (fun _ h => h.at 4 rfl) Try.underlying41 rfl (row41 E hEs.out) ?_
  simp only [Act.put, List.setIfInBounds_toArray, List.set_cons_zero, List.set_cons_succ]
  refine wpQuiet_nil ?_
  intro u hu
  have hu' := Lib.hid hu.drop
  clear hu hK2
  refine seg_build1 38 _ rfl (by kernel_rfl) (by rfl) 22 (.tmp 71) rfl (some 72) rfl (.agg (evr E)) (.slice (some ⟨u.heap.size, 0, none⟩) 1 1) rfl (u.alloc (.cells (evr E) 41)) (build_ev E hEs.out u) ?_
  simp only [Act.put, List.setIfInBounds_toArray, List.set_cons_zero, List.set_cons_succ]
  have hK3 := Lib.hid (hu'.out.new (.cells (evr E) 41))
  have ci1 := Lib.hid (cI.out u.heap.size 1)
  refine seg_end (KW w.heap.size w ((u.heap.size, .cells (evr E) 41) :: [(g6, .cells cur 26), (b4, .cells (row D1) 26), (b2, .cells (row D1) 26), (w.heap.size, .cells (evr E) 41)])) 39 (by kernel_rfl) (by kernel_rfl) hK3.out ?_
  simp only [List.drop_succ_cons, List.drop_zero]
  refine wpQuiet_call2 (by rfl) 16 (.tmp 72) (.const (.int .i64 1)) _ rfl ent16 (.slice (some ⟨u.heap.size, 0, none⟩) 1 1) (.int .i64 1) rfl rfl (.string I1) (fun u h => (ci1.out u (h.at 0 rfl)).mono fun _ _ k => ⟨k.1, h.past k.2⟩) ?_
  simp only [Act.put, List.setIfInBounds_toArray, List.set_cons_zero, List.set_cons_succ]
  refine wpQuiet_len (by rfl) _ _ rfl I1 rfl Try.underlying9 ?_
  rw [hI1.out]
  simp only [Act.put, List.setIfInBounds_toArray, List.set_cons_zero, List.set_cons_succ]
  refine wpQuiet_ieq (by rfl) _ _ _ _ rfl .i64 _ _ rfl rfl true rfl ?_
  refine wpQuiet_pick (by rfl) _ _ _ rfl true rfl (.bool true) rfl ?_
  refine wpQuiet_move (by rfl) _ (.inl rfl) (.bool true) rfl ?_
  simp only [Act.put, List.setIfInBounds_toArray, List.set_cons_zero, List.set_cons_succ]
  refine wpQuiet_load (by rfl) 26 (.tmp 2) rfl _ rfl 26 (row D1) _ (fun _ h => h.at 3 rfl) Try.underlying26 rfl (row26 D1 hD.out) ?_
  refine wpQuiet_call0 (by rfl) 10 _ rfl ent10 (.agg (row S)) (fun v h => (cS0.out v).mono fun _ _ k => ⟨k.1, h.past k.2⟩) ?_
  simp only [Act.put, List.setIfInBounds_toArray, List.set_cons_zero, List.set_cons_succ]
  refine wpQuiet_dne (by rfl) _ _ _ _ rfl (row D1) (row S) rfl rfl (by kernel_rfl) false eqN.out ?_
  refine wpQuiet_pick (by rfl) _ _ _ rfl true rfl (.bool true) rfl ?_
  refine wpQuiet_move (by rfl) _ (.inr rfl) (.bool true) rfl ?_
  simp only [Act.put, List.setIfInBounds_toArray, List.set_cons_zero, List.set_cons_succ]
  refine wpQuiet_nil ?_
  intro x hx
  go_wp2_with fail
  go_ret
  exact ⟨rfl, hx.bel⟩

set_option maxRecDepth 100000 in
theorem works_any (w : World) :
    Calls Try.prog 7 #[] w fun e w' => e = .returned (.bool true) ∧ Below w.heap.size w w' := by
  have hD : Hid (d1L.length = 32) := Lib.hid (nextD_len _ _)
  have hS : Hid (startD.length = 32) := Lib.hid (sha_len _)
  have cN : Hid (∀ v, Calls Try.prog 18 #[.agg (row startD), .agg (evr E1)] v fun e v' => e = .returned (.tuple #[.agg (row d1L), .bool true]) ∧ Below v.heap.size v v') := Lib.hid (fun v => next_true startD hS.out E1 E1_fit E1_ok v)
  have cH : Hid (∀ v g, v.heap[g]? = some (.cells (evr E1) 41) → Calls Try.prog 9 #[.agg (row startD), .slice (some ⟨g, 0, none⟩) 1 1] v fun e v' => e = .returned (.tuple #[.agg (row d1L), .bool true]) ∧ Below v.heap.size v v') := Lib.hid (fun v g hg => by
    have h := head_any startD hS.out [E1] fit_E1 (by decide) (some ⟨g, 0, none⟩) 1 v (evs_one hg (lt_of_some hg))
    have e1 : [E1].all okP = true := by simp [E1_ok]
    have e2 : hdR startD [E1] = d1L := by unfold hdR; rw [e1]; rfl
    rw [e1, e2] at h
    exact h)
  have cS0 := Lib.hid (fun v => start_any v)
  have cO0 : Hid (∀ v, Calls Try.prog 13 #[.string ⟨#[99, 101, 110, 111, 116, 97, 112, 104]⟩] v fun e v' => e = .returned (.agg (row startD)) ∧ Below v.heap.size v v') := Lib.hid (fun v => sh.of_any ⟨#[99, 101, 110, 111, 116, 97, 112, 104]⟩ (by decide) v)
  have cHs : Hid (∀ v g, v.heap[g]? = some (.cells (evr E1) 41) → Calls Try.prog 15 #[.slice (some ⟨g, 0, none⟩) 1 1] v fun r v' => ∃ x, r = .returned x ∧ v'.ownsRow v.heap.size 26 32 x (told [E1]).length (digs (told [E1])) ∧ Below v.heap.size v v') := Lib.hid (fun v g hg => heads_any [E1] fit_E1 (by decide) (some ⟨g, 0, none⟩) 1 v (evs_one hg (lt_of_some hg)))
  have cC : Hid (∀ v g, v.heap[g]? = some (.cells (evr E1) 41) → Calls Try.prog 11 #[.slice none 0 0, .slice (some ⟨g, 0, none⟩) 1 1] v fun r v' => r = .returned (.tuple #[.string ⟨#[]⟩, .string ⟨#[]⟩, .bool false]) ∧ Below v.heap.size v v') := Lib.hid (fun v g hg => by
    have h := collide_any [] [E1] fit_none fit_E1 (by decide) (by decide) none (some ⟨g, 0, none⟩) 0 1 v (evs_none _ _ _) (evs_one hg (lt_of_some hg))
    have e1 : colR [] [E1] = .tuple #[.string ⟨#[]⟩, .string ⟨#[]⟩, .bool false] := by
      unfold colR
      rw [told_none, told_E1, if_neg]
      intro h
      exact D1_ne (by simpa [lastD] using h.symm)
    rw [e1] at h
    exact h)
  obtain ⟨I1, hI1e⟩ : ∃ I1 : ByteArray, Hid (I1 = ⟨(startD ++ [7, 1]).toArray⟩) := ⟨_, Lib.hid rfl⟩
  have hI1 : Hid ((I1.size : Int) = 34) := Lib.hid (by rw [hI1e.out, mk_size, List.length_append, hS.out]; rfl)
  have cI : Hid (∀ g (i : Nat) v, v.heap[g]? = some (.cells (evr E1) 41) → Calls Try.prog 16 #[.slice (some ⟨g, 0, none⟩) 1 1, .int .i64 (i : Int)] v fun r v' => r = .returned (.string (if i = 0 then ⟨#[99, 101, 110, 111, 116, 97, 112, 104]⟩ else if i = 1 then I1 else ⟨#[]⟩)) ∧ Below v.heap.size v v') := Lib.hid (fun g i v hg => by
    have h := input_any [E1] fit_E1 (by decide) (i : Int) (some ⟨g, 0, none⟩) 1 v (evs_one hg (lt_of_some hg))
    have e1 : (⟨(inpD [E1] (i : Int)).toArray⟩ : ByteArray) = if i = 0 then ⟨#[99, 101, 110, 111, 116, 97, 112, 104]⟩ else if i = 1 then I1 else ⟨#[]⟩ := by
      unfold inpD
      rw [told_E1, if_pos (by omega), Int.toNat_natCast]
      match i with
      | 0 => rfl
      | 1 => rw [hI1e.out]; rfl
      | i + 2 => simp
    rw [e1] at h
    exact h)
  have eqN : Hid (∀ v, (Op.equalIn 10000 26 (.agg (row d1L)) (.agg (row startD))).run Try.prog v = .ok false v) := Lib.hid (fun v => by rw [eql_dig d1L startD hD.out hS.out v, beq_eq_false_iff_ne.2 D1_ne])
  have od : Hid (∀ (n₀ : Nat) (u : World) (x : Value), u.ownsRow n₀ 26 32 x (told [E1]).length (digs (told [E1])) → ∃ g cap cur, x = .slice (some ⟨g, 0, none⟩) 2 cap ∧ n₀ ≤ g ∧ u.heap[g]? = some (.cells cur 26) ∧ ∀ v : World, v.heap[g]? = some (.cells cur 26) → (Instr.loadAt 26 (.pointer (some ⟨g, 32, none⟩))).run Try.prog v = .ok (.agg (row d1L)) v) := Lib.hid (fun n₀ u x h => by
    rcases own_digs (fun y hy => (told_fine [E1] fit_E1 y hy).2) h with ⟨_, h0⟩ | ⟨g, cap, cur, h1, h2, h3, h4⟩
    · rw [told_E1] at h0; cases h0
    · have h5 : (told [E1]).length = 2 := by rw [told_E1]; rfl
      refine ⟨g, cap, cur, by rw [h1, h5], h2, h3, fun v hv => ?_⟩
      have h6 := h4 1 (by omega) v hv
      have h7 : ((told [E1])[1]'(by omega)).2 = d1L := by simp [told_E1]
      rw [h7] at h6
      exact h6)
  exact works_gen E1 startD d1L I1 (Lib.hid rfl) hD hS cN cH cS0 cO0 (Lib.hid (fun v g hg => (cHs.out v g hg).mono fun _ _ k => by
    obtain ⟨x, h1, h2, h3⟩ := k
    obtain ⟨g', cap, cur, q1, q2, q3, q4⟩ := od.out _ _ _ h2
    exact ⟨x, h1, ⟨g', cap, cur, q1, q2, q3, q4⟩, h3⟩)) cC hI1 cI eqN (Lib.hid (by rw [evr_kind, evr_time]; rfl)) w
end Go.Proofs.Ytfilolmbppjbjaa

namespace Go.Proofs.Ytfilolmbppjbjaa
open Go Go.RowKit

def sameL : List Ev → List Ev → Bool
  | [], [] => true
  | x :: a, y :: b => evB x y && sameL a b
  | _, _ => false
theorem sameL_iff (a b : List Ev) : sameL a b = true ↔ a = b := by
  induction a generalizing b with
  | nil => cases b <;> simp [sameL]
  | cons x a ih =>
    cases b with
    | nil => simp [sameL]
    | cons y b => simp [sameL, evB_iff, ih]
theorem same_false {a b : List Ev} (h : a ≠ b) : sameL a b = false := by
  cases e : sameL a b with
  | false => rfl
  | true => exact absurd ((sameL_iff a b).1 e) h
theorem index22 (b o n c k : Nat) (hk : k < n) (v : World) : (Instr.indexAt 22 (.slice (some ⟨b, o, none⟩) n c) (.int .i64 (k : Int))).run Try.prog v = .ok (.pointer (some ⟨b, o + k * 37, none⟩)) v := by
  rw [run_indexAt_slice (P := Try.prog) v 22 ⟨b, o, none⟩ n c .i64 (k : Int) (by kernel_rfl)]
  have e1 : Try.prog.elem 22 = 41 := by kernel_rfl
  simp [e1, Try.sizeOf41, hk, Addr.add_mid]
theorem load_ev (e : Ev) (hs : e.sum.length = 32) (b o : Nat) (v : World) (h : v.rangeAt b o (evr e).toList) : (Instr.loadAt 41 (.pointer (some ⟨b, o, none⟩))).run Try.prog v = .ok (.agg (evr e)) v := by
  have := run_loadAt_mid (P := Try.prog) v b o 41 (evr e).toList _ h Try.underlying41 rfl (by rw [Array.length_toList, evr_size, hs]; exact info41)
  simpa using this

set_option maxRecDepth 100000 in
set_option maxHeartbeats 1000000 in
theorem same_rows (a b : List Ev) (ha : ∀ e ∈ a, e.sum.length = 32) (hb : ∀ e ∈ b, e.sum.length = 32) (hal : a.length ≤ 1000) (hbl : b.length ≤ 1000) (pa pb : Option Addr) (ca cb : Nat) (w : World) (hEa : EvsAt w.heap.size w pa a) (hEb : EvsAt w.heap.size w pb b) :
    Calls Try.prog 12 #[.slice pa a.length ca, .slice pb b.length cb] w fun r w' => r = .returned (.bool (sameL a b)) ∧ Below w.heap.size w w' := by
  have hEa' := Lib.hid hEa
  have hEb' := Lib.hid hEb
  have ha' := Lib.hid ha
  have hb' := Lib.hid hb
  clear hEa hEb ha hb
  by_cases hl : a.length = b.length
  case neg =>
    have hd : ((a.length : Int) == (b.length : Int)) = false := by simp; omega
    have hq : Hid (sameL a b = false) := Lib.hid (same_false (fun e => hl (by rw [e])))
    have hne : ¬ a.length = b.length := hl
    clear hl
    go_enter Try.func12, Try.ntmps12
    go_wp2_with fail
    go_ret
    exact ⟨by rw [hq.out]; rfl, Below.refl _ _⟩
  case pos =>
    have hl' := Lib.hid hl
    rw [← hl]
    clear hl hbl
    go_enter Try.func12, Try.ntmps12
    go_wp2_with fail
    go_loopw [5] (fun i wr => ∃ k : Nat, k ≤ a.length ∧ i = .int .i64 (k : Int) ∧ Hid (a.take k = b.take k) ∧ Hid (KW w.heap.size w [] wr)) (fun i _ => a.length - (intOf i).toNat)
    case atStart => exact ⟨0, Nat.zero_le _, rfl, Lib.hid rfl, Lib.hid (KW.start w)⟩
    case round =>
      obtain ⟨k, hk, rfl, heq, hK⟩ := hrel
      by_cases hlt : k < a.length
      · have hb : (k : Int) < (a.length : Int) := by omega
        have hltb : k < b.length := by have := hl'.out; omega
        obtain ⟨b1, o1, rfl, hr1⟩ := hEa'.out.at k hlt
        obtain ⟨b2, o2, rfl, hr2⟩ := hEb'.out.at k hltb
        have i1 : Hid (∀ v, (Instr.indexAt 22 (.slice (some ⟨b1, o1, none⟩) a.length ca) (.int .i64 (k : Int))).run Try.prog v = .ok (.pointer (some ⟨b1, o1 + k * 37, none⟩)) v) := Lib.hid (fun v => index22 b1 o1 a.length ca k hlt v)
        have i2 : Hid (∀ v, (Instr.indexAt 22 (.slice (some ⟨b2, o2, none⟩) a.length cb) (.int .i64 (k : Int))).run Try.prog v = .ok (.pointer (some ⟨b2, o2 + k * 37, none⟩)) v) := Lib.hid (fun v => index22 b2 o2 a.length cb k hlt v)
        have l1 := Lib.hid (fun v (h : KW w.heap.size w [] v) => load_ev a[k] (ha'.out _ (List.getElem_mem hlt)) b1 (o1 + k * 37) v (hr1 v h.bel))
        have l2 := Lib.hid (fun v (h : KW w.heap.size w [] v) => load_ev b[k] (hb'.out _ (List.getElem_mem hltb)) b2 (o2 + k * 37) v (hr2 v h.bel))
        have eq := Lib.hid (eql_ev a[k] b[k] (ha'.out _ (List.getElem_mem hlt)) (hb'.out _ (List.getElem_mem hltb)))
        have hts : Hid (a[k] = b[k] → a.take (k + 1) = b.take (k + 1)) := Lib.hid (fun h => by rw [List.take_succ_eq_append_getElem hlt, List.take_succ_eq_append_getElem hltb, heq.out, h])
        have hno : Hid (a[k] ≠ b[k] → sameL a b = false) := Lib.hid (fun h => same_false (fun e => h (by subst e; rfl)))
        have hKd := Lib.hid hK.out.drew
        clear hr1 hr2
        generalize a[k] = A at *
        generalize b[k] = B at *
        go_wp2_with (refine park_region (fun Pk hX => ?_))
        refine hX.out ?_
        refine wp_region_class (KW w.heap.size w []) (by kernel_rfl) (by kernel_rfl) hKd.out ?_
        refine wpQuiet_move (by rfl) _ (.inl rfl) (.slice (some ⟨b1, o1, none⟩) a.length ca) rfl ?_
        refine wpQuiet_move (by rfl) _ (.inl rfl) (.int .i64 (k : Int)) rfl ?_
        refine wpQuiet_index (by rfl) 22 _ _ rfl _ _ rfl rfl _ i1.out ?_
        refine wpQuiet_mid (by rfl) 41 _ rfl b1 (o1 + k * 37) rfl (.agg (evr A)) l1.out ?_
        simp only [Act.put, List.setIfInBounds_toArray, List.set_cons_zero, List.set_cons_succ]
        refine wpQuiet_move (by rfl) _ (.inl rfl) (.slice (some ⟨b2, o2, none⟩) a.length cb) rfl ?_
        refine wpQuiet_move (by rfl) _ (.inl rfl) (.int .i64 (k : Int)) rfl ?_
        refine wpQuiet_index (by rfl) 22 _ _ rfl _ _ rfl rfl _ i2.out ?_
        refine wpQuiet_mid (by rfl) 41 _ rfl b2 (o2 + k * 37) rfl (.agg (evr B)) l2.out ?_
        simp only [Act.put, List.setIfInBounds_toArray, List.set_cons_zero, List.set_cons_succ]
        refine wpQuiet_dne (by rfl) _ _ _ _ rfl (evr A) (evr B) rfl rfl (by kernel_rfl) (evB A B) eq.out ?_
        simp only [Act.put, List.setIfInBounds_toArray, List.set_cons_zero, List.set_cons_succ]
        refine wpQuiet_nil ?_
        intro u hu
        have hu' := Lib.hid hu
        clear hu hX
        by_cases he : A = B
        · have hB : evB A B = true := (evB_iff A B).2 he
          rw [hB]
          have hq := Lib.hid (hts.out he)
          clear he hB hno hts
          go_wp2_with fail
          go_roundw
          case rel => exact ⟨k + 1, by omega, by go_num, hq, hu'⟩
          case measure => simp [intOf]; omega
        · have hB : evB A B = false := by
            cases e : evB A B with
            | false => rfl
            | true => exact absurd ((evB_iff A B).1 e) he
          rw [hB]
          have hq := Lib.hid (hno.out he)
          clear he hB hno hts
          go_wp2_with fail
          go_ret
          exact ⟨by rw [hq.out]; rfl, hu'.out.bel⟩
      · obtain rfl : k = a.length := by omega
        have hb : ¬ (a.length : Int) < (a.length : Int) := by omega
        have hq : Hid (sameL a b = true) := Lib.hid ((sameL_iff a b).2 (by have := heq.out; rw [List.take_length, hl'.out, List.take_length] at this; exact this))
        go_wp2_with fail
        go_ret
        exact ⟨by rw [hq.out]; rfl, hK.out.bel⟩
end Go.Proofs.Ytfilolmbppjbjaa

namespace Go.Proofs.Ytfilolmbppjbjaa
open Go Go.RowKit

theorem cells41 : Try.prog.cellsOf 41 = 37 := by kernel_rfl
theorem cells39 : Try.prog.cellsOf 39 = 1 := by kernel_rfl
theorem cells3 : Try.prog.cellsOf 3 = 1 := by kernel_rfl
theorem cells9 : Try.prog.cellsOf 9 = 1 := by kernel_rfl
theorem open_ev {H : Type} {enc : TypeId × Value → H} {w : World} {base : Nat} {sp : Nat → Bool} {held : Bool} {fuel : Nat} {cs : List Value} {x : DataW H × List MemPlace}
    (h : DataW.trod enc Try.prog w base sp held fuel 41 cs = some x) : ∃ e : Ev, cs = (evr e).toList ∧ e.wf ∧ e.name.length ≤ maxLen := by
  obtain ⟨xs, n, _, _, hl, hxl, hf⟩ := DataW.trod_struct Try.underlying41 h
  rw [cells41] at hl
  have get : ∀ i (hi : i < xs.length), xs[i]? = some xs[i] := fun i hi => List.getElem?_eq_getElem hi
  have hx6 : xs.length = 6 := hxl
  have f0 : DataW.trod enc Try.prog w base sp held n 39 ((cs.drop 0).take (Try.prog.cellsOf 39)) = xs[0]? := hf 0 _ rfl
  have f1 : DataW.trod enc Try.prog w base sp held n 3 ((cs.drop 1).take (Try.prog.cellsOf 3)) = xs[1]? := hf 1 _ rfl
  have f2 : DataW.trod enc Try.prog w base sp held n 9 ((cs.drop 2).take (Try.prog.cellsOf 9)) = xs[2]? := hf 2 _ rfl
  have f3 : DataW.trod enc Try.prog w base sp held n 3 ((cs.drop 3).take (Try.prog.cellsOf 3)) = xs[3]? := hf 3 _ rfl
  have f4 : DataW.trod enc Try.prog w base sp held n 3 ((cs.drop 4).take (Try.prog.cellsOf 3)) = xs[4]? := hf 4 _ rfl
  have f5 : DataW.trod enc Try.prog w base sp held n 26 ((cs.drop 5).take (Try.prog.cellsOf 26)) = xs[5]? := hf 5 _ rfl
  rw [get 0 (by omega)] at f0
  rw [get 1 (by omega)] at f1
  rw [get 2 (by omega)] at f2
  rw [get 3 (by omega)] at f3
  rw [get 4 (by omega)] at f4
  rw [get 5 (by omega)] at f5
  rw [cells39] at f0
  rw [cells3] at f1 f3 f4
  rw [cells9] at f2
  rw [cells28] at f5
  obtain ⟨k, c0, _, w0⟩ := DataW.trod_int Try.underlying39 f0
  obtain ⟨i, c1, _, w1⟩ := DataW.trod_int Try.underlying3 f1
  obtain ⟨s, c2, _, w2⟩ := DataW.trod_string Try.underlying9 f2
  obtain ⟨t, c3, _, w3⟩ := DataW.trod_int Try.underlying3 f3
  obtain ⟨ln, c4, _, w4⟩ := DataW.trod_int Try.underlying3 f4
  obtain ⟨ys, m, _, _, h5l, hyl, hel⟩ := DataW.trod_array Try.underlying26 f5
  have each : ∀ j, j < 32 → ∃ b : UInt8, cs[5 + j]? = some (.int .u8 (b.toNat : Int)) := fun j hj => by
    have h1 := hel j hj
    rw [List.getElem?_eq_getElem (by omega)] at h1
    obtain ⟨q, h2, _, h4⟩ := DataW.trod_int Try.underlying5 h1
    rw [cells5, Nat.mul_one] at h2
    have h5 := take1 _ _ _ h2
    have h6 := bounds_u8 h4
    have e : ((UInt8.ofNat q.toNat).toNat : Int) = q := by rw [UInt8.toNat_ofNat']; omega
    refine ⟨UInt8.ofNat q.toNat, ?_⟩
    rw [e]
    rw [List.getElem?_take_of_lt hj, List.getElem?_drop] at h5
    exact h5
  have d0 := take1 _ _ _ c0
  have d1 := take1 _ _ _ c1
  have d2 := take1 _ _ _ c2
  have d3 := take1 _ _ _ c3
  have d4 := take1 _ _ _ c4
  refine ⟨⟨k, i, li s, t, ln, (List.range 32).map fun j => byteOf (cs.getD (5 + j) undef)⟩, ?_, ⟨bounds_i64 w0, bounds_i64 w1, bounds_i64 w3, bounds_i64 w4, by simp⟩, by show (li s).length ≤ _; rw [li_len]; exact w2⟩
  apply List.ext_getElem?
  intro j
  rw [Array.getElem?_toList, evr_list, List.getElem?_toArray]
  match j with
  | 0 => simpa using d0
  | 1 => simpa using d1
  | 2 => rw [d2]; show _ = some (Value.string ⟨(li s).toArray⟩); rw [mk_li]
  | 3 => simpa using d3
  | 4 => simpa using d4
  | j + 5 =>
    simp only [List.getElem?_cons_succ]
    by_cases hj : j < 32
    · obtain ⟨b, hb⟩ := each j hj
      rw [show j + 5 = 5 + j by omega, hb, byteL_at, List.getElem?_map, List.getElem?_range hj]
      have e : cs.getD (5 + j) undef = .int .u8 (b.toNat : Int) := by rw [List.getD_eq_getElem?_getD, hb]; rfl
      simp only [Option.map_some, e, byteOf]
      simp
    · rw [List.getElem?_eq_none (by omega), List.getElem?_eq_none (by rw [byteL_length]; simp; omega)]

theorem open_evs {H : Type} {enc : TypeId × Value → H} {w : World} {sp : Nat → Bool} {held : Bool} {fuel : Nat} {a : Option Addr} {len cap : Nat} {x : DataW H × List MemPlace}
    (h : DataW.trod enc Try.prog w 0 sp held fuel 22 [.slice a len cap] = some x) : ∃ l : List Ev, l.length = len ∧ EvsAt w.heap.size w a l ∧ (∀ e ∈ l, e.wf ∧ e.name.length ≤ maxLen) ∧ len ≤ maxLen := by
  rcases DataW.trod_slice Try.underlying22 h with ⟨h0, _⟩ | ⟨ad, len', cap', elems, rest, n, _, hcs, _, hb, hl, hm, hlen, hel, _⟩
  · simp at h0
    obtain ⟨rfl, rfl, rfl⟩ := h0
    exact ⟨[], rfl, .inl rfl, (fun e he => by cases he), Nat.zero_le _⟩
  · simp at hcs
    obtain ⟨rfl, rfl, rfl⟩ := hcs
    have each : ∀ i, i < len → ∃ e : Ev, w.cells? 0 (ad.add (i * 37)) 37 = some (evr e).toList ∧ e.wf ∧ e.name.length ≤ maxLen := fun i hi => by
      have h1 := hel i hi
      rw [List.getElem?_eq_getElem (by omega), cells41] at h1
      cases hc : w.cells? 0 (ad.add (i * 37)) 37 with
      | none => rw [hc] at h1; cases h1
      | some cs =>
        rw [hc] at h1
        obtain ⟨e, he, hw, hn⟩ := open_ev h1
        exact ⟨e, by rw [he], hw, hn⟩
    have hex : ∃ f : Nat → Ev, ∀ i, i < len → w.cells? 0 (ad.add (i * 37)) 37 = some (evr (f i)).toList ∧ (f i).wf ∧ (f i).name.length ≤ maxLen :=
      ⟨fun i => if hi : i < len then Classical.choose (each i hi) else zeroE, fun i hi => by simp only [dif_pos hi]; exact Classical.choose_spec (each i hi)⟩
    obtain ⟨f, hf⟩ := hex
    refine ⟨(List.range len).map f, by simp, ?_, fun e he => ?_, by omega⟩
    · by_cases h0 : len = 0
      · left; rw [h0]; rfl
      · right
        have hspot : ad.spot = none := by
          have h1 := (World.cells?_some (hf 0 (by omega)).1).2.2 0 (by decide)
          rw [Nat.zero_mul] at h1
          have h2 : (ad.add 0).add 0 = ad := by simp [Addr.add]
          rw [h2, Array.getElem?_toList, evr0] at h1
          unfold World.cell? at h1
          cases hs : ad.spot with
          | none => rfl
          | some q =>
            exfalso
            rw [hs] at h1
            split at h1 <;> simp at h1
        obtain ⟨b, o, sp⟩ := ad
        obtain rfl : sp = none := hspot
        refine ⟨b, o, rfl, ?_, fun k hk j v hv => ?_⟩
        · have := World.cells?_block (hf 0 (by omega)).1 (by decide)
          rw [Nat.zero_mul, Addr.add_mid] at this
          exact this
        · have hk' : k < len := by simpa using hk
          have h1 := World.cells?_some (hf k hk').1
          have hj : j < 37 := by
            have h2 := (List.getElem?_eq_some_iff.1 hv).1
            have h3 := h1.2.1
            simp only [List.getElem_map, List.getElem_range] at h2
            omega
          have h4 := h1.2.2 j hj
          rw [Addr.add_mid, Addr.add_mid] at h4
          rw [h4]
          simpa using hv
    · obtain ⟨i, hi, rfl⟩ := List.mem_map.1 he
      exact (hf i (List.mem_range.1 hi)).2
end Go.Proofs.Ytfilolmbppjbjaa

namespace Go.Proofs.Ytfilolmbppjbjaa
open Go Go.RowKit

def vn (l : List UInt8) : Bool := nm.vld l && decide (l.length ≤ 100)
theorem vn_len (l : List UInt8) (h : vn l = true) : l.length ≤ 100 := by
  unfold vn at h
  rw [Bool.and_eq_true, decide_eq_true_eq] at h
  exact h.2
theorem wi_iff (n a b : Int) : wi n a b = true ↔ a ≤ n ∧ n ≤ b := by unfold wi; simp
theorem clI_eq {n : Int} (h : n ≤ 1099511627776) : clI n = n.toNat := by unfold clI big; omega
theorem okP_ok (e : Ev) (hf : e.fit) (h : okP e = true) : ok vn e = true ∧ putE e = put e := by
  have hn := hf.n
  unfold okP at h
  rw [Bool.and_eq_true, evB_iff] at h
  obtain ⟨h1, h2⟩ := h
  have hk : 0 ≤ e.kind ∧ e.kind ≤ 7 := by
    have : validP (.kind e.kind) = true := by
      refine List.all_eq_true.1 h1 _ ?_
      unfold partsOf
      repeat' split
      all_goals simp
    exact (wi_iff _ _ _).1 this
  obtain ⟨k, i, nm', t, ln, s⟩ := e
  dsimp only at hk hn
  have hc : k = 0 ∨ k = 1 ∨ k = 2 ∨ k = 3 ∨ k = 4 ∨ k = 5 ∨ k = 6 ∨ k = 7 := by omega
  rcases hc with rfl | rfl | rfl | rfl | rfl | rfl | rfl | rfl
  all_goals
    simp [partsOf, aboutP, jn, jOne, zeroE, validP, wi_iff] at h1 h2
    refine ⟨?_, ?_⟩
    · rw [ok_iff]
      constructor <;> simp [vI, vN, vT, vL, vS, tI, tN, tT, tL, tS, vn, least] <;> first | omega | (simp_all; done) | (simp_all; omega)
    · simp [putE, putL, partsOf, aboutP, putP, put, wh, tI, tN, tT, tL, tS]
      try simp [clI_eq, h1]
      try (rw [clI_eq (n := ln) (by omega)])
theorem putE_inj {d e : Ev} (hd : d.fit) (he : e.fit) (od : okP d = true) (oe : okP e = true) (h : putE d = putE e) : d = e := by
  obtain ⟨d1, d2⟩ := okP_ok d hd od
  obtain ⟨e1, e2⟩ := okP_ok e he oe
  exact (put_apart vn_len d1 e1 hd.w.s he.w.s (r := []) (by rw [← d2, ← e2, h]; simp)).1
theorem startD_len : startD.length = 32 := sha_len _
theorem told_snoc (l : List Ev) (e : Ev) (hl : l.all okP = true) (he : okP e = true) : told (l ++ [e]) = told l ++ [(headD startD l ++ putE e, nextD (headD startD l) e)] := by
  unfold told
  have h : (l ++ [e]).all okP = true := by simp [hl, he]
  rw [if_pos h, if_pos hl, tld_snoc]; rfl
theorem ins_snoc (l : List Ev) (e : Ev) (hl : l.all okP = true) (he : okP e = true) : (ins (l ++ [e])).reverse = (headD startD l ++ putE e) :: (ins l).reverse := by
  unfold ins
  rw [told_snoc l e hl he]
  simp
theorem ins_nil : (ins []).reverse = [CEN] := rfl
theorem split_last (l : List Ev) : l = [] ∨ ∃ k d, l = k ++ [d] := by
  rcases List.eq_nil_or_concat l with h | ⟨k, d, h⟩
  · exact .inl h
  · exact .inr ⟨k, d, by rw [h]; simp⟩
theorem lastD_told (l : List Ev) (hl : l.all okP = true) : lastD (told l) = headD startD l := by
  rcases split_last l with h | ⟨k, e, h⟩
  · subst h; rfl
  · subst h
    have h : k.all okP = true ∧ okP e = true := by simpa using hl
    rw [told_snoc k e h.1 h.2, lastD_snoc, headD_snoc]
theorem told_bad {l : List Ev} (h : l.all okP = false) : told l = [] := by unfold told; rw [h]; rfl
/-- What is told of two rows of one head that are not the same. -/
structure Clash (s t : List UInt8) : Prop where
  ne : s ≠ t
  eq : sha s = sha t
  ls : s.length ≤ 600
  lt : t.length ≤ 600
theorem fit_last {k : List Ev} {d : Ev} (h : Fit (k ++ [d])) : Fit k ∧ d.fit := ⟨fun e he => h e (by simp [he]), h d (by simp)⟩
theorem all_last {k : List Ev} {d : Ev} (h : (k ++ [d]).all okP = true) : k.all okP = true ∧ okP d = true := by simpa using h
theorem inp_le (D : List UInt8) (hD : D.length = 32) (e : Ev) (he : e.fit) : (D ++ putE e).length ≤ 600 := by
  have := putE_len e he
  rw [List.length_append]; omega
theorem cen_ne (D : List UInt8) (hD : D.length = 32) (l : List UInt8) : CEN ≠ D ++ l := by
  intro h
  have := congrArg List.length h
  rw [List.length_append, hD] at this
  have h8 : CEN.length = 8 := rfl
  omega
theorem clash : ∀ (n : Nat) (a b : List Ev), a.length = n → Fit a → Fit b → a.all okP = true → b.all okP = true → headD startD a = headD startD b → a ≠ b → ∃ s t, aptR (ins a).reverse (ins b).reverse = some (s, t) ∧ Clash s t := by
  intro n
  induction n with
  | zero =>
    intro a b hn fa fb oa ob hh hne
    have ha : a = [] := List.eq_nil_of_length_eq_zero hn
    subst ha
    rcases split_last b with h | ⟨l, e, h⟩
    · exact absurd h.symm hne
    · subst h
      obtain ⟨ol, oe⟩ := all_last ob
      obtain ⟨fl, fe⟩ := fit_last fb
      have hl32 := headD_len startD l startD_len
      refine ⟨CEN, headD startD l ++ putE e, ?_, cen_ne _ hl32 _, ?_, by decide, inp_le _ hl32 e fe⟩
      · rw [ins_nil, ins_snoc l e ol oe]
        unfold aptR
        rw [if_neg (cen_ne _ hl32 _)]
      · rw [headD_snoc] at hh; exact hh
  | succ n ih =>
    intro a b hn fa fb oa ob hh hne
    rcases split_last a with h | ⟨k, d, h⟩
    · subst h; simp at hn
    subst h
    obtain ⟨ok', od⟩ := all_last oa
    obtain ⟨fk, fd⟩ := fit_last fa
    have hk32 := headD_len startD k startD_len
    rcases split_last b with h | ⟨l, e, h⟩
    · subst h
      refine ⟨headD startD k ++ putE d, CEN, ?_, (cen_ne _ hk32 _).symm, ?_, inp_le _ hk32 d fd, by decide⟩
      · rw [ins_nil, ins_snoc k d ok' od]
        unfold aptR
        rw [if_neg (cen_ne _ hk32 _).symm]
      · rw [headD_snoc] at hh; exact hh
    · subst h
      obtain ⟨ol, oe⟩ := all_last ob
      obtain ⟨fl, fe⟩ := fit_last fb
      have hl32 := headD_len startD l startD_len
      rw [headD_snoc, headD_snoc] at hh
      rw [ins_snoc k d ok' od, ins_snoc l e ol oe]
      unfold aptR
      by_cases hu : headD startD k ++ putE d = headD startD l ++ putE e
      · rw [if_pos hu]
        obtain ⟨h1, h2⟩ := List.append_inj hu (by omega)
        have hde := putE_inj fd fe od oe h2
        subst hde
        refine ih k l (by simp at hn; omega) fk fl ok' ol h1 (fun h => hne (by rw [h]))
      · rw [if_neg hu]
        exact ⟨_, _, rfl, hu, hh, inp_le _ hk32 d fd, inp_le _ hl32 e fe⟩
theorem aptR_self (l : List (List UInt8)) : aptR l l = none := by
  induction l with
  | nil => rfl
  | cons x l ih => unfold aptR; rw [if_pos rfl]; exact ih
/-- What Collide answers, case by case. -/
theorem colR_none {a b : List Ev} (h : a.all okP = false ∨ b.all okP = false ∨ headD startD a ≠ headD startD b ∨ a = b) : colR a b = .tuple #[.string ⟨#[]⟩, .string ⟨#[]⟩, .bool false] := by
  have hap : ∀ x y : List (List UInt8), aptR x.reverse y.reverse = none → apR x y = .tuple #[.string ⟨#[]⟩, .string ⟨#[]⟩, .bool false] := fun x y h => apR_none h
  unfold colR
  split
  · rename_i he
    refine hap _ _ ?_
    rcases h with h | h | h | h
    · have : ins a = [] := by unfold ins; rw [told_bad h]; rfl
      rw [this]; rfl
    · have : ins b = [] := by unfold ins; rw [told_bad h]; rfl
      rw [this]; exact aptR_nil _
    · cases oa : a.all okP with
      | false =>
        have : ins a = [] := by unfold ins; rw [told_bad oa]; rfl
        rw [this]; rfl
      | true =>
        cases ob : b.all okP with
        | false =>
          have : ins b = [] := by unfold ins; rw [told_bad ob]; rfl
          rw [this]; exact aptR_nil _
        | true => rw [lastD_told a oa, lastD_told b ob] at he; exact absurd he h
    · rw [h]; exact aptR_self _
  · rfl
theorem colR_clash {a b : List Ev} (fa : Fit a) (fb : Fit b) (oa : a.all okP = true) (ob : b.all okP = true) (hh : headD startD a = headD startD b) (hne : a ≠ b) : ∃ s t, colR a b = .tuple #[.string ⟨s.toArray⟩, .string ⟨t.toArray⟩, .bool true] ∧ Clash s t := by
  obtain ⟨s, t, h1, h2⟩ := clash a.length a b rfl fa fb oa ob hh hne
  refine ⟨s, t, ?_, h2⟩
  unfold colR
  rw [lastD_told a oa, lastD_told b ob, if_pos hh, apR_some h1]
end Go.Proofs.Ytfilolmbppjbjaa

