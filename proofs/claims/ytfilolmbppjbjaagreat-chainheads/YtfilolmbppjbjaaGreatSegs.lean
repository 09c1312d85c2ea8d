/-
  A region that draws its order, cut where the order is forced: each segment walked once, in its own class of worlds; between two segments one operation as it stands. No program is named here.
-/
import Derived.Test.YtfilolmbppjbjaaGreatGevent
namespace Go.Proofs.YtfilolmbppjbjaaGreat
open Go Go.RowKit
variable {P : Program} {ops : Array Oper} {C : World → Prop}

/-- The first k operations are done. -/
def upto (n k : Nat) : Array Bool := (List.replicate k true ++ List.replicate (n - k) false).toArray
/-- From operation k on, in whatever order. -/
def Seg (P : Program) (ops : Array Oper) (Q : Exit → Act → World → Prop) (k : Nat) (a : Act) (w : World) : Prop := wpAny P .any ops Q (ops.size - k) (upto ops.size k) a w
theorem upto_zero (n : Nat) : upto n 0 = Array.replicate n false := by simp [upto]
theorem upto_size (n k : Nat) (h : k ≤ n) : (upto n k).size = n := by simp [upto]; omega
theorem upto_false (n k i : Nat) (_h : k ≤ n) (hi : k ≤ i) (hn : i < n) : (upto n k).getD i true = false := by
  have h1 : (upto n k)[i]? = some false := by
    unfold upto
    rw [List.getElem?_toArray, List.getElem?_append_right (by simpa using hi), List.getElem?_replicate]
    simp; omega
  simp [h1]
theorem upto_true (n k i : Nat) (_h : k ≤ n) (hi : i < k) : (upto n k).getD i false = true := by
  have h1 : (upto n k)[i]? = some true := by
    unfold upto
    rw [List.getElem?_toArray, List.getElem?_append_left (by simpa using hi), List.getElem?_replicate]
    simp; omega
  simp [h1]
theorem upto_set (n k : Nat) (h : k < n) : (upto n k).setIfInBounds k true = upto n (k + 1) := by
  obtain ⟨m, hm⟩ : ∃ m, n - k = m + 1 := ⟨n - k - 1, by omega⟩
  have e : n - (k + 1) = m := by omega
  unfold upto
  rw [List.setIfInBounds_toArray, hm, e, List.set_append_right _ _ (by simp), List.length_replicate, Nat.sub_self, List.replicate_succ, List.set_cons_zero, List.replicate_succ' (n := k), List.append_assoc]
  rfl

/-- Nothing that is done waits for what is not; nothing from n on can come ahead of all below n. -/
def closedB (ops : Array Oper) (k : Nat) : Bool := (List.range k).all fun j => match ops[j]? with
  | some o => o.after.all fun e => !Region.binds .any e || decide (e.on < k)
  | none => true
def laterB (ops : Array Oper) (n : Nat) : Bool := (List.range ops.size).all fun t => decide (t ≤ n) || (List.range t).any fun j => decide (n ≤ j) && Region.waitsFor .any ops t j
def sinkFrom (ops : Array Oper) (k n : Nat) : Bool := (List.range n).all fun i => decide (i < k) || (List.range (n + 1)).any fun j => decide (i < j) && Region.waitsFor .any ops j i

structure SegInv (ops : Array Oper) (k n : Nat) (listed : Array Bool) : Prop where
  size : listed.size = ops.size
  closed : ∀ j oj, ops[j]? = some oj → listed.getD j false = true → ∀ e ∈ oj.after, Region.binds .any e = true → listed.getD e.on false = true
  tail : ∀ t, n ≤ t → t < ops.size → listed.getD t true = false
  low : ∀ i, i < k → listed.getD i false = true
theorem SegInv.set {k n i : Nat} {listed : Array Bool} (inv : SegInv ops k n listed) (hi : i ∈ Region.ready .any ops listed) (hin : i < n) : SegInv ops k n (listed.setIfInBounds i true) := by
  obtain ⟨_, oi, hoi, hall⟩ := mem_ready.1 hi
  refine ⟨by simp [inv.size], fun j oj hj hl e he hb => ?_, fun t ht ht' => by rw [getD_set_ne true (by omega)]; exact inv.tail t ht ht', fun q hq => getD_set_true (inv.low q hq)⟩
  by_cases hij : i = j
  · subst hij
    have : oj = oi := Option.some.inj (hj.symm.trans hoi)
    subst this
    exact getD_set_true (hall e he hb)
  · rw [getD_set_ne false hij] at hl
    exact getD_set_true (inv.closed j oj hj hl e he hb)
theorem seg_waits {k n : Nat} {listed : Array Bool} (hs : sinkFrom ops k n = true) (hc : laterB ops n = true) (hn : n < ops.size) (inv : SegInv ops k n listed) :
    ∀ (d i : Nat), n - i = d → i < n → listed.getD i true = false → ∀ t, n ≤ t → t ∉ Region.ready .any ops listed := by
  intro d
  induction d using Nat.strongRecOn with
  | _ d ih =>
    intro i hd hi hun t ht hr
    obtain ⟨_, ot, hot, hall⟩ := mem_ready.1 hr
    have htlt : t < ops.size := (Array.getElem?_eq_some_iff.1 hot).1
    by_cases htn : t = n
    · subst htn
      have h1 := List.all_eq_true.1 hs i (List.mem_range.2 hi)
      rw [Bool.or_eq_true, decide_eq_true_eq] at h1
      rcases h1 with h1 | h1
      · have := inv.low i h1
        rw [getD_both hun] at this
        cases this
      obtain ⟨j, hj, hj2⟩ := List.any_eq_true.1 h1
      simp only [Bool.and_eq_true, decide_eq_true_eq] at hj2
      obtain ⟨oj, hoj, e, he, hb, hon⟩ := Region.waitsFor_spec hj2.2
      have hjle : j ≤ t := by have := List.mem_range.1 hj; omega
      by_cases hjt : j = t
      · subst hjt
        have : oj = ot := Option.some.inj (hoj.symm.trans hot)
        subst this
        have h2 := hall e he hb
        rw [hon, getD_both hun] at h2
        cases h2
      · cases hl : listed.getD j false with
        | true =>
          have h2 := inv.closed j oj hoj hl e he hb
          rw [hon, getD_both hun] at h2
          cases h2
        | false =>
          have hjs : j < listed.size := by rw [inv.size]; omega
          exact ih (t - j) (by omega) j rfl (by omega) (getD_in hjs hl) t (Nat.le_refl _) hr
    · have h1 := List.all_eq_true.1 hc t (List.mem_range.2 htlt)
      rw [Bool.or_eq_true, decide_eq_true_eq] at h1
      rcases h1 with h1 | h1
      · omega
      · obtain ⟨j, hj, hj2⟩ := List.any_eq_true.1 h1
        have hjt := List.mem_range.1 hj
        simp only [Bool.and_eq_true, decide_eq_true_eq] at hj2
        obtain ⟨o', ho', e, he, hb, hon⟩ := Region.waitsFor_spec hj2.2
        have : o' = ot := Option.some.inj (ho'.symm.trans hot)
        subst this
        have h2 := hall e he hb
        rw [hon, getD_both (inv.tail j hj2.1 (by omega))] at h2
        cases h2

theorem segHead_first {k n i : Nat} {oi : Oper} {v : Value} {L : Array Bool → Act → Prop} (hi : ops[i]? = some oi) (hsel : ∀ (j : Nat) (o : Oper) cs b, ops[j]? = some o → o.op ≠ .select cs b)
    (hs : sinkFrom ops k n = true) (hc : laterB ops n = true) (hn : n < ops.size) (hin : i < n)
    (hdone : ∀ listed a, L listed a → ∀ j ∈ Region.ready .any ops listed, n ≤ j) :
    ∀ (f : Nat) (listed : Array Bool) (a : Act), SegInv ops k n listed →
      (∀ j oj, ops[j]? = some oj → j ≠ i → listed.getD j true = false → (∀ e ∈ oj.after, Region.binds .any e = true → e.on ≠ i) → oi.apart ops oj = true) →
      i ∈ Region.ready .any ops listed → YieldsIn P ops C oi v a →
      anyHead P .any ops C n L f (listed.setIfInBounds i true) (a.put oi.dst v) → anyHead P .any ops C n L (f + 1) listed a := by
  intro f
  induction f with
  | zero =>
    intro listed a inv _ hr hy H
    refine ⟨fun h => (by rw [h] at hr; cases hr), fun j hj => ?_⟩
    have hjn : j < n := by
      rcases Nat.lt_or_ge j n with h | h
      · exact h
      · exact absurd hj (seg_waits hs hc hn inv _ i rfl hin (mem_ready.1 hr).1 j h)
    refine ⟨hjn, ?_⟩
    by_cases e : j = i
    · subst e; exact hy.qOp hi H
    · have := hdone _ _ H j (ready_mono hj e)
      omega
  | succ f ih =>
    intro listed a inv hfree hr hy H
    refine ⟨fun h => (by rw [h] at hr; cases hr), fun j hj => ?_⟩
    have hun := (mem_ready.1 hr).1
    have hjn : j < n := by
      rcases Nat.lt_or_ge j n with h | h
      · exact h
      · exact absurd hj (seg_waits hs hc hn inv _ i rfl hin hun j h)
    refine ⟨hjn, ?_⟩
    by_cases e : j = i
    · subst e; exact hy.qOp hi H
    · have h1 := (H.2 j (ready_mono hj e)).2
      obtain ⟨hjun, oj, hoj, hall⟩ := mem_ready.1 hj
      have hnot : ∀ x ∈ oj.after, Region.binds .any x = true → x.on ≠ i := fun x hx hb he => by
        have h2 := hall x hx hb
        rw [he, getD_both hun] at h2
        cases h2
      have h2 := qOp_put hoj (hfree j oj hoj e hjun hnot) (fun cs b => hsel i oi cs b hi) (fun cs b => hsel j oj cs b hoj) hy h1
      refine qOp_mono (fun a' h3 => ih (listed.setIfInBounds j true) a' (inv.set hj hjn) ?_ (ready_mono hr (Ne.symm e)) h3.1 ?_) h2
      · intro k ok hk hki hkun hno
        refine hfree k ok hk hki ?_ hno
        by_cases hjk : j = k
        · subst hjk; exact hjun
        · rw [getD_set_ne true hjk] at hkun; exact hkun
      · rw [Array.setIfInBounds_comm _ _ e]
        exact h3.2

/-- The operations from k up to n, one by one, may be taken first; and then n and all behind it are what is left. -/
def segB (ops : Array Oper) (n : Nat) : Nat → Nat → Bool
  | 0, k => decide (k = n)
  | f + 1, k => (Region.ready .any ops (upto ops.size k)).contains k && Region.free .any ops (upto ops.size k) k && segB ops n f (k + 1)

theorem segHead_lex {n : Nat} {Lq : Act → Prop} {k0 : Nat} (hsel : Region.noSelect ops = true) (hs : sinkFrom ops k0 n = true) (hc : laterB ops n = true) (hn : n < ops.size) (hrd : ∀ j ∈ Region.ready .any ops (upto ops.size n), n ≤ j) :
    ∀ (l : List Oper) (k : Nat) (a : Act), (∀ j, j < l.length → l[j]? = ops[k + j]?) → k + l.length = n → SegInv ops k0 n (upto ops.size k) →
    segB ops n l.length k = true → wpQuiet P ops C Lq l a → anyHead P .any ops C n (fun listed' a' => listed' = upto ops.size n ∧ Lq a') l.length (upto ops.size k) a
  | [], k, a, _, hk, _, _, h => by
    have : k = n := by simpa using hk
    subst this
    exact ⟨rfl, h⟩
  | o :: l, k, a, hl, hk, inv, hB, h => by
    have h0 : ops[k]? = some o := by simpa using (hl 0 (by simp)).symm
    simp only [List.length_cons, segB, Bool.and_eq_true] at hB
    obtain ⟨⟨hr, hf⟩, hB'⟩ := hB
    have hkn : k < n := by simp only [List.length_cons] at hk; omega
    have hr' : k ∈ Region.ready .any ops (upto ops.size k) := by simpa using hr
    have hst : qOp P ops C k (wpQuiet P ops C Lq l) a := by unfold qOp; simp only [h0]; exact h
    obtain ⟨v, hy, hK⟩ := yieldsIn_of_qOp h0 hst
    have inv' := inv.set hr' hkn
    rw [upto_set _ _ (by omega)] at inv'
    refine segHead_first h0 (Region.noSelect_spec hsel) hs hc hn hkn (fun listed' a' hL => by rw [hL.1]; exact hrd) l.length _ a inv (Region.free_spec h0 hf) hr' hy ?_
    rw [upto_set _ _ (by omega)]
    exact segHead_lex hsel hs hc hn hrd l (k + 1) _ (fun j hj => by have := hl (j + 1) (by simp; omega); simpa [Nat.add_assoc, Nat.add_comm 1 j] using this) (by simp only [List.length_cons] at hk; omega) inv' hB' hK

/-- All that is asked of a segment from k up to n. -/
def cutB (ops : Array Oper) (k n : Nat) : Bool :=
  Region.noSelect ops && decide (k ≤ n) && decide (n < ops.size) && closedB ops k && sinkFrom ops k n && laterB ops n && (Region.ready .any ops (upto ops.size n)).all (fun j => decide (n ≤ j)) && segB ops n (n - k) k

theorem seg_quiet {Q : Exit → Act → World → Prop} {a : Act} {w : World} {l : List Oper} (C : World → Prop) (k n : Nat) (hB : cutB l.toArray k n = true) (hC : C w)
    (h : wpQuiet P l.toArray C (fun a' => ∀ w', C w' → Seg P l.toArray Q n a' w') ((l.drop k).take (n - k)) a) : Seg P l.toArray Q k a w := by
  simp only [cutB, Bool.and_eq_true, decide_eq_true_eq] at hB
  obtain ⟨⟨⟨⟨⟨⟨⟨hsel, hkn⟩, hn⟩, hcl⟩, hs⟩, hc⟩, hrd⟩, hlex⟩ := hB
  have hn' : n < l.length := by simpa using hn
  have hlen : ((l.drop k).take (n - k)).length = n - k := by simp; omega
  have inv0 : SegInv l.toArray k n (upto l.toArray.size k) := by
    refine ⟨upto_size _ _ (by omega), fun j oj hj hl e he hb => ?_, fun t ht ht' => upto_false _ _ _ (by omega) (by omega) ht', fun i hi => upto_true _ _ _ (by omega) hi⟩
    have hjk : j < k := by
      rcases Nat.lt_or_ge j k with h1 | h1
      · exact h1
      · have hjs : j < l.toArray.size := (Array.getElem?_eq_some_iff.1 hj).1
        rw [getD_both (upto_false _ _ _ (by omega) h1 hjs)] at hl
        cases hl
    have h1 := List.all_eq_true.1 hcl j (List.mem_range.2 hjk)
    simp only [hj] at h1
    have h2 := Array.all_eq_true_iff_forall_mem.1 h1 e he
    rw [hb] at h2
    exact upto_true _ _ _ (by omega) (by simpa using h2)
  have H := segHead_lex (C := C) (k0 := k) hsel hs hc hn (fun j hj => by simpa using List.all_eq_true.1 hrd j hj) ((l.drop k).take (n - k)) k a (fun j hj => by
    rw [hlen] at hj
    rw [List.getElem?_take_of_lt hj, List.getElem?_drop, List.getElem?_toArray]) (by omega) inv0 (by rw [hlen]; exact hlex) h
  have := any_of_head (Q' := Q) (g := l.toArray.size - n) (fun listed a' w' hw' hL => by
    have h2 := hL.2 w' hw'
    unfold Seg at h2
    rw [hL.1]; exact h2) _ _ _ w hC H
  rw [hlen, show n - k + (l.toArray.size - n) = l.toArray.size - k by omega] at this
  exact this
/-- One operation, which alone can come next. -/
theorem seg_one {Q : Exit → Act → World → Prop} {a : Act} {w : World} {l : List Oper} (k : Nat) (o : Oper) (ho : l.toArray[k]? = some o) (hr : (Region.ready .any l.toArray (upto l.toArray.size k) == [k]) = true) (hw : Region.wanted o (yielded l.toArray a.tmps) = true)
    (h : o.wp P a w (fun a' w' => Seg P l.toArray Q (k + 1) a' w') Q) : Seg P l.toArray Q k a w := by
  have hk : k < l.toArray.size := (Array.getElem?_eq_some_iff.1 ho).1
  have hr' : Region.ready .any l.toArray (upto l.toArray.size k) = [k] := by simpa using hr
  unfold Seg
  rw [show l.toArray.size - k = (l.toArray.size - (k + 1)) + 1 by omega]
  refine ⟨fun h0 => (by rw [hr'] at h0; cases h0), fun i hi => ?_⟩
  rw [hr'] at hi
  have : i = k := by simpa using hi
  subst this
  rw [upto_set _ _ hk]
  refine wpOp_step ho fun K hK => ?_
  rw [if_pos hw]
  exact Oper.wp_mono (fun a' w' h' => hK _ _ h') h
theorem seg_end {Q : Exit → Act → World → Prop} {a : Act} {w : World} {l : List Oper} (C : World → Prop) (k : Nat) (hs : Region.noSelect l.toArray = true) (hB : Region.lexFrom .any l.toArray (l.drop k).length k (upto l.toArray.size k) = true) (hC : C w)
    (h : wpQuiet P l.toArray C (fun a' => ∀ w', C w' → Q .normal a' w') (l.drop k) a) : Seg P l.toArray Q k a w := by
  have := wpAnyQ_lex (C := C) (md := .any) hs (l.drop k) k (upto l.toArray.size k) a (fun j => by rw [List.getElem?_drop, List.getElem?_toArray]) hB h
  have h2 := wpAny_of_quiet (Q' := Q) (fun a' w' hw' h' => h' w' hw') _ _ _ w hC this
  unfold Seg
  rw [show l.toArray.size - k = (l.drop k).length by simp]
  exact h2
theorem seg_start {id : Nat} {Q : Exit → Act → World → Prop} {a : Act} {w : World} {l : List Oper} (hm : P.follows .mixedOrders = true) (h : Seg P l.toArray Q 0 a w.drew) : (Code.region id l.toArray true).wp P Q a w := by
  refine wp_region_any hm ?_
  unfold Seg at h
  rw [upto_zero] at h
  exact h
end Go.Proofs.YtfilolmbppjbjaaGreat
