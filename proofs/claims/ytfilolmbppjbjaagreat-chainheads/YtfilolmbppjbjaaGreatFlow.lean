/-
  A region that draws its order: what holds of the values that its operations have laid, whatever comes first. No program is named here.
-/
import Derived.Test.YtfilolmbppjbjaaGreatGsha
namespace Go.Proofs.YtfilolmbppjbjaaGreat
open Go Go.RowKit
open sh (wpAny_inv todo ready_lt)
variable {P : Program}

/-- Every operation waits for earlier ones alone; no two lay the same slot; each slot is there. -/
def flowB (ops : Array Oper) (n : Nat) : Bool :=
  (List.range ops.size).all fun i => match ops[i]? with
    | none => true
    | some o => o.guard.isNone && (o.after.all fun e => !Region.binds .any e || decide (e.on < i)) && (match o.dst with
      | none => true
      | some t => decide (t < n) && (List.range i).all fun j => match ops[j]? with
        | none => true
        | some o' => o'.dst != some t)
theorem flow_at {ops : Array Oper} {n i : Nat} {o : Oper} (h : flowB ops n = true) (ho : ops[i]? = some o) :
    o.guard = none ∧ (∀ e ∈ o.after, Region.binds .any e = true → e.on < i) ∧ ∀ t, o.dst = some t → t < n ∧ ∀ j o', j < i → ops[j]? = some o' → o'.dst ≠ some t := by
  have hlt : i < ops.size := (Array.getElem?_eq_some_iff.1 ho).1
  have h1 := List.all_eq_true.1 h i (List.mem_range.2 hlt)
  rw [ho] at h1
  simp only [Bool.and_eq_true] at h1
  obtain ⟨⟨h1, h2⟩, h3⟩ := h1
  refine ⟨by simpa using h1, fun e he hb => ?_, fun t ht => ?_⟩
  · have := Array.all_eq_true_iff_forall_mem.1 h2 e he
    rw [hb] at this
    simpa using this
  · rw [ht] at h3
    simp only [Bool.and_eq_true, decide_eq_true_eq] at h3
    refine ⟨h3.1, fun j o' hj ho' => ?_⟩
    have := List.all_eq_true.1 h3.2 j (List.mem_range.2 hj)
    rw [ho'] at this
    simpa using this
theorem flow_one {ops : Array Oper} {n i j : Nat} {o o' : Oper} {t : Tmp} (h : flowB ops n = true) (ho : ops[i]? = some o) (ho' : ops[j]? = some o') (ht : o.dst = some t) (ht' : o'.dst = some t) : i = j := by
  rcases Nat.lt_trichotomy i j with q | q | q
  · exact absurd ht (((flow_at h ho').2.2 t ht').2 i o q ho)
  · exact q
  · exact absurd ht' (((flow_at h ho).2.2 t ht).2 j o' q ho')

def upd (vals : Nat → Value) (i : Nat) (v : Value) : Nat → Value := fun j => if j = i then v else vals j
theorem upd_same (vals : Nat → Value) (i : Nat) (v : Value) : upd vals i v i = v := by simp [upd]
theorem upd_other {vals : Nat → Value} {i j : Nat} {v : Value} (h : j ≠ i) : upd vals i v j = vals j := by simp [upd, h]
/-- The frame, when some operations are done. -/
structure FA (ops : Array Oper) (a0 : Act) (listed : Array Bool) (vals : Nat → Value) (a : Act) : Prop where
  df : a.defers = a0.defers
  sz : a.tmps.size = a0.tmps.size
  on : ∀ i o t, ops[i]? = some o → o.dst = some t → listed.getD i false = true → a.tmps[t]? = some (vals i)
  off : ∀ t, (∀ i o, ops[i]? = some o → o.dst = some t → listed.getD i false = false) → a.tmps[t]? = a0.tmps[t]?
theorem FA.put {ops : Array Oper} {a0 : Act} {listed : Array Bool} {vals : Nat → Value} {a : Act} (hf : flowB ops a0.tmps.size = true) (h : FA ops a0 listed vals a) {i : Nat} {o : Oper} (ho : ops[i]? = some o) (hi : i < listed.size) (v : Value) :
    FA ops a0 (listed.setIfInBounds i true) (upd vals i v) (a.put o.dst v) := by
  have hget : ∀ j, (listed.setIfInBounds i true).getD j false = if j = i then true else listed.getD j false := fun j => by
    by_cases e : j = i
    · subst e; simp [hi]
    · simp [e, Ne.symm e]
  cases hd : o.dst with
  | none =>
    refine ⟨h.df, h.sz, fun j o' t ho' ht hl => ?_, fun t ht => ?_⟩
    · rw [hget] at hl
      by_cases e : j = i
      · subst e; rw [ho] at ho'; cases ho'; rw [hd] at ht; cases ht
      · rw [if_neg e] at hl; rw [upd_other e]; exact h.on j o' t ho' ht hl
    · refine h.off t fun j o' ho' ht' => ?_
      have := ht j o' ho' ht'
      rw [hget] at this
      by_cases e : j = i
      · rw [if_pos e] at this; cases this
      · rwa [if_neg e] at this
  | some d =>
    have hdl := ((flow_at hf ho).2.2 d hd).1
    refine ⟨h.df, by simp [Act.put, h.sz], fun j o' t ho' ht hl => ?_, fun t ht => ?_⟩
    · rw [hget] at hl
      by_cases e : j = i
      · subst e; rw [ho] at ho'; cases ho'; rw [hd] at ht; cases ht
        rw [upd_same]
        simp [Act.put, h.sz, hdl]
      · rw [if_neg e] at hl
        rw [upd_other e]
        have hne : d ≠ t := fun q => e (flow_one hf ho' ho ht (q ▸ hd))
        simp only [Act.put, Array.getElem?_setIfInBounds, if_neg hne]
        exact h.on j o' t ho' ht hl
    · have hne : d ≠ t := fun q => by
        have := ht i o ho (q ▸ hd)
        rw [hget, if_pos rfl] at this; cases this
      simp only [Act.put, Array.getElem?_setIfInBounds, if_neg hne]
      refine h.off t fun j o' ho' ht' => ?_
      have := ht j o' ho' ht'
      rw [hget] at this
      by_cases e : j = i
      · rw [if_pos e] at this; cases this
      · rwa [if_neg e] at this
theorem FA.one {ops : Array Oper} {a0 : Act} {listed : Array Bool} {vals : Nat → Value} {a b : Act} (hall : ∀ i, i < ops.size → listed.getD i false = true) (ha : FA ops a0 listed vals a) (hb : FA ops a0 listed vals b) : a = b := by
  have e1 : a.tmps = b.tmps := by
    apply Array.ext_getElem?
    intro t
    rcases Classical.em (∃ (i : Nat) (o : Oper), ops[i]? = some o ∧ o.dst = some t) with ⟨i, o, ho, ht⟩ | hn
    · have hl := hall i (Array.getElem?_eq_some_iff.1 ho).1
      rw [ha.on i o t ho ht hl, hb.on i o t ho ht hl]
    · have hn' : ∀ i o, ops[i]? = some o → o.dst = some t → listed.getD i false = false := fun i o ho ht => absurd ⟨i, o, ho, ht⟩ hn
      rw [ha.off t hn', hb.off t hn']
  cases a; cases b
  have := ha.df.trans hb.df.symm
  simp_all
/-- All values laid, in the order of the text. -/
def putAll : List Oper → Nat → (Nat → Value) → Act → Act
  | [], _, _, a => a
  | o :: l, k, vals, a => putAll l (k + 1) vals (a.put o.dst (vals k))
theorem upd_self (vals : Nat → Value) (i : Nat) : upd vals i (vals i) = vals := by funext j; simp only [upd]; split <;> simp_all
theorem FA.all {l : List Oper} {a0 : Act} {vals : Nat → Value} (hf : flowB l.toArray a0.tmps.size = true) : ∀ (r : List Oper) (k : Nat) (listed : Array Bool) (a : Act), (∀ j, r[j]? = l[k + j]?) → listed.size = l.length → k + r.length = l.length → (∀ j, j < k → listed.getD j false = true) → FA l.toArray a0 listed vals a →
    ∃ listed', listed'.size = l.length ∧ (∀ j, j < l.length → listed'.getD j false = true) ∧ FA l.toArray a0 listed' vals (putAll r k vals a)
  | [], k, listed, a, _, hs, hk, hl, h => ⟨listed, hs, fun j hj => hl j (by simp only [List.length_nil] at hk; omega), h⟩
  | o :: r, k, listed, a, hr, hs, hk, hl, h => by
    have ho : l.toArray[k]? = some o := by have := hr 0; simpa using this.symm
    have hkl : k < l.length := by simp at hk; omega
    have h1 := h.put hf ho (by omega) (vals k)
    rw [upd_self] at h1
    refine FA.all hf r (k + 1) _ _ (fun j => ?_) (by simpa using hs) (by simp at hk; omega) (fun j hj => ?_) h1
    · have := hr (j + 1)
      simpa [Nat.add_assoc, Nat.add_comm 1 j] using this
    · by_cases e : j = k
      · subst e; simp [hs, hkl]
      · have := hl j (by omega)
        simp [Ne.symm e] at this ⊢
        exact this

theorem flow_done {ops : Array Oper} {n : Nat} {listed : Array Bool} (hf : flowB ops n = true) (hr : Region.ready .any ops listed = []) : ∀ i, i < ops.size → listed.getD i true = true := by
  intro i
  induction i using Nat.strongRecOn with
  | _ i ih =>
    intro hi
    cases h : listed.getD i true with
    | true => rfl
    | false =>
      have ho : ops[i]? = some ops[i] := Array.getElem?_eq_getElem hi
      have hm : i ∈ Region.ready .any ops listed := mem_ready.2 ⟨h, _, ho, fun e he hb => by
        have hlt := (flow_at hf ho).2.1 e he hb
        have h2 := ih e.on hlt (by omega)
        have hs : i < listed.size := by
          by_cases q : i < listed.size
          · exact q
          · rw [Array.getD_eq_getD_getElem?, Array.getElem?_eq_none (by omega)] at h; cases h
        rw [Array.getD_eq_getD_getElem?, Array.getElem?_eq_getElem (by omega)] at h2 ⊢
        exact h2⟩
      rw [hr] at hm; cases hm

/-- The law: R holds at the start, each operation that may come next keeps it, and at the end the rest follows. -/
theorem wp_region_flow {id : Nat} {Q : Exit → Act → World → Prop} {a0 : Act} {w0 : World} {l : List Oper} (R : (Nat → Value) → (Nat → Bool) → World → Prop) (hm : P.follows .mixedOrders = true) (hf : flowB l.toArray a0.tmps.size = true)
    (hstart : R (fun _ => undef) (fun _ => false) w0.drew)
    (hstep : ∀ i o, l[i]? = some o → ∀ (vals : Nat → Value) (done : Nat → Bool) (a : Act) (w : World), done i = false → (∀ j, sh.edgeB l.toArray i j = true → done j = true) → (∀ i j, sh.edgeB l.toArray i j = true → done i = true → done j = true) →
      (∀ j o' t, l[j]? = some o' → o'.dst = some t → done j = true → a.tmps[t]? = some (vals j)) → (∀ t, (∀ o' ∈ l, o'.dst ≠ some t) → a.tmps[t]? = a0.tmps[t]?) → R vals done w →
      o.wp P a w (fun a' w' => ∃ v, a' = a.put o.dst v ∧ R (upd vals i v) (fun j => if j = i then true else done j) w') Q)
    (hend : ∀ vals w, R vals (fun j => decide (j < l.length)) w → Q .normal (putAll l 0 vals a0) w) : (Code.region id l.toArray true).wp P Q a0 w0 := by
  refine wp_region_any hm ?_
  refine wpAny_inv (fun listed a w => listed.size = l.length ∧ (∀ i j, sh.edgeB l.toArray i j = true → listed.getD i false = true → listed.getD j false = true) ∧ ∃ vals, FA l.toArray a0 listed vals a ∧ R vals (fun j => listed.getD j false) w) ?_ ?_ _ _ _ _ ?_ ?_
  · rintro listed a w ⟨hs, hcl, vals, hF, hR⟩ i hi
    have hlt : i < l.length := by simpa using ready_lt hi
    have ho : l.toArray[i]? = some l[i] := by simp [hlt]
    obtain ⟨hno, o, ho', hall⟩ := mem_ready.1 hi
    rw [ho] at ho'; cases ho'
    have hno' : listed.getD i false = false := by
      rw [Array.getD_eq_getD_getElem?, Array.getElem?_eq_getElem (by omega)] at hno ⊢; exact hno
    refine sh.wpOp_plain ho (flow_at hf ho).1 ?_
    refine Oper.wp_mono ?_ (hstep i l[i] (by simp [hlt]) vals (fun j => listed.getD j false) a w hno' (fun j hj => sh.ready_edge hi hj) hcl (fun j o' t h1 h2 h3 => hF.on j o' t (by simpa using h1) h2 h3) (fun t ht => hF.off t fun j o' h1 h2 => absurd h2 (ht o' (List.mem_of_getElem? (by simpa using h1)))) hR)
    rintro a' w' ⟨v, rfl, hR'⟩
    have hget : ∀ j, (listed.setIfInBounds i true).getD j false = if j = i then true else listed.getD j false := fun j => by
      by_cases e : j = i
      · subst e; simp [hs, hlt]
      · simp [e, Ne.symm e]
    refine ⟨by simpa using hs, fun k j he hk => ?_, upd vals i v, hF.put hf ho (by omega) v, ?_⟩
    · rw [hget] at hk ⊢
      split
      · rfl
      · by_cases e : k = i
        · subst e; exact sh.ready_edge hi he
        · rw [if_neg e] at hk; exact hcl k j he hk
    have e : (fun j => (listed.setIfInBounds i true).getD j false) = fun j => if j = i then true else listed.getD j false := by
      funext j
      exact hget j
    rw [e]; exact hR'
  · rintro listed a w ⟨hs, hcl, vals, hF, hR⟩ hr
    have hall : ∀ i, i < l.toArray.size → listed.getD i false = true := fun i hi => by
      have := flow_done hf hr i hi
      have hi' : i < l.length := by simpa using hi
      rw [Array.getD_eq_getD_getElem?, Array.getElem?_eq_getElem (by omega)] at this ⊢; exact this
    have hst : FA l.toArray a0 (Array.replicate l.length false) vals a0 := ⟨rfl, rfl, fun i o t _ _ hl => by simp [Array.getElem?_replicate] at hl; split at hl <;> simp at hl, fun _ _ => rfl⟩
    obtain ⟨listed', hs', hall', hF'⟩ := FA.all hf l 0 (Array.replicate l.length false) a0 (fun j => by simp) (by simp) (by simp) (fun j hj => absurd hj (Nat.not_lt_zero _)) hst
    have hF2 : FA l.toArray a0 listed' vals a := ⟨hF.df, hF.sz, fun i o t h1 h2 _ => hF.on i o t h1 h2 (hall i (Array.getElem?_eq_some_iff.1 h1).1), fun t ht => hF.off t fun i o h1 h2 => by
      have := ht i o h1 h2
      rw [hall' i (by simpa using (Array.getElem?_eq_some_iff.1 h1).1)] at this; cases this⟩
    have := FA.one (fun i hi => hall' i (by simpa using hi)) hF2 hF'
    rw [this]
    refine hend vals w ?_
    have e : (fun j => listed.getD j false) = fun j => decide (j < l.length) := by
      funext j
      by_cases q : j < l.length
      · rw [hall j (by simpa using q)]; simp [q]
      · have : ¬ j < listed.size := by omega
        simp [q, this]
    rw [← e]; exact hR
  · unfold todo
    have h1 : ∀ (p : Nat → Bool) (r : List Nat), r.countP p ≤ r.length := fun p r => List.countP_le_length
    refine Nat.le_trans (h1 _ _) ?_
    simp
  · refine ⟨by simp, fun i j _ hi => (by simp [Array.getElem?_replicate] at hi; split at hi <;> simp at hi), fun _ => undef, ⟨rfl, rfl, fun i o t _ _ hl => by simp [Array.getElem?_replicate] at hl; split at hl <;> simp at hl, fun _ _ => rfl⟩, ?_⟩
    have e : (fun j => (Array.replicate l.toArray.size false).getD j false) = fun _ => false := by
      funext j; simp [Array.getElem?_replicate]; split <;> rfl
    rw [e]; exact hstart
end Go.Proofs.YtfilolmbppjbjaaGreat
