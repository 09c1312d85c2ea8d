/-
  'd, ok := f(..)' in a region that draws its order: a call that answers a struct and a value, always the same ones; the struct is laid in a new variable. No program is named here.
-/
import Derived.Test.YtfilolmbppjbjaaGreatFlow
import Derived.Test.YtfilolmbppjbjaaGreatSRpad
import Derived.Test.YtfilolmbppjbjaaGreatGevent
namespace Go.Proofs.YtfilolmbppjbjaaGreat
open Go Go.RowKit
open sh (edgeB)
variable {P : Program}

theorem wp_value {o : Oper} {a : Act} {w : World} {K : Act → World → Prop} {Q : Exit → Act → World → Prop} (v : Value) (hv : (execOp a.eval o).run P w = .ok (.value v) w) (h : K (a.put o.dst v) w) : o.wp P a w K Q := by
  unfold Oper.wp; rw [hv]; exact h
theorem eval_tmp {a : Act} {t : Tmp} {v : Value} (h : a.tmps[t]? = some v) : a.eval (.tmp t) = v := by
  simp [Act.eval, h]

theorem wp_call_xs {op : Oper} {a : Act} {w : World} {K : Act → World → Prop} {Q : Exit → Act → World → Prop} (f : FuncId) (xs : Array Operand) (ts : Array TypeId) (ho : op.op = .call { callee := .value (.func f), args := xs, argTypes := ts })
    (he : ∀ args w, (callFunc f args).run P w = .ok (.enter f args) w) (args : Array Value) (hx : xs.map a.eval = args)
    (h : Calls P f args w fun e w' => ∃ r, e = .returned r ∧ K (a.put op.dst r) w') : op.wp P a w K Q := by
  have hx' : xs.map (Act.eval a) = args := hx
  unfold Oper.wp execOp
  simp [ho, resolve, invoke, he, hx', go_sem]
  refine h.mono ?_
  rintro e w' ⟨r, rfl, hk⟩
  exact hk
theorem belo_new {B : Nat} {w v : World} (h : sh.Belo B w v) (hB : B ≤ v.heap.size) (o : Obj) : sh.Belo B w (v.alloc o) := h.trans (sh.Belo.of ((Below.refl v.heap.size v).alloc (Nat.le_refl _) o) |>.mono hB)
theorem belo_row {B : Nat} {w v : World} (h : sh.Belo B w v) {b : Nat} (hb : B ≤ b) (c : Array Value) : sh.Belo B w (v.setRow b c) :=
  h.trans (sh.Belo.of (below_setRow (Below.refl B v) hb c))
theorem putAll_congr : ∀ (l : List Oper) (k : Nat) (u v : Nat → Value) (a : Act), (∀ j o, l[j]? = some o → o.dst ≠ none → u (k + j) = v (k + j)) → putAll l k u a = putAll l k v a
  | [], _, _, _, _, _ => rfl
  | o :: l, k, u, v, a, h => by
    unfold putAll
    have h0 : a.put o.dst (u k) = a.put o.dst (v k) := by
      cases hd : o.dst with
      | none => rfl
      | some d => rw [show u k = v k from h 0 o rfl (by rw [hd]; exact nofun)]
    rw [h0]
    exact putAll_congr l (k + 1) u v _ fun j o' ho hn => by
      have := h (j + 1) o' (by simpa using ho) hn
      rw [show k + (j + 1) = k + 1 + j by omega] at this; exact this
structure D1R (w0 : World) (h : Nat) (H : List Value) (x : Array Value) (z : Value) (zA : Array Value) (tA : TypeId) (bA : Nat) (vals : Nat → Value) (done : Nat → Bool) (w : World) : Prop where
  bel : sh.Belo w0.heap.size w0 w
  head : ∀ (j : Nat) v, (H ++ [.tuple #[.agg x, z], .tuple #[.agg x, z], .agg x, z])[j]? = some v → done j = true → vals j = v
  A : done (h + 4) = true → vals (h + 4) = .pointer (some ⟨bA, 0, none⟩) ∧ w0.heap.size ≤ bA ∧ w.heap[bA]? = some (.cells (if done (h + 5) = true then x else zA) tA)
  f : done (h + 6) = true → vals (h + 6) = z

/-- The law. -/
theorem wp_region_one {id : Nat} {Q : Exit → Act → World → Prop} {a0 : Act} {w0 : World} {l : List Oper} (h : Nat) (H : List Value) (F : FuncId) (xs : Array Operand) (ts : Array TypeId) (args : Array Value) (tc tm s0 s1 sA sf : Tmp) (tA : TypeId) (zA : Array Value) (x : Array Value) (z : Value)
    (hm : P.follows .mixedOrders = true) (hf : flowB l.toArray a0.tmps.size = true) (hlen : l.length = h + 7) (hH : H.length = h)
    (hhead : ∀ (j : Nat) o v, l[j]? = some o → H[j]? = some v → ∀ (a : Act) (w : World), (∀ (k : Nat) (o' : Oper) (t : Tmp) (u : Value), edgeB l.toArray j k = true → l[k]? = some o' → o'.dst = some t → H[k]? = some u → a.tmps[t]? = some u) →
      (∀ t, (l.all fun o' => o'.dst != some t) = true → a.tmps[t]? = a0.tmps[t]?) → sh.Belo w0.heap.size w0 w → (execOp a.eval o).run P w = .ok (.value v) w)
    (oc om o0 o1 oA oS of : Oper)
    (hc : l[h]? = some oc) (hm1 : l[h + 1]? = some om) (h0 : l[h + 2]? = some o0) (h1 : l[h + 3]? = some o1) (hA : l[h + 4]? = some oA) (hS : l[h + 5]? = some oS) (hfi : l[h + 6]? = some of)
    (pc : oc.op = .call { callee := .value (.func F), args := xs, argTypes := ts }) (pm : om.op = .move (.tmp tc)) (p0 : o0.op = .extract (.tmp tm) 0) (p1 : o1.op = .extract (.tmp tm) 1) (pA : oA.op = .alloc tA) (pS : oS.op = .store tA (.tmp sA) (.tmp s0)) (pf : of.op = .assign (.tmp s1))
    (dc : oc.dst = some tc) (dm : om.dst = some tm) (d0 : o0.dst = some s0) (d1 : o1.dst = some s1) (dA : oA.dst = some sA) (dS : oS.dst = none) (df : of.dst = some sf)
    (em : edgeB l.toArray (h + 1) h = true) (e0 : edgeB l.toArray (h + 2) (h + 1) = true) (e1 : edgeB l.toArray (h + 3) (h + 1) = true) (eS : edgeB l.toArray (h + 5) (h + 4) = true) (eS0 : edgeB l.toArray (h + 5) (h + 2) = true) (ef : edgeB l.toArray (h + 6) (h + 3) = true)
    (he : ∀ args w, (callFunc F args).run P w = .ok (.enter F args) w)
    (hargs : ∀ (a : Act), (∀ (k : Nat) (o' : Oper) (t : Tmp) (u : Value), edgeB l.toArray h k = true → l[k]? = some o' → o'.dst = some t → H[k]? = some u → a.tmps[t]? = some u) → (∀ t, (l.all fun o' => o'.dst != some t) = true → a.tmps[t]? = a0.tmps[t]?) → xs.map a.eval = args)
    (hcall : ∀ w, sh.Belo w0.heap.size w0 w → Calls P F args w fun e w' => e = .returned (.tuple #[.agg x, z]) ∧ sh.Belo w.heap.size w w')
    (hx1 : (P.info? tA).map (·.size) = some x.size) (hx2 : zA.size = x.size) (hx3 : x.all (·.oneCell') = true)
    (hzA : ∀ w, (zeroValue tA).run P w = .ok (.agg zA) w)
    (hend : ∀ bA w, sh.Belo w0.heap.size w0 w → w.heap[bA]? = some (.cells x tA) → w0.heap.size ≤ bA →
      Q .normal (putAll l 0 (fun j => (H ++ [.tuple #[.agg x, z], .tuple #[.agg x, z], .agg x, z, .pointer (some ⟨bA, 0, none⟩), undef, z]).getD j undef) a0) w) :
    (Code.region id l.toArray true).wp P Q a0 w0 := by
  have gH : ∀ (k : Nat) v, H[k]? = some v → (H ++ [.tuple #[.agg x, z], .tuple #[.agg x, z], .agg x, z])[k]? = some v := fun k v hk => by
    rw [List.getElem?_append_left (List.getElem?_eq_some_iff.1 hk).1]; exact hk
  have gT : ∀ (k : Nat), (H ++ [.tuple #[.agg x, z], .tuple #[.agg x, z], .agg x, z])[h + k]? = ([.tuple #[.agg x, z], .tuple #[.agg x, z], .agg x, z] : List Value)[k]? := fun k => by
    rw [List.getElem?_append_right (by omega), hH, Nat.add_sub_cancel_left]
  refine wp_region_flow (fun vals done w => ∃ bA, D1R w0 h H x z zA tA bA vals done w) hm hf ?_ ?_ ?_
  · exact ⟨0, { bel := ⟨rfl, rfl, Nat.le_refl _, fun _ _ => rfl⟩, head := fun _ _ _ q => Bool.noConfusion q, A := nofun, f := nofun }⟩
  · intro i o ho vals done a w hno hdep hcl hslot hbase ⟨bA, T⟩
    have hil : i < h + 7 := by rw [← hlen]; exact (List.getElem?_eq_some_iff.1 ho).1
    have hbase' : ∀ t, (l.all fun o' => o'.dst != some t) = true → a.tmps[t]? = a0.tmps[t]? := fun t ht => hbase t fun o' ho' => by
      have := List.all_eq_true.1 ht o' ho'
      simpa using this
    have keep : ∀ (v : Value) (j : Nat), j ≠ i → upd vals i v j = vals j := fun v j hj => upd_other hj
    have off : ∀ j, j ≠ i → (if j = i then true else done j) = done j := fun j hj => if_neg hj
    have hedge : ∀ k o' t u, edgeB l.toArray i k = true → l[k]? = some o' → o'.dst = some t → H[k]? = some u → a.tmps[t]? = some u := fun k o' t u hk hk1 hk2 hk3 => by
      have hd := hdep k hk
      rw [hslot k o' t hk1 hk2 hd, T.head k u (gH k u hk3) hd]
    -- one of the fixed values is laid
    have fixed : ∀ v, (H ++ [.tuple #[.agg x, z], .tuple #[.agg x, z], .agg x, z])[i]? = some v → i < h + 4 → ∀ w', sh.Belo w.heap.size w w' → ∃ bA, D1R w0 h H x z zA tA bA (upd vals i v) (fun j => if j = i then true else done j) w' := fun v hv hi4 w' hb => ⟨bA, {
        bel := T.bel.trans (hb.mono T.bel.size)
        head := fun j u hj hd => by
          by_cases e : j = i
          · subst e; rw [upd_same]; rw [hv] at hj; exact Option.some.inj hj
          · rw [off j e] at hd; rw [keep v j e]; exact T.head j u hj hd
        A := fun hd => by
          rw [off _ (by omega)] at hd; rw [keep v _ (by omega), off (h + 5) (by omega)]
          have q := T.A hd
          exact ⟨q.1, q.2.1, (hb.block _ (lt_of_some q.2.2)).trans q.2.2⟩
        f := fun hd => by rw [off _ (by omega)] at hd; rw [keep v _ (by omega)]; exact T.f hd }⟩
    have belo0 : sh.Belo w.heap.size w w := ⟨rfl, rfl, Nat.le_refl _, fun _ _ => rfl⟩
    by_cases hih : i < h
    · obtain ⟨v, hv⟩ : ∃ v, H[i]? = some v := ⟨H[i]'(by omega), List.getElem?_eq_getElem (by omega)⟩
      refine wp_value v (hhead i o v ho hv a w hedge hbase' T.bel) ⟨v, rfl, ?_⟩
      exact fixed v (gH i v hv) (by omega) w belo0
    obtain ⟨k, rfl⟩ : ∃ k, i = h + k := ⟨i - h, by omega⟩
    obtain rfl | rfl | rfl | rfl | rfl | rfl | rfl : k = 0 ∨ k = 1 ∨ k = 2 ∨ k = 3 ∨ k = 4 ∨ k = 5 ∨ k = 6 := by omega
    · have hoc : o = oc := by rw [Nat.add_zero, hc] at ho; exact (Option.some.inj ho).symm
      subst hoc
      refine wp_call_xs F xs ts pc he args (hargs a (fun k o' t u hk => hedge k o' t u hk) hbase') ((hcall w T.bel).mono ?_)
      rintro e w' ⟨rfl, hb⟩
      exact ⟨_, rfl, _, rfl, fixed _ (gT 0) (by omega) w' hb⟩
    · have hoc : o = om := by rw [hm1] at ho; exact (Option.some.inj ho).symm
      subst hoc
      have hd := hdep h em
      have hv := T.head h _ (by have := gT 0; rw [Nat.add_zero] at this; exact this) hd
      refine wp_value (.tuple #[.agg x, z]) (by unfold execOp; simp only [pm]; rw [eval_tmp ((hslot h oc tc hc dc hd).trans (congrArg some hv))]; rfl) ⟨_, rfl, fixed _ (gT 1) (by omega) w belo0⟩
    · have hoc : o = o0 := by rw [h0] at ho; exact (Option.some.inj ho).symm
      subst hoc
      have hd := hdep (h + 1) e0
      have hv := T.head (h + 1) _ (gT 1) hd
      refine wp_value (.agg x) (by unfold execOp; simp only [p0]; rw [eval_tmp ((hslot (h + 1) om tm hm1 dm hd).trans (congrArg some hv))]; rfl) ⟨_, rfl, fixed _ (gT 2) (by omega) w belo0⟩
    · have hoc : o = o1 := by rw [h1] at ho; exact (Option.some.inj ho).symm
      subst hoc
      have hd := hdep (h + 1) e1
      have hv := T.head (h + 1) _ (gT 1) hd
      refine wp_value z (by unfold execOp; simp only [p1]; rw [eval_tmp ((hslot (h + 1) om tm hm1 dm hd).trans (congrArg some hv))]; rfl) ⟨_, rfl, fixed _ (gT 3) (by omega) w belo0⟩
    · have hoc : o = oA := by rw [hA] at ho; exact (Option.some.inj ho).symm
      subst hoc
      have n : ¬ done (h + 5) = true := fun q => by have := hcl _ _ eS q; rw [hno] at this; cases this
      refine sh.wp_alloc_row tA pA zA (hzA w) ⟨_, rfl, w.heap.size, {
          bel := belo_new T.bel T.bel.size _
          head := fun j u hj hd => by
            have hjl : j < h + 4 := by have := (List.getElem?_eq_some_iff.1 hj).1; simp [hH] at this; omega
            rw [off j (by omega)] at hd; rw [keep _ j (by omega)]; exact T.head j u hj hd
          A := fun _ => ⟨upd_same _ _ _, T.bel.size, by rw [off (h + 5) (by omega), if_neg n, heap_alloc_if, if_pos rfl]⟩
          f := fun hd => by rw [off _ (by omega)] at hd; rw [keep _ _ (by omega)]; exact T.f hd }⟩
    · have hoc : o = oS := by rw [hS] at ho; exact (Option.some.inj ho).symm
      subst hoc
      have hd4 := hdep (h + 4) eS
      have hd2 := hdep (h + 2) eS0
      have hv2 := T.head (h + 2) _ (gT 2) hd2
      obtain ⟨q1, q2, q3⟩ := T.A hd4
      rw [if_neg (by rw [hno]; decide)] at q3
      refine sh.wp_store_row tA _ _ pS bA x (eval_tmp ((hslot (h + 4) oA sA hA dA hd4).trans (congrArg some q1))) (eval_tmp ((hslot (h + 2) o0 s0 h0 d0 hd2).trans (congrArg some hv2))) tA zA q3 hx1 hx2 hx3 ⟨undef, rfl, bA, {
          bel := belo_row T.bel q2 _
          head := fun j u hj hd => by
            have hjl : j < h + 4 := by have := (List.getElem?_eq_some_iff.1 hj).1; simp [hH] at this; omega
            rw [off j (by omega)] at hd; rw [keep _ j (by omega)]; exact T.head j u hj hd
          A := fun hd => by
            rw [off _ (by omega)] at hd; rw [keep _ _ (by omega), if_pos (if_pos rfl)]
            exact ⟨q1, q2, setRow_heap _ _ _ _ _ _ q3⟩
          f := fun hd => by rw [off _ (by omega)] at hd; rw [keep _ _ (by omega)]; exact T.f hd }⟩
    · have hoc : o = of := by rw [hfi] at ho; exact (Option.some.inj ho).symm
      subst hoc
      have hd := hdep (h + 3) ef
      have hv := T.head (h + 3) _ (gT 3) hd
      refine wp_value z (by unfold execOp; simp only [pf]; rw [eval_tmp ((hslot (h + 3) o1 s1 h1 d1 hd).trans (congrArg some hv))]; rfl) ⟨_, rfl, bA, {
          bel := T.bel
          head := fun j u hj hd => by
            have hjl : j < h + 4 := by have := (List.getElem?_eq_some_iff.1 hj).1; simp [hH] at this; omega
            rw [off j (by omega)] at hd; rw [keep _ j (by omega)]; exact T.head j u hj hd
          A := fun hd => by rw [off _ (by omega)] at hd; rw [keep _ _ (by omega), off (h + 5) (by omega)]; exact T.A hd
          f := fun _ => upd_same _ _ _ }⟩
  · rintro vals w ⟨bA, T⟩
    have d : ∀ j, j < h + 7 → decide (j < l.length) = true := fun j hj => by rw [hlen]; simpa using hj
    obtain ⟨q1, q2, q3⟩ := T.A (d _ (by omega))
    rw [if_pos (d _ (by omega))] at q3
    have := hend bA w T.bel q3 q2
    rw [putAll_congr l 0 (fun j => (H ++ [.tuple #[.agg x, z], .tuple #[.agg x, z], .agg x, z, .pointer (some ⟨bA, 0, none⟩), undef, z]).getD j undef) vals a0] at this
    · exact this
    · intro j o ho hdn
      rw [Nat.zero_add]
      have hjl : j < h + 7 := by rw [← hlen]; exact (List.getElem?_eq_some_iff.1 ho).1
      have e2 : (H ++ [.tuple #[.agg x, z], .tuple #[.agg x, z], .agg x, z, .pointer (some ⟨bA, 0, none⟩), undef, z] : List Value) = (H ++ [.tuple #[.agg x, z], .tuple #[.agg x, z], .agg x, z]) ++ [.pointer (some ⟨bA, 0, none⟩), undef, z] := by simp
      by_cases hj4 : j < h + 4
      · obtain ⟨v, hv⟩ : ∃ v, (H ++ [.tuple #[.agg x, z], .tuple #[.agg x, z], .agg x, z])[j]? = some v := ⟨_, List.getElem?_eq_getElem (by simp [hH]; omega)⟩
        rw [T.head j v hv (d j hjl)]
        rw [e2, List.getD_eq_getElem?_getD, List.getElem?_append_left (by simp [hH]; omega), hv]; rfl
      · obtain ⟨k, rfl⟩ : ∃ k, j = h + 4 + k := ⟨j - h - 4, by omega⟩
        rw [e2, List.getD_eq_getElem?_getD, List.getElem?_append_right (by simp [hH]), show h + 4 + k - (H ++ [.tuple #[.agg x, z], .tuple #[.agg x, z], .agg x, z]).length = k by simp [hH]]
        obtain rfl | rfl | rfl : k = 0 ∨ k = 1 ∨ k = 2 := by omega
        · rw [Nat.add_zero, q1]; rfl
        · rw [show h + 4 + 1 = h + 5 by omega] at ho
          rw [hS] at ho; obtain rfl := Option.some.inj ho; exact absurd dS hdn
        · rw [show h + 4 + 2 = h + 6 by omega, T.f (d _ (by omega))]; rfl
end Go.Proofs.YtfilolmbppjbjaaGreat
