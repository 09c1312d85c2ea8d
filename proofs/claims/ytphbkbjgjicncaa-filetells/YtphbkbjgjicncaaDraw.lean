/-
  'g, v, e := f(..)' in a region that draws its order: a call that answers two structs and a number, which are laid in two new variables. No program is named here.
-/
import Derived.Test.YtphbkbjgjicncaaFlow
import Derived.Test.YtphbkbjgjicncaaFiles
namespace Go.Proofs.Ytphbkbjgjicncaa
open Go Go.RowKit
open sh (edgeB)
variable {P : Program}

theorem putAll_congr : ∀ (l : List Oper) (k : Nat) (u v : Nat → Value) (a : Act), (∀ j o, l[j]? = some o → o.dst ≠ none → u (k + j) = v (k + j)) → putAll l k u a = putAll l k v a
  | [], _, _, _, _, _ => rfl
  | o :: l, k, u, v, a, h => by
    unfold putAll
    have h0 : a.put o.dst (u k) = a.put o.dst (v k) := by
      cases hd : o.dst with
      | none => rfl
      | some d => rw [show u k = v k from h 0 o rfl (by rw [hd]; exact nofun)]
    rw [h0]
    exact putAll_congr l (k + 1) u v _ fun j o' ho hn => by
      have := h (j + 1) o' (by simpa using ho) hn
      rw [show k + (j + 1) = k + 1 + j by omega] at this; exact this
theorem wp_value {o : Oper} {a : Act} {w : World} {K : Act → World → Prop} {Q : Exit → Act → World → Prop} (v : Value) (hv : (execOp a.eval o).run P w = .ok (.value v) w) (h : K (a.put o.dst v) w) : o.wp P a w K Q := by
  unfold Oper.wp; rw [hv]; exact h
theorem eval_tmp {a : Act} {t : Tmp} {v : Value} (h : a.tmps[t]? = some v) : a.eval (.tmp t) = v := by
  simp [Act.eval, h]

theorem wp_call_xs {op : Oper} {a : Act} {w : World} {K : Act → World → Prop} {Q : Exit → Act → World → Prop} (f : FuncId) (xs : Array Operand) (ts : Array TypeId) (ho : op.op = .call { callee := .value (.func f), args := xs, argTypes := ts })
    (he : ∀ args w, (callFunc f args).run P w = .ok (.enter f args) w) (args : Array Value) (hx : xs.map a.eval = args)
    (h : Calls P f args w fun e w' => ∃ r, e = .returned r ∧ K (a.put op.dst r) w') : op.wp P a w K Q := by
  have hx' : xs.map (Act.eval a) = args := hx
  unfold Oper.wp execOp
  simp [ho, resolve, invoke, he, hx', go_sem]
  refine h.mono ?_
  rintro e w' ⟨r, rfl, hk⟩
  exact hk
theorem run_ext3 (x y z : Value) (w : World) : (Instr.extract (.tuple #[x, y, z]) 0).run P w = .ok x w ∧ (Instr.extract (.tuple #[x, y, z]) 1).run P w = .ok y w ∧ (Instr.extract (.tuple #[x, y, z]) 2).run P w = .ok z w := ⟨rfl, rfl, rfl⟩

/-- What holds at each step. -/
structure DR (w0 : World) (h : Nat) (H : List Value) (x y : Array Value) (z : Value) (zA zB : Array Value) (tA tB : TypeId) (Φ : Array Value → Array Value → Value → Nat → Nat → World → Prop) (lo hi bA bB : Nat) (vals : Nat → Value) (done : Nat → Bool) (w : World) : Prop where
  bel : Below w0.heap.size w0 w
  head : ∀ (j : Nat) v, H[j]? = some v → done j = true → vals j = v
  c : done h = true → vals h = .tuple #[.agg x, .agg y, z] ∧ Φ x y z lo hi w ∧ hi ≤ w.heap.size
  m : done (h + 1) = true → vals (h + 1) = .tuple #[.agg x, .agg y, z]
  e0 : done (h + 2) = true → vals (h + 2) = .agg x
  e1 : done (h + 3) = true → vals (h + 3) = .agg y
  e2 : done (h + 4) = true → vals (h + 4) = z
  A : done (h + 5) = true → vals (h + 5) = .pointer (some ⟨bA, 0, none⟩) ∧ w0.heap.size ≤ bA ∧ w.heap[bA]? = some (.cells (if done (h + 7) = true then x else zA) tA)
  B : done (h + 6) = true → vals (h + 6) = .pointer (some ⟨bB, 0, none⟩) ∧ w0.heap.size ≤ bB ∧ w.heap[bB]? = some (.cells (if done (h + 8) = true then y else zB) tB)
  ab : done (h + 5) = true → done (h + 6) = true → bA ≠ bB
  ac : done (h + 5) = true → done h = true → bA < lo ∨ hi ≤ bA
  bc : done (h + 6) = true → done h = true → bB < lo ∨ hi ≤ bB
  f : done (h + 9) = true → vals (h + 9) = z

/-- The law. -/
theorem wp_region_do {id : Nat} {Q : Exit → Act → World → Prop} {a0 : Act} {w0 : World} {l : List Oper} (h : Nat) (H : List Value) (F : FuncId) (xs : Array Operand) (ts : Array TypeId) (args : Array Value) (tc tm s0 s1 s2 sA sB sf : Tmp) (tA tB : TypeId) (zA zB : Array Value)
    (Φ : Array Value → Array Value → Value → Nat → Nat → World → Prop)
    (hm : P.follows .mixedOrders = true) (hf : flowB l.toArray a0.tmps.size = true) (hlen : l.length = h + 10) (hH : H.length = h)
    (hΦ : ∀ x y z lo hi w w', Φ x y z lo hi w → (∀ b, lo ≤ b → b < hi → w'.heap[b]? = w.heap[b]?) → Φ x y z lo hi w')
    (hhead : ∀ (j : Nat) o v, l[j]? = some o → H[j]? = some v → ∀ (a : Act) (w : World), (∀ (k : Nat) (o' : Oper) (t : Tmp) (u : Value), edgeB l.toArray j k = true → l[k]? = some o' → o'.dst = some t → H[k]? = some u → a.tmps[t]? = some u) →
      (∀ t, (l.all fun o' => o'.dst != some t) = true → a.tmps[t]? = a0.tmps[t]?) → Below w0.heap.size w0 w → (execOp a.eval o).run P w = .ok (.value v) w)
    (oc om o0 o1 o2 oA oB oS oT of : Oper)
    (hc : l[h]? = some oc) (hm1 : l[h + 1]? = some om) (h0 : l[h + 2]? = some o0) (h1 : l[h + 3]? = some o1) (h2 : l[h + 4]? = some o2) (hA : l[h + 5]? = some oA) (hB : l[h + 6]? = some oB) (hS : l[h + 7]? = some oS) (hT : l[h + 8]? = some oT) (hfi : l[h + 9]? = some of)
    (pc : oc.op = .call { callee := .value (.func F), args := xs, argTypes := ts }) (pm : om.op = .move (.tmp tc)) (p0 : o0.op = .extract (.tmp tm) 0) (p1 : o1.op = .extract (.tmp tm) 1) (p2 : o2.op = .extract (.tmp tm) 2) (pA : oA.op = .alloc tA) (pB : oB.op = .alloc tB) (pS : oS.op = .store tA (.tmp sA) (.tmp s0)) (pT : oT.op = .store tB (.tmp sB) (.tmp s1)) (pf : of.op = .assign (.tmp s2))
    (dc : oc.dst = some tc) (dm : om.dst = some tm) (d0 : o0.dst = some s0) (d1 : o1.dst = some s1) (d2 : o2.dst = some s2) (dA : oA.dst = some sA) (dB : oB.dst = some sB) (dS : oS.dst = none) (dT : oT.dst = none) (df : of.dst = some sf)
    (em : edgeB l.toArray (h + 1) h = true) (e0 : edgeB l.toArray (h + 2) (h + 1) = true) (e1 : edgeB l.toArray (h + 3) (h + 1) = true) (e2 : edgeB l.toArray (h + 4) (h + 1) = true) (eS : edgeB l.toArray (h + 7) (h + 5) = true) (eS0 : edgeB l.toArray (h + 7) (h + 2) = true) (eT : edgeB l.toArray (h + 8) (h + 6) = true) (eT0 : edgeB l.toArray (h + 8) (h + 3) = true) (ef : edgeB l.toArray (h + 9) (h + 4) = true)
    (he : ∀ args w, (callFunc F args).run P w = .ok (.enter F args) w)
    (hargs : ∀ (a : Act), (∀ (k : Nat) (o' : Oper) (t : Tmp) (u : Value), edgeB l.toArray h k = true → l[k]? = some o' → o'.dst = some t → H[k]? = some u → a.tmps[t]? = some u) → (∀ t, (l.all fun o' => o'.dst != some t) = true → a.tmps[t]? = a0.tmps[t]?) → xs.map a.eval = args)
    (hcall : ∀ w, Below w0.heap.size w0 w → Calls P F args w fun e w' => ∃ x y z, e = .returned (.tuple #[.agg x, .agg y, z]) ∧ Φ x y z w.heap.size w'.heap.size w' ∧ Below w.heap.size w w' ∧ (P.info? tA).map (·.size) = some x.size ∧ zA.size = x.size ∧ x.all (·.oneCell') = true ∧ (P.info? tB).map (·.size) = some y.size ∧ zB.size = y.size ∧ y.all (·.oneCell') = true)
    (hzA : ∀ w, (zeroValue tA).run P w = .ok (.agg zA) w) (hzB : ∀ w, (zeroValue tB).run P w = .ok (.agg zB) w)
    (hend : ∀ x y z lo hi bA bB w, Below w0.heap.size w0 w → Φ x y z lo hi w → hi ≤ w.heap.size → w.heap[bA]? = some (.cells x tA) → w.heap[bB]? = some (.cells y tB) → w0.heap.size ≤ bA → w0.heap.size ≤ bB → bA ≠ bB → (bA < lo ∨ hi ≤ bA) → (bB < lo ∨ hi ≤ bB) →
      Q .normal (putAll l 0 (fun j => (H ++ [.tuple #[.agg x, .agg y, z], .tuple #[.agg x, .agg y, z], .agg x, .agg y, z, .pointer (some ⟨bA, 0, none⟩), .pointer (some ⟨bB, 0, none⟩), undef, undef, z]).getD j undef) a0) w) :
    (Code.region id l.toArray true).wp P Q a0 w0 := by
  refine wp_region_flow (fun vals done w => ∃ x y z lo hi bA bB, DR w0 h H x y z zA zB tA tB Φ lo hi bA bB vals done w ∧ (done h = true → (P.info? tA).map (·.size) = some x.size ∧ zA.size = x.size ∧ x.all (·.oneCell') = true ∧ (P.info? tB).map (·.size) = some y.size ∧ zB.size = y.size ∧ y.all (·.oneCell') = true)) hm hf ?_ ?_ ?_
  · exact ⟨#[], #[], undef, 0, 0, 0, 0, { bel := (Below.refl _ _).drew, head := fun _ _ _ q => Bool.noConfusion q, c := nofun, m := nofun, e0 := nofun, e1 := nofun, e2 := nofun, A := nofun, B := nofun, ab := nofun, ac := nofun, bc := nofun, f := nofun }, nofun⟩
  · intro i o ho vals done a w hno hdep hcl hslot hbase ⟨x, y, z, lo, hi, bA, bB, T, S⟩
    have hil : i < h + 10 := by rw [← hlen]; exact (List.getElem?_eq_some_iff.1 ho).1
    have hbase' : ∀ t, (l.all fun o' => o'.dst != some t) = true → a.tmps[t]? = a0.tmps[t]? := fun t ht => hbase t fun o' ho' => by
      have := List.all_eq_true.1 ht o' ho'
      simpa using this
    have keep : ∀ (v : Value) (j : Nat), j ≠ i → upd vals i v j = vals j := fun v j hj => upd_other hj
    have off : ∀ j, j ≠ i → (if j = i then true else done j) = done j := fun j hj => if_neg hj
    by_cases hih : i < h
    · -- the head
      obtain ⟨v, hv⟩ : ∃ v, H[i]? = some v := ⟨H[i]'(by omega), List.getElem?_eq_getElem (by omega)⟩
      refine wp_value v (hhead i o v ho hv a w (fun k o' t u hk hk1 hk2 hk3 => ?_) hbase' T.bel) ?_
      · have hd := hdep k hk
        rw [hslot k o' t hk1 hk2 hd, T.head k u hk3 hd]
      · refine ⟨v, rfl, x, y, z, lo, hi, bA, bB, ?_, ?_⟩
        · have o' : ∀ k, k ≤ 9 → (if h + k = i then true else done (h + k)) = done (h + k) := fun k _ => off _ (by omega)
          have v' : ∀ k, k ≤ 9 → upd vals i v (h + k) = vals (h + k) := fun k _ => keep v _ (by omega)
          exact {
            bel := T.bel
            head := fun j u hj hd => by
              by_cases e : j = i
              · subst e; rw [upd_same]; rw [hv] at hj; exact Option.some.inj hj
              · rw [off j e] at hd; rw [keep v j e]; exact T.head j u hj hd
            c := fun hd => by rw [off h (by omega)] at hd; rw [keep v h (by omega)]; exact T.c hd
            m := fun hd => by rw [o' 1 (by omega)] at hd; rw [v' 1 (by omega)]; exact T.m hd
            e0 := fun hd => by rw [o' 2 (by omega)] at hd; rw [v' 2 (by omega)]; exact T.e0 hd
            e1 := fun hd => by rw [o' 3 (by omega)] at hd; rw [v' 3 (by omega)]; exact T.e1 hd
            e2 := fun hd => by rw [o' 4 (by omega)] at hd; rw [v' 4 (by omega)]; exact T.e2 hd
            A := fun hd => by rw [o' 5 (by omega)] at hd; rw [v' 5 (by omega), o' 7 (by omega)]; exact T.A hd
            B := fun hd => by rw [o' 6 (by omega)] at hd; rw [v' 6 (by omega), o' 8 (by omega)]; exact T.B hd
            ab := fun q1 q2 => by rw [o' 5 (by omega)] at q1; rw [o' 6 (by omega)] at q2; exact T.ab q1 q2
            ac := fun q1 q2 => by rw [o' 5 (by omega)] at q1; rw [off h (by omega)] at q2; exact T.ac q1 q2
            bc := fun q1 q2 => by rw [o' 6 (by omega)] at q1; rw [off h (by omega)] at q2; exact T.bc q1 q2
            f := fun hd => by rw [o' 9 (by omega)] at hd; rw [v' 9 (by omega)]; exact T.f hd }
        · intro hd
          have hd' : (if h = i then true else done h) = true := hd
          rw [off h (by omega)] at hd'; exact S hd'
    have hhd : ∀ (v : Value) (j : Nat) u, H[j]? = some u → (if j = i then true else done j) = true → upd vals i v j = u := fun v j u hj hd => by
      have hjl : j < H.length := (List.getElem?_eq_some_iff.1 hj).1
      have e : j ≠ i := by omega
      rw [off j e] at hd; rw [keep v j e]; exact T.head j u hj hd
    obtain ⟨k, rfl⟩ : ∃ k, i = h + k := ⟨i - h, by omega⟩
    have hk10 : k < 10 := by omega
    have o' : ∀ j, j ≠ k → (if h + j = h + k then true else done (h + j)) = done (h + j) := fun j hj => if_neg (by omega)
    have v' : ∀ (v : Value) (j : Nat), j ≠ k → upd vals (h + k) v (h + j) = vals (h + j) := fun v j hj => upd_other (by omega)
    have oh : k ≠ 0 → (if h = h + k then true else done h) = done h := fun q => if_neg (by omega)
    have vh : ∀ (v : Value), k ≠ 0 → upd vals (h + k) v h = vals h := fun v q => upd_other (by omega)
    obtain rfl | rfl | rfl | rfl | rfl | rfl | rfl | rfl | rfl | rfl : k = 0 ∨ k = 1 ∨ k = 2 ∨ k = 3 ∨ k = 4 ∨ k = 5 ∨ k = 6 ∨ k = 7 ∨ k = 8 ∨ k = 9 := by omega
    · have hoc : o = oc := by rw [Nat.add_zero, hc] at ho; exact (Option.some.inj ho).symm
      subst hoc
      have nh : ¬ done h = true := by rw [Nat.add_zero] at hno; rw [hno]; decide
      have n1 : ¬ done (h + 1) = true := fun q => nh (hcl _ _ em q)
      have n2 : ¬ done (h + 2) = true := fun q => n1 (hcl _ _ e0 q)
      have n3 : ¬ done (h + 3) = true := fun q => n1 (hcl _ _ e1 q)
      have n4 : ¬ done (h + 4) = true := fun q => n1 (hcl _ _ e2 q)
      have n7 : ¬ done (h + 7) = true := fun q => n2 (hcl _ _ eS0 q)
      have n8 : ¬ done (h + 8) = true := fun q => n3 (hcl _ _ eT0 q)
      have n9 : ¬ done (h + 9) = true := fun q => n4 (hcl _ _ ef q)
      refine wp_call_xs F xs ts pc he args (hargs a (fun k o' t u hk hk1 hk2 hk3 => ?_) hbase') ((hcall w T.bel).mono ?_)
      · have hd := hdep k hk
        rw [hslot k o' t hk1 hk2 hd, T.head k u hk3 hd]
      rintro e w' ⟨x', y', z', rfl, hP, hb, S'⟩
      refine ⟨_, rfl, _, rfl, x', y', z', w.heap.size, w'.heap.size, bA, bB, {
          bel := T.bel.trans (hb.mono T.bel.size)
          head := hhd _
          c := fun _ => ⟨upd_same _ _ _, hP, Nat.le_refl _⟩
          m := fun hd => absurd (by rw [o' 1 (by decide)] at hd; exact hd) n1
          e0 := fun hd => absurd (by rw [o' 2 (by decide)] at hd; exact hd) n2
          e1 := fun hd => absurd (by rw [o' 3 (by decide)] at hd; exact hd) n3
          e2 := fun hd => absurd (by rw [o' 4 (by decide)] at hd; exact hd) n4
          A := fun hd => by
            rw [o' 5 (by decide)] at hd; rw [v' _ 5 (by decide), o' 7 (by decide), if_neg n7]
            have q := T.A hd
            rw [if_neg n7] at q
            exact ⟨q.1, q.2.1, (hb.block _ (lt_of_some q.2.2)).trans q.2.2⟩
          B := fun hd => by
            rw [o' 6 (by decide)] at hd; rw [v' _ 6 (by decide), o' 8 (by decide), if_neg n8]
            have q := T.B hd
            rw [if_neg n8] at q
            exact ⟨q.1, q.2.1, (hb.block _ (lt_of_some q.2.2)).trans q.2.2⟩
          ab := fun q1 q2 => by rw [o' 5 (by decide)] at q1; rw [o' 6 (by decide)] at q2; exact T.ab q1 q2
          ac := fun q1 _ => by rw [o' 5 (by decide)] at q1; exact .inl (lt_of_some (T.A q1).2.2)
          bc := fun q1 _ => by rw [o' 6 (by decide)] at q1; exact .inl (lt_of_some (T.B q1).2.2)
          f := fun hd => absurd (by rw [o' 9 (by decide)] at hd; exact hd) n9
        }, fun _ => S'⟩
    · have hoc : o = om := by rw [hm1] at ho; exact (Option.some.inj ho).symm
      subst hoc
      refine wp_value (.tuple #[.agg x, .agg y, z]) (by unfold execOp; simp only [pm]; rw [eval_tmp ((hslot h oc tc hc dc (hdep h em)).trans (congrArg some (T.c (hdep h em)).1))]; rfl) ⟨_, rfl, x, y, z, lo, hi, bA, bB, {
          bel := T.bel
          head := hhd _
          c := fun hd => by rw [oh (by decide)] at hd; rw [vh _ (by decide)]; exact T.c hd
          m := fun _ => upd_same _ _ _
          e0 := fun hd => by rw [o' 2 (by decide)] at hd; rw [v' _ 2 (by decide)]; exact T.e0 hd
          e1 := fun hd => by rw [o' 3 (by decide)] at hd; rw [v' _ 3 (by decide)]; exact T.e1 hd
          e2 := fun hd => by rw [o' 4 (by decide)] at hd; rw [v' _ 4 (by decide)]; exact T.e2 hd
          A := fun hd => by rw [o' 5 (by decide)] at hd; rw [v' _ 5 (by decide), o' 7 (by decide)]; exact T.A hd
          B := fun hd => by rw [o' 6 (by decide)] at hd; rw [v' _ 6 (by decide), o' 8 (by decide)]; exact T.B hd
          ab := fun q1 q2 => by rw [o' 5 (by decide)] at q1; rw [o' 6 (by decide)] at q2; exact T.ab q1 q2
          ac := fun q1 q2 => by rw [o' 5 (by decide)] at q1; rw [oh (by decide)] at q2; exact T.ac q1 q2
          bc := fun q1 q2 => by rw [o' 6 (by decide)] at q1; rw [oh (by decide)] at q2; exact T.bc q1 q2
          f := fun hd => by rw [o' 9 (by decide)] at hd; rw [v' _ 9 (by decide)]; exact T.f hd
        }, fun hd => S (by have hd' : (if h = h + 1 then true else done h) = true := hd; rw [oh (by decide)] at hd'; exact hd')⟩
    · have hoc : o = o0 := by rw [h0] at ho; exact (Option.some.inj ho).symm
      subst hoc
      refine wp_value (.agg x) (by unfold execOp; simp only [p0]; rw [eval_tmp ((hslot (h + 1) om tm hm1 dm (hdep _ e0)).trans (congrArg some (T.m (hdep _ e0))))]; rfl) ⟨_, rfl, x, y, z, lo, hi, bA, bB, {
          bel := T.bel
          head := hhd _
          c := fun hd => by rw [oh (by decide)] at hd; rw [vh _ (by decide)]; exact T.c hd
          m := fun hd => by rw [o' 1 (by decide)] at hd; rw [v' _ 1 (by decide)]; exact T.m hd
          e0 := fun _ => upd_same _ _ _
          e1 := fun hd => by rw [o' 3 (by decide)] at hd; rw [v' _ 3 (by decide)]; exact T.e1 hd
          e2 := fun hd => by rw [o' 4 (by decide)] at hd; rw [v' _ 4 (by decide)]; exact T.e2 hd
          A := fun hd => by rw [o' 5 (by decide)] at hd; rw [v' _ 5 (by decide), o' 7 (by decide)]; exact T.A hd
          B := fun hd => by rw [o' 6 (by decide)] at hd; rw [v' _ 6 (by decide), o' 8 (by decide)]; exact T.B hd
          ab := fun q1 q2 => by rw [o' 5 (by decide)] at q1; rw [o' 6 (by decide)] at q2; exact T.ab q1 q2
          ac := fun q1 q2 => by rw [o' 5 (by decide)] at q1; rw [oh (by decide)] at q2; exact T.ac q1 q2
          bc := fun q1 q2 => by rw [o' 6 (by decide)] at q1; rw [oh (by decide)] at q2; exact T.bc q1 q2
          f := fun hd => by rw [o' 9 (by decide)] at hd; rw [v' _ 9 (by decide)]; exact T.f hd
        }, fun hd => S (by have hd' : (if h = h + 2 then true else done h) = true := hd; rw [oh (by decide)] at hd'; exact hd')⟩
    · have hoc : o = o1 := by rw [h1] at ho; exact (Option.some.inj ho).symm
      subst hoc
      refine wp_value (.agg y) (by unfold execOp; simp only [p1]; rw [eval_tmp ((hslot (h + 1) om tm hm1 dm (hdep _ e1)).trans (congrArg some (T.m (hdep _ e1))))]; rfl) ⟨_, rfl, x, y, z, lo, hi, bA, bB, {
          bel := T.bel
          head := hhd _
          c := fun hd => by rw [oh (by decide)] at hd; rw [vh _ (by decide)]; exact T.c hd
          m := fun hd => by rw [o' 1 (by decide)] at hd; rw [v' _ 1 (by decide)]; exact T.m hd
          e0 := fun hd => by rw [o' 2 (by decide)] at hd; rw [v' _ 2 (by decide)]; exact T.e0 hd
          e1 := fun _ => upd_same _ _ _
          e2 := fun hd => by rw [o' 4 (by decide)] at hd; rw [v' _ 4 (by decide)]; exact T.e2 hd
          A := fun hd => by rw [o' 5 (by decide)] at hd; rw [v' _ 5 (by decide), o' 7 (by decide)]; exact T.A hd
          B := fun hd => by rw [o' 6 (by decide)] at hd; rw [v' _ 6 (by decide), o' 8 (by decide)]; exact T.B hd
          ab := fun q1 q2 => by rw [o' 5 (by decide)] at q1; rw [o' 6 (by decide)] at q2; exact T.ab q1 q2
          ac := fun q1 q2 => by rw [o' 5 (by decide)] at q1; rw [oh (by decide)] at q2; exact T.ac q1 q2
          bc := fun q1 q2 => by rw [o' 6 (by decide)] at q1; rw [oh (by decide)] at q2; exact T.bc q1 q2
          f := fun hd => by rw [o' 9 (by decide)] at hd; rw [v' _ 9 (by decide)]; exact T.f hd
        }, fun hd => S (by have hd' : (if h = h + 3 then true else done h) = true := hd; rw [oh (by decide)] at hd'; exact hd')⟩
    · have hoc : o = o2 := by rw [h2] at ho; exact (Option.some.inj ho).symm
      subst hoc
      refine wp_value (z) (by unfold execOp; simp only [p2]; rw [eval_tmp ((hslot (h + 1) om tm hm1 dm (hdep _ e2)).trans (congrArg some (T.m (hdep _ e2))))]; rfl) ⟨_, rfl, x, y, z, lo, hi, bA, bB, {
          bel := T.bel
          head := hhd _
          c := fun hd => by rw [oh (by decide)] at hd; rw [vh _ (by decide)]; exact T.c hd
          m := fun hd => by rw [o' 1 (by decide)] at hd; rw [v' _ 1 (by decide)]; exact T.m hd
          e0 := fun hd => by rw [o' 2 (by decide)] at hd; rw [v' _ 2 (by decide)]; exact T.e0 hd
          e1 := fun hd => by rw [o' 3 (by decide)] at hd; rw [v' _ 3 (by decide)]; exact T.e1 hd
          e2 := fun _ => upd_same _ _ _
          A := fun hd => by rw [o' 5 (by decide)] at hd; rw [v' _ 5 (by decide), o' 7 (by decide)]; exact T.A hd
          B := fun hd => by rw [o' 6 (by decide)] at hd; rw [v' _ 6 (by decide), o' 8 (by decide)]; exact T.B hd
          ab := fun q1 q2 => by rw [o' 5 (by decide)] at q1; rw [o' 6 (by decide)] at q2; exact T.ab q1 q2
          ac := fun q1 q2 => by rw [o' 5 (by decide)] at q1; rw [oh (by decide)] at q2; exact T.ac q1 q2
          bc := fun q1 q2 => by rw [o' 6 (by decide)] at q1; rw [oh (by decide)] at q2; exact T.bc q1 q2
          f := fun hd => by rw [o' 9 (by decide)] at hd; rw [v' _ 9 (by decide)]; exact T.f hd
        }, fun hd => S (by have hd' : (if h = h + 4 then true else done h) = true := hd; rw [oh (by decide)] at hd'; exact hd')⟩
    · have hoc : o = oA := by rw [hA] at ho; exact (Option.some.inj ho).symm
      subst hoc
      have n : ¬ done (h + 7) = true := fun q => by have := hcl _ _ eS q; rw [hno] at this; cases this
      refine sh.wp_alloc_row tA pA zA (hzA w) ⟨_, rfl, x, y, z, lo, hi, w.heap.size, bB, {
          bel := T.bel.trans (((Below.refl w.heap.size w).alloc (Nat.le_refl _) _).mono T.bel.size)
          head := hhd _
          c := fun hd => by
            rw [oh (by decide)] at hd; rw [vh _ (by decide)]
            have q := T.c hd
            exact ⟨q.1, hΦ _ _ _ _ _ _ _ q.2.1 fun b _ hb => (by rw [heap_alloc_if, if_neg (by have := q.2.2; omega)]), Nat.le_trans q.2.2 (by simp)⟩
          m := fun hd => by rw [o' 1 (by decide)] at hd; rw [v' _ 1 (by decide)]; exact T.m hd
          e0 := fun hd => by rw [o' 2 (by decide)] at hd; rw [v' _ 2 (by decide)]; exact T.e0 hd
          e1 := fun hd => by rw [o' 3 (by decide)] at hd; rw [v' _ 3 (by decide)]; exact T.e1 hd
          e2 := fun hd => by rw [o' 4 (by decide)] at hd; rw [v' _ 4 (by decide)]; exact T.e2 hd
          A := fun _ => ⟨upd_same _ _ _, T.bel.size, by rw [o' 7 (by decide), if_neg n, heap_alloc_if, if_pos rfl]⟩
          B := fun hd => by
            rw [o' 6 (by decide)] at hd; rw [v' _ 6 (by decide), o' 8 (by decide)]
            have q := T.B hd
            exact ⟨q.1, q.2.1, by rw [heap_alloc_if, if_neg (Nat.ne_of_lt (lt_of_some q.2.2))]; exact q.2.2⟩
          ab := fun _ q2 => by rw [o' 6 (by decide)] at q2; exact (Nat.ne_of_gt (lt_of_some (T.B q2).2.2))
          ac := fun _ q2 => by rw [oh (by decide)] at q2; exact .inr (T.c q2).2.2
          bc := fun q1 q2 => by rw [o' 6 (by decide)] at q1; rw [oh (by decide)] at q2; exact T.bc q1 q2
          f := fun hd => by rw [o' 9 (by decide)] at hd; rw [v' _ 9 (by decide)]; exact T.f hd
        }, fun hd => S (by have hd' : (if h = h + 5 then true else done h) = true := hd; rw [oh (by decide)] at hd'; exact hd')⟩
    · have hoc : o = oB := by rw [hB] at ho; exact (Option.some.inj ho).symm
      subst hoc
      have n : ¬ done (h + 8) = true := fun q => by have := hcl _ _ eT q; rw [hno] at this; cases this
      refine sh.wp_alloc_row tB pB zB (hzB w) ⟨_, rfl, x, y, z, lo, hi, bA, w.heap.size, {
          bel := T.bel.trans (((Below.refl w.heap.size w).alloc (Nat.le_refl _) _).mono T.bel.size)
          head := hhd _
          c := fun hd => by
            rw [oh (by decide)] at hd; rw [vh _ (by decide)]
            have q := T.c hd
            exact ⟨q.1, hΦ _ _ _ _ _ _ _ q.2.1 fun b _ hb => (by rw [heap_alloc_if, if_neg (by have := q.2.2; omega)]), Nat.le_trans q.2.2 (by simp)⟩
          m := fun hd => by rw [o' 1 (by decide)] at hd; rw [v' _ 1 (by decide)]; exact T.m hd
          e0 := fun hd => by rw [o' 2 (by decide)] at hd; rw [v' _ 2 (by decide)]; exact T.e0 hd
          e1 := fun hd => by rw [o' 3 (by decide)] at hd; rw [v' _ 3 (by decide)]; exact T.e1 hd
          e2 := fun hd => by rw [o' 4 (by decide)] at hd; rw [v' _ 4 (by decide)]; exact T.e2 hd
          A := fun hd => by
            rw [o' 5 (by decide)] at hd; rw [v' _ 5 (by decide), o' 7 (by decide)]
            have q := T.A hd
            exact ⟨q.1, q.2.1, by rw [heap_alloc_if, if_neg (Nat.ne_of_lt (lt_of_some q.2.2))]; exact q.2.2⟩
          B := fun _ => ⟨upd_same _ _ _, T.bel.size, by rw [o' 8 (by decide), if_neg n, heap_alloc_if, if_pos rfl]⟩
          ab := fun q1 _ => by rw [o' 5 (by decide)] at q1; exact (Nat.ne_of_lt (lt_of_some (T.A q1).2.2))
          ac := fun q1 q2 => by rw [o' 5 (by decide)] at q1; rw [oh (by decide)] at q2; exact T.ac q1 q2
          bc := fun _ q2 => by rw [oh (by decide)] at q2; exact .inr (T.c q2).2.2
          f := fun hd => by rw [o' 9 (by decide)] at hd; rw [v' _ 9 (by decide)]; exact T.f hd
        }, fun hd => S (by have hd' : (if h = h + 6 then true else done h) = true := hd; rw [oh (by decide)] at hd'; exact hd')⟩
    · have hoc : o = oS := by rw [hS] at ho; exact (Option.some.inj ho).symm
      subst hoc
      have dA1 := hdep _ eS
      have dX1 := hdep _ eS0
      have dC : done h = true := hcl _ _ em (hcl _ _ e0 dX1)
      have s9 := S dC
      have qA := T.A dA1
      rw [if_neg (by rw [hno]; decide)] at qA
      refine sh.wp_store_row tA (.tmp sA) (.tmp s0) pS bA x (eval_tmp ((hslot _ oA sA hA dA dA1).trans (congrArg some qA.1))) (eval_tmp ((hslot _ o0 s0 h0 d0 dX1).trans (congrArg some (T.e0 dX1)))) tA _ qA.2.2 s9.1 s9.2.1 s9.2.2.1 ⟨_, rfl, x, y, z, lo, hi, bA, bB, {
          bel := below_setRow T.bel qA.2.1 _
          head := hhd _
          c := fun hd => by
            rw [oh (by decide)] at hd; rw [vh _ (by decide)]
            have q := T.c hd
            have q9 := T.ac dA1 hd
            exact ⟨q.1, hΦ _ _ _ _ _ _ _ q.2.1 fun b h1 h2 => setRow_other _ _ _ _ (by omega), by rw [size_setRow]; exact q.2.2⟩
          m := fun hd => by rw [o' 1 (by decide)] at hd; rw [v' _ 1 (by decide)]; exact T.m hd
          e0 := fun hd => by rw [o' 2 (by decide)] at hd; rw [v' _ 2 (by decide)]; exact T.e0 hd
          e1 := fun hd => by rw [o' 3 (by decide)] at hd; rw [v' _ 3 (by decide)]; exact T.e1 hd
          e2 := fun hd => by rw [o' 4 (by decide)] at hd; rw [v' _ 4 (by decide)]; exact T.e2 hd
          A := fun _ => ⟨by rw [v' _ 5 (by decide)]; exact qA.1, qA.2.1, by rw [if_pos (if_pos rfl)]; exact setRow_heap _ _ _ _ _ _ qA.2.2⟩
          B := fun hd => by
            rw [o' 6 (by decide)] at hd; rw [v' _ 6 (by decide), o' 8 (by decide)]
            have q := T.B hd
            exact ⟨q.1, q.2.1, by rw [setRow_other _ _ _ _ (fun e => T.ab dA1 hd e.symm)]; exact q.2.2⟩
          ab := fun q1 q2 => by rw [o' 5 (by decide)] at q1; rw [o' 6 (by decide)] at q2; exact T.ab q1 q2
          ac := fun q1 q2 => by rw [o' 5 (by decide)] at q1; rw [oh (by decide)] at q2; exact T.ac q1 q2
          bc := fun q1 q2 => by rw [o' 6 (by decide)] at q1; rw [oh (by decide)] at q2; exact T.bc q1 q2
          f := fun hd => by rw [o' 9 (by decide)] at hd; rw [v' _ 9 (by decide)]; exact T.f hd
        }, fun hd => S (by have hd' : (if h = h + 7 then true else done h) = true := hd; rw [oh (by decide)] at hd'; exact hd')⟩
    · have hoc : o = oT := by rw [hT] at ho; exact (Option.some.inj ho).symm
      subst hoc
      have dA1 := hdep _ eT
      have dX1 := hdep _ eT0
      have dC : done h = true := hcl _ _ em (hcl _ _ e1 dX1)
      have s9 := S dC
      have qA := T.B dA1
      rw [if_neg (by rw [hno]; decide)] at qA
      refine sh.wp_store_row tB (.tmp sB) (.tmp s1) pT bB y (eval_tmp ((hslot _ oB sB hB dB dA1).trans (congrArg some qA.1))) (eval_tmp ((hslot _ o1 s1 h1 d1 dX1).trans (congrArg some (T.e1 dX1)))) tB _ qA.2.2 s9.2.2.2.1 s9.2.2.2.2.1 s9.2.2.2.2.2 ⟨_, rfl, x, y, z, lo, hi, bA, bB, {
          bel := below_setRow T.bel qA.2.1 _
          head := hhd _
          c := fun hd => by
            rw [oh (by decide)] at hd; rw [vh _ (by decide)]
            have q := T.c hd
            have q9 := T.bc dA1 hd
            exact ⟨q.1, hΦ _ _ _ _ _ _ _ q.2.1 fun b h1 h2 => setRow_other _ _ _ _ (by omega), by rw [size_setRow]; exact q.2.2⟩
          m := fun hd => by rw [o' 1 (by decide)] at hd; rw [v' _ 1 (by decide)]; exact T.m hd
          e0 := fun hd => by rw [o' 2 (by decide)] at hd; rw [v' _ 2 (by decide)]; exact T.e0 hd
          e1 := fun hd => by rw [o' 3 (by decide)] at hd; rw [v' _ 3 (by decide)]; exact T.e1 hd
          e2 := fun hd => by rw [o' 4 (by decide)] at hd; rw [v' _ 4 (by decide)]; exact T.e2 hd
          A := fun hd => by
            rw [o' 5 (by decide)] at hd; rw [v' _ 5 (by decide), o' 7 (by decide)]
            have q := T.A hd
            exact ⟨q.1, q.2.1, by rw [setRow_other _ _ _ _ (T.ab hd dA1)]; exact q.2.2⟩
          B := fun _ => ⟨by rw [v' _ 6 (by decide)]; exact qA.1, qA.2.1, by rw [if_pos (if_pos rfl)]; exact setRow_heap _ _ _ _ _ _ qA.2.2⟩
          ab := fun q1 q2 => by rw [o' 5 (by decide)] at q1; rw [o' 6 (by decide)] at q2; exact T.ab q1 q2
          ac := fun q1 q2 => by rw [o' 5 (by decide)] at q1; rw [oh (by decide)] at q2; exact T.ac q1 q2
          bc := fun q1 q2 => by rw [o' 6 (by decide)] at q1; rw [oh (by decide)] at q2; exact T.bc q1 q2
          f := fun hd => by rw [o' 9 (by decide)] at hd; rw [v' _ 9 (by decide)]; exact T.f hd
        }, fun hd => S (by have hd' : (if h = h + 8 then true else done h) = true := hd; rw [oh (by decide)] at hd'; exact hd')⟩
    · have hoc : o = of := by rw [hfi] at ho; exact (Option.some.inj ho).symm
      subst hoc
      refine wp_value (z) (by unfold execOp; simp only [pf]; rw [eval_tmp ((hslot (h + 4) o2 s2 h2 d2 (hdep _ ef)).trans (congrArg some (T.e2 (hdep _ ef))))]; rfl) ⟨_, rfl, x, y, z, lo, hi, bA, bB, {
          bel := T.bel
          head := hhd _
          c := fun hd => by rw [oh (by decide)] at hd; rw [vh _ (by decide)]; exact T.c hd
          m := fun hd => by rw [o' 1 (by decide)] at hd; rw [v' _ 1 (by decide)]; exact T.m hd
          e0 := fun hd => by rw [o' 2 (by decide)] at hd; rw [v' _ 2 (by decide)]; exact T.e0 hd
          e1 := fun hd => by rw [o' 3 (by decide)] at hd; rw [v' _ 3 (by decide)]; exact T.e1 hd
          e2 := fun hd => by rw [o' 4 (by decide)] at hd; rw [v' _ 4 (by decide)]; exact T.e2 hd
          A := fun hd => by rw [o' 5 (by decide)] at hd; rw [v' _ 5 (by decide), o' 7 (by decide)]; exact T.A hd
          B := fun hd => by rw [o' 6 (by decide)] at hd; rw [v' _ 6 (by decide), o' 8 (by decide)]; exact T.B hd
          ab := fun q1 q2 => by rw [o' 5 (by decide)] at q1; rw [o' 6 (by decide)] at q2; exact T.ab q1 q2
          ac := fun q1 q2 => by rw [o' 5 (by decide)] at q1; rw [oh (by decide)] at q2; exact T.ac q1 q2
          bc := fun q1 q2 => by rw [o' 6 (by decide)] at q1; rw [oh (by decide)] at q2; exact T.bc q1 q2
          f := fun _ => upd_same _ _ _
        }, fun hd => S (by have hd' : (if h = h + 9 then true else done h) = true := hd; rw [oh (by decide)] at hd'; exact hd')⟩
  · rintro vals w ⟨x, y, z, lo, hi, bA, bB, T, S⟩
    have d : ∀ k, k < 10 → (decide (h + k < l.length)) = true := fun k hk => by simp; omega
    obtain ⟨q1, q2, q3⟩ := T.c (by simp; omega)
    obtain ⟨r1, r2, r3⟩ := T.A (d 5 (by omega))
    obtain ⟨u1, u2, u3⟩ := T.B (d 6 (by omega))
    rw [if_pos (d 7 (by omega))] at r3
    rw [if_pos (d 8 (by omega))] at u3
    have hq := hend x y z lo hi bA bB w T.bel q2 q3 r3 u3 r2 u2 (T.ab (d 5 (by omega)) (d 6 (by omega))) (T.ac (d 5 (by omega)) (by simp; omega)) (T.bc (d 6 (by omega)) (by simp; omega))
    rw [putAll_congr l 0 vals _ a0 (fun j o ho hn => ?_)]
    · exact hq
    · have hj : j < h + 10 := by rw [← hlen]; exact (List.getElem?_eq_some_iff.1 ho).1
      rw [Nat.zero_add]
      by_cases hjh : j < h
      · rw [List.getD_eq_getElem?_getD, List.getElem?_append_left (by omega), List.getElem?_eq_getElem (by omega)]
        exact T.head j _ (List.getElem?_eq_getElem (by omega)) (by simp; omega)
      · obtain ⟨k, rfl⟩ : ∃ k, j = h + k := ⟨j - h, by omega⟩
        rw [List.getD_eq_getElem?_getD, List.getElem?_append_right (by omega), hH, show h + k - h = k by omega]
        obtain rfl | rfl | rfl | rfl | rfl | rfl | rfl | rfl | rfl | rfl : k = 0 ∨ k = 1 ∨ k = 2 ∨ k = 3 ∨ k = 4 ∨ k = 5 ∨ k = 6 ∨ k = 7 ∨ k = 8 ∨ k = 9 := by omega
        · exact q1
        · exact T.m (d 1 (by omega))
        · exact T.e0 (d 2 (by omega))
        · exact T.e1 (d 3 (by omega))
        · exact T.e2 (d 4 (by omega))
        · exact r1
        · exact u1
        · rw [hS] at ho; cases ho; exact absurd dS hn
        · rw [hT] at ho; cases ho; exact absurd dT hn
        · exact T.f (d 9 (by omega))
end Go.Proofs.Ytphbkbjgjicncaa
