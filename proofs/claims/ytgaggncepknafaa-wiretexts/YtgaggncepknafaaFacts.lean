/-
  A region that draws its order, walked once in the text's order over a frame of which only some slots are known by name. No program is named here.
-/
import Derived.Test.YtgaggncepknafaaQuiet
import Derived.Test.YtgaggncepknafaaAny
namespace Go.Proofs.Ytgaggncepknafaa
open Go Go.RowKit

/-- What is known of a slot. -/
def lk : List (Nat × Value) → Nat → Option Value
  | [], _ => none
  | p :: L, n => bif p.1 == n then some p.2 else lk L n
/-- A frame of N slots, of which these are known. -/
structure Fr (N : Nat) (L : List (Nat × Value)) (a : Act) : Prop where
  size : a.tmps.size = N
  none : a.defers = []
  has : ∀ t v, lk L t = some v → a.tmps.getD t undef = v
def HasAll (a : Act) : List (Nat × Value) → Prop
  | [] => True
  | p :: L => a.tmps.getD p.1 undef = p.2 ∧ HasAll a L
theorem HasAll.has {a : Act} : ∀ {L : List (Nat × Value)}, HasAll a L → ∀ t v, lk L t = some v → a.tmps.getD t undef = v
  | [], _, t, v, h => by cases h
  | p :: L, hh, t, v, h => by
    unfold lk at h
    by_cases e : p.1 = t
    · subst e; simp at h; rw [← h]; exact hh.1
    · rw [show (p.1 == t) = false by simpa using e] at h
      exact HasAll.has hh.2 t v h
theorem Fr.of {a : Act} {N : Nat} {L : List (Nat × Value)} (h1 : a.tmps.size = N) (h2 : a.defers = []) (h : HasAll a L) : Fr N L a := ⟨h1, h2, h.has⟩
theorem Fr.put {N : Nat} {L : List (Nat × Value)} {a : Act} (h : Fr N L a) (d : Nat) (hd : d < N) (v : Value) : Fr N ((d, v) :: L) (a.put (some d) v) := by
  refine ⟨?_, h.none, ?_⟩
  · show (a.tmps.setIfInBounds d v).size = N; rw [Array.size_setIfInBounds]; exact h.size
  · intro t u hu
    unfold lk at hu
    show (a.tmps.setIfInBounds d v).getD t undef = u
    by_cases e : d = t
    · subst e
      simp at hu
      rw [← hu]
      simp [h.size, hd]
    · have e' : (d == t) = false := by simpa using e
      simp only [e', cond_false] at hu
      rw [← h.has t u hu]
      simp [Array.getElem?_setIfInBounds_ne e]
/-- What an operand is. -/
def rd (L : List (Nat × Value)) : Operand → Option Value
  | .tmp t => lk L t
  | .const v => some v
  | .func f => some (.func (.func f) #[] #[])
  | .global g => some (.pointer (some ⟨g, 0, none⟩))
theorem Fr.rd {N : Nat} {L : List (Nat × Value)} {a : Act} (h : Fr N L a) (x : Operand) (v : Value) (hx : rd L x = some v) : a.eval x = v := by
  cases x with
  | tmp t => exact h.has t v hx
  | const u => exact Option.some.inj hx
  | func f => exact Option.some.inj hx
  | global g => exact Option.some.inj hx

variable {P : Program} {ops : Array Oper} {C : World → Prop} {Q : Act → Prop} {o : Oper} {rest : List Oper} {L : List (Nat × Value)} {N : Nat}

/-- An operation that is to be done. -/
def Want (ops : Array Oper) (o : Oper) (L : List (Nat × Value)) : Prop :=
  o.guard = none ∨ ∃ (j d : Nat) (b : Bool), o.guard = some (j, b) ∧ (ops[j]?).bind (·.dst) = some d ∧ lk L d = some (.bool b)
theorem Want.free (h : o.guard = none) : Want ops o L := .inl h
theorem Want.on (j d : Nat) (b : Bool) (hg : o.guard = some (j, b)) (hd : (ops[j]?).bind (·.dst) = some d) (hl : lk L d = some (.bool b)) : Want ops o L := .inr ⟨j, d, b, hg, hd, hl⟩
/-- An operation that is left out. -/
def Off (ops : Array Oper) (o : Oper) (L : List (Nat × Value)) : Prop :=
  ∃ (j d : Nat) (b : Bool), o.guard = some (j, b) ∧ (ops[j]?).bind (·.dst) = some d ∧ (lk L d = some (.bool (!b)) ∨ lk L d = some undef)
theorem Off.no (j d : Nat) (b : Bool) (hg : o.guard = some (j, b)) (hd : (ops[j]?).bind (·.dst) = some d) (hl : lk L d = some (.bool (!b))) : Off ops o L := ⟨j, d, b, hg, hd, .inl hl⟩
theorem Off.un (j d : Nat) (b : Bool) (hg : o.guard = some (j, b)) (hd : (ops[j]?).bind (·.dst) = some d) (hl : lk L d = some undef) : Off ops o L := ⟨j, d, b, hg, hd, .inr hl⟩
theorem yielded_at {a : Act} (h : Fr N L a) {j d : Nat} {b : Bool} (hd : (ops[j]?).bind (·.dst) = some d) (hl : lk L d = some (.bool b)) : yielded ops a.tmps j = some b := by
  have := h.has d _ hl
  unfold yielded
  rw [hd]
  by_cases e : d < a.tmps.size
  · simp only [Option.bind_some]
    rw [Array.getElem?_eq_getElem e]
    have k : a.tmps[d] = .bool b := by simpa [e] using this
    rw [k]
  · rw [Array.getD_eq_getD_getElem?, Array.getElem?_eq_none (by omega)] at this
    cases this
theorem yielded_un {a : Act} (h : Fr N L a) {j d : Nat} (hd : (ops[j]?).bind (·.dst) = some d) (hl : lk L d = some undef) : yielded ops a.tmps j = none := by
  have := h.has d _ hl
  unfold yielded
  rw [hd]
  by_cases e : d < a.tmps.size
  · simp only [Option.bind_some]
    rw [Array.getElem?_eq_getElem e]
    have k : a.tmps[d] = undef := by simpa [e] using this
    rw [k]; rfl
  · simp only [Option.bind_some]
    rw [Array.getElem?_eq_none (by omega)]
theorem Want.yes {a : Act} (hw : Want ops o L) (h : Fr N L a) : Region.wanted o (yielded ops a.tmps) = true := by
  unfold Region.wanted
  rcases hw with hg | ⟨j, d, b, hg, hd, hl⟩
  · rw [hg]
  · rw [hg]; simp only; rw [yielded_at h hd hl]; simp
theorem Off.no' {a : Act} (hw : Off ops o L) (h : Fr N L a) : Region.wanted o (yielded ops a.tmps) = false := by
  unfold Region.wanted
  obtain ⟨j, d, b, hg, hd, hl | hl⟩ := hw
  · rw [hg]; simp only; rw [yielded_at h hd hl]; cases b <;> rfl
  · rw [hg]; simp only; rw [yielded_un h hd hl]; rfl

/-- The walk from here on, in whatever frame these slots are known. -/
def WQ (P : Program) (ops : Array Oper) (C : World → Prop) (Q : Act → Prop) (N : Nat) (rest : List Oper) (L : List (Nat × Value)) : Prop := ∀ a, Fr N L a → wpQuiet P ops C Q rest a
theorem wq_nil (h : ∀ a, Fr N L a → Q a) : WQ P ops C Q N [] L := fun a ha => wpQuiet_nil (h a ha)
theorem wq_off (hw : Off ops o L) (d : Nat) (hd : o.dst = some d) (hN : d < N) (h : WQ P ops C Q N rest ((d, undef) :: L)) : WQ P ops C Q N (o :: rest) L := fun a ha => by
  unfold wpQuiet
  rw [if_neg (by rw [hw.no' ha]; simp), hd]
  exact h _ (ha.put d hN _)
theorem wq_val (hw : Want ops o L) (d : Nat) (hd : o.dst = some d) (hN : d < N) (v : Value) (hv : ∀ a, Fr N L a → ∀ w, C w → (execOp a.eval o).run P w = .ok (.value v) w) (h : WQ P ops C Q N rest ((d, v) :: L)) : WQ P ops C Q N (o :: rest) L := fun a ha =>
  wpQuiet_val (hw.yes ha) v (hv a ha) (by rw [hd]; exact h _ (ha.put d hN v))
/-- What is known may be forgotten: the first stays, the next k go. -/
theorem lk_drop : ∀ {k : Nat} {M : List (Nat × Value)}, (M.take k).all (fun q => (M.drop k).all fun r => !(r.1 == q.1)) = true → ∀ t v, lk (M.drop k) t = some v → lk M t = some v := by
  intro k M
  induction k generalizing M with
  | zero => intro _ t v h; exact h
  | succ k ih =>
    cases M with
    | nil => intro _ t v h; cases h
    | cons q M =>
      intro hall t v h
      rw [List.take_succ_cons, List.drop_succ_cons, List.all_cons, Bool.and_eq_true] at hall
      rw [List.drop_succ_cons] at h
      have h2 := ih hall.2 t v h
      unfold lk
      by_cases e : q.1 = t
      · exfalso
        have key : ∀ R : List (Nat × Value), (R.all fun r => !(r.1 == q.1)) = true → lk R t = none := by
          intro R
          induction R with
          | nil => intro _; rfl
          | cons r R ihr =>
            intro hr
            rw [List.all_cons, Bool.and_eq_true] at hr
            unfold lk
            have : (r.1 == t) = false := by rw [← e]; simpa using hr.1
            rw [this]
            exact ihr hr.2
        rw [key _ hall.1] at h
        cases h
      · rw [show (q.1 == t) = false by simpa using e]
        exact h2
theorem Fr.drop {p : Nat × Value} {M : List (Nat × Value)} {a : Act} (k : Nat) (hk : (M.take k).all (fun q => (M.drop k).all fun r => !(r.1 == q.1)) = true) (h : Fr N (p :: M) a) : Fr N (p :: M.drop k) a := by
  refine ⟨h.size, h.none, fun t v hv => h.has t v ?_⟩
  unfold lk at hv ⊢
  cases e : p.1 == t with
  | true => rw [e] at hv; exact hv
  | false => rw [e] at hv; exact lk_drop hk t v hv
theorem wq_drop {p : Nat × Value} {M : List (Nat × Value)} (k : Nat) (hk : (M.take k).all (fun q => (M.drop k).all fun r => !(r.1 == q.1)) = true) (h : WQ P ops C Q N rest (p :: M.drop k)) : WQ P ops C Q N rest (p :: M) := fun a ha => h a (ha.drop k hk)

/-- Two ways that come to the same. -/
theorem wq_join (k : Nat) (L1 : List (Nat × Value)) (h1 : WQ P ops C Q N (rest.drop k) L1) (h2 : WQ P ops C Q N (rest.drop k) L1 → WQ P ops C Q N rest L) : WQ P ops C Q N rest L := h2 h1
theorem wq_move (hw : Want ops o L) (d : Nat) (hd : o.dst = some d) (hN : d < N) (x : Operand) (ho : o.op = .move x ∨ o.op = .assign x) (v : Value) (hx : rd L x = some v) (h : WQ P ops C Q N rest ((d, v) :: L)) : WQ P ops C Q N (o :: rest) L :=
  wq_val hw d hd hN v (fun a ha w _ => by
    have e := ha.rd x v hx
    unfold execOp; rcases ho with ho | ho <;> simp only [ho, e, Sem.run_pure]) h
theorem wq_not (hw : Want ops o L) (d : Nat) (hd : o.dst = some d) (hN : d < N) (t : TypeId) (x : Operand) (ho : o.op = .unOp .not t x) (b : Bool) (hx : rd L x = some (.bool b)) (r : Bool) (hr : (!b) = r) (h : WQ P ops C Q N rest ((d, .bool r) :: L)) : WQ P ops C Q N (o :: rest) L :=
  wq_val hw d hd hN _ (fun a ha w _ => by unfold execOp; simp only [ho, ha.rd x _ hx]; subst hr; simp [Op.unary, go_sem]) h
theorem wq_pick (hw : Want ops o L) (d : Nat) (hd : o.dst = some d) (hN : d < N) (c x y : Operand) (ho : o.op = .pick c x y) (b : Bool) (hc : rd L c = some (.bool b)) (v : Value) (hx : (bif b then rd L x else rd L y) = some v) (h : WQ P ops C Q N rest ((d, v) :: L)) : WQ P ops C Q N (o :: rest) L :=
  wq_val hw d hd hN v (fun a ha w _ => by
    have h1 := ha.rd c _ hc
    cases b with
    | true => have h2 := ha.rd x v hx; unfold execOp; simp [ho, h1, h2, asBool]
    | false => have h2 := ha.rd y v hx; unfold execOp; simp [ho, h1, h2, asBool]) h
theorem wq_seq (hw : Want ops o L) (d : Nat) (hd : o.dst = some d) (hN : d < N) (t t' : TypeId) (x y : Operand) (ho : o.op = .binOp .eql t x y t') (s1 s2 : ByteArray) (hx : rd L x = some (.string s1)) (hy : rd L y = some (.string s2)) (r : Bool) (hr : (li s1 == li s2) = r)
    (h : WQ P ops C Q N rest ((d, .bool r) :: L)) : WQ P ops C Q N (o :: rest) L :=
  wq_val hw d hd hN _ (fun a ha w _ => by
    have e : (s1.toList == s2.toList) = r := by rw [← hr, toList_li, toList_li]
    unfold execOp; simp only [ho, ha.rd x _ hx, ha.rd y _ hy]; simp [eqGuard, go_sem, e]) h
theorem wq_sne (hw : Want ops o L) (d : Nat) (hd : o.dst = some d) (hN : d < N) (t t' : TypeId) (x y : Operand) (ho : o.op = .binOp .neq t x y t') (s1 s2 : ByteArray) (hx : rd L x = some (.string s1)) (hy : rd L y = some (.string s2)) (r : Bool) (hr : (!(li s1 == li s2)) = r)
    (h : WQ P ops C Q N rest ((d, .bool r) :: L)) : WQ P ops C Q N (o :: rest) L :=
  wq_val hw d hd hN _ (fun a ha w _ => by
    have e : (!(s1.toList == s2.toList)) = r := by rw [← hr, toList_li, toList_li]
    unfold execOp; simp only [ho, ha.rd x _ hx, ha.rd y _ hy, binOp_string_neq]; rw [e]; simp [eqGuard, go_sem]) h
theorem wq_cat (hw : Want ops o L) (d : Nat) (hd : o.dst = some d) (hN : d < N) (t t' : TypeId) (x y : Operand) (ho : o.op = .binOp .add t x y t') (s1 s2 : ByteArray) (hx : rd L x = some (.string s1)) (hy : rd L y = some (.string s2)) (hz : s1.size + s2.size ≤ 9223372036854775807)
    (h : WQ P ops C Q N rest ((d, .string (s1 ++ s2)) :: L)) : WQ P ops C Q N (o :: rest) L :=
  wq_val hw d hd hN _ (fun a ha w _ => by unfold execOp; simp only [ho, ha.rd x _ hx, ha.rd y _ hy]; simp [eqGuard, binOp, go_sem, hz]) h
theorem wq_ieq (hw : Want ops o L) (d : Nat) (hd : o.dst = some d) (hN : d < N) (t t' : TypeId) (x y : Operand) (ho : o.op = .binOp .eql t x y t') (k : IntKind) (m n : Int) (hx : rd L x = some (.int k m)) (hy : rd L y = some (.int k n)) (r : Bool) (hr : (m == n) = r)
    (h : WQ P ops C Q N rest ((d, .bool r) :: L)) : WQ P ops C Q N (o :: rest) L :=
  wq_val hw d hd hN _ (fun a ha w _ => by unfold execOp; simp only [ho, ha.rd x _ hx, ha.rd y _ hy]; simp [eqGuard, binOp, Op.intCmp, go_sem, hr]) h
theorem wq_icmp (hw : Want ops o L) (d : Nat) (hd : o.dst = some d) (hN : d < N) (op : BinOp) (t t' : TypeId) (x y : Operand) (ho : o.op = .binOp op t x y t') (k : IntKind) (m n : Int) (hx : rd L x = some (.int k m)) (hy : rd L y = some (.int k n)) (r : Bool)
    (hr : (match op with | .lss => decide (m < n) | .leq => decide (m ≤ n) | .gtr => decide (n < m) | .geq => decide (n ≤ m) | .eql => m == n | .neq => m != n | _ => !r) = r)
    (h : WQ P ops C Q N rest ((d, .bool r) :: L)) : WQ P ops C Q N (o :: rest) L :=
  wq_val hw d hd hN _ (fun a ha w _ => by
    unfold execOp
    simp only [ho, ha.rd x _ hx, ha.rd y _ hy]
    cases op <;> simp only at hr <;> first | (cases r <;> cases hr; done) | (subst hr; simp [eqGuard, binOp, Op.intCmp, go_sem])) h
theorem wq_beq (hw : Want ops o L) (d : Nat) (hd : o.dst = some d) (hN : d < N) (t t' : TypeId) (x y : Operand) (ho : o.op = .binOp .eql t x y t') (m n : Bool) (hx : rd L x = some (.bool m)) (hy : rd L y = some (.bool n)) (ht : P.underlying t = some .bool) (r : Bool) (hr : (m == n) = r)
    (h : WQ P ops C Q N rest ((d, .bool r) :: L)) : WQ P ops C Q N (o :: rest) L :=
  wq_val hw d hd hN _ (fun a ha w _ => by
    unfold execOp; rw [← hr]; simp only [ho, ha.rd x _ hx, ha.rd y _ hy]; simp [eqGuard, binOp, Op.equal, run_equalIn_bool w 9999 t m n ht, Op.maxDepth, go_sem]) h
theorem wq_deq (hw : Want ops o L) (d : Nat) (hd : o.dst = some d) (hN : d < N) (t t' : TypeId) (x y : Operand) (ho : o.op = .binOp .eql t x y t') (c e : Array Value) (hx : rd L x = some (.agg c)) (hy : rd L y = some (.agg e)) (hp : P.eqGuardType P.depth t = false) (r : Bool) (hr : ∀ w, (Op.equalIn 10000 t (.agg c) (.agg e)).run P w = .ok r w)
    (h : WQ P ops C Q N rest ((d, .bool r) :: L)) : WQ P ops C Q N (o :: rest) L :=
  wq_val hw d hd hN _ (fun a ha w _ => by unfold execOp; simp only [ho, ha.rd x _ hx, ha.rd y _ hy]; simp [eqGuard, hp, run_eql_struct, hr, go_sem]) h
theorem wq_len (hw : Want ops o L) (d : Nat) (hd : o.dst = some d) (hN : d < N) (t : TypeId) (x : Operand) (ho : o.op = .call { callee := .builtin .len, args := #[x], argTypes := #[t] }) (s : ByteArray) (hx : rd L x = some (.string s)) (ht : P.underlying t = some .string)
    (h : WQ P ops C Q N rest ((d, .int .i64 (s.size : Int)) :: L)) : WQ P ops C Q N (o :: rest) L :=
  wq_val hw d hd hN _ (fun a ha w _ => by
    have e := ha.rd x _ hx
    unfold execOp; simp only [ho]; simp only [resolve, List.map_toArray, List.map_cons, List.map_nil, e]; simp [invoke, builtin, Builtin.len_, run_underlying ht, goInt, go_sem]) h
theorem wq_load (hw : Want ops o L) (d : Nat) (hd : o.dst = some d) (hN : d < N) (ty : TypeId) (x : Operand) (ho : o.op = .load ty x) (b : Nat) (hx : rd L x = some (.pointer (some ⟨b, 0, none⟩))) (t : TypeId) (c : Array Value) (ds : TypeDesc)
    (hg : ∀ w, C w → w.heap[b]? = some (.cells c t)) (hu : P.underlying ty = some ds) (hda : (match ds with | .struct _ | .array _ _ => true | _ => false) = true) (hi : (P.info? ty).map (·.size) = some c.size)
    (h : WQ P ops C Q N rest ((d, .agg c) :: L)) : WQ P ops C Q N (o :: rest) L :=
  wq_val hw d hd hN _ (fun a ha w hC => by
    unfold execOp
    simp only [ho, ha.rd x _ hx, Instr.loadAt, Instr.sureAddr, Sem.run_bind, Sem.run_pure, Result.andThen_ok, run_loadVar_row w b t ty c (0, 0) ds (hg w hC) hu hda hi]) h
theorem wq_call (hw : Want ops o L) (d : Nat) (hd : o.dst = some d) (hN : d < N) (f : FuncId) (xs : Array Operand) (ts : Array TypeId) (ho : o.op = .call { callee := .value (.func f), args := xs, argTypes := ts })
    (he : ∀ args w, (callFunc f args).run P w = .ok (.enter f args) w) (vs : List Value) (hx : xs.toList.map (rd L) = vs.map some) (v : Value) (hc : ∀ w, C w → Calls P f vs.toArray w fun e w' => e = .returned v ∧ C w')
    (h : WQ P ops C Q N rest ((d, v) :: L)) : WQ P ops C Q N (o :: rest) L := fun a ha =>
  wpQuiet_call (hw.yes ha) f xs ts ho he vs.toArray (by
    have key : ∀ (l : List Operand) (us : List Value), l.map (rd L) = us.map some → l.map a.eval = us := fun l => by
      induction l with
      | nil => intro us h; cases us with
        | nil => rfl
        | cons u us => cases h
      | cons x l ih => intro us h; cases us with
        | nil => cases h
        | cons u us =>
          rw [List.map_cons, List.map_cons] at h
          injection h with h1 h2
          rw [List.map_cons, ih us h2, ha.rd x u h1]
    have := key xs.toList vs hx
    rw [← this]
    cases xs; simp) v hc (by rw [hd]; exact h _ (ha.put d hN v))
/-- A walk stops at a region that draws its order. -/
theorem park_region {id : Nat} {Q : Exit → Act → World → Prop} {a : Act} {w : World} (h : ∀ X : Prop, Hid ((Code.region id ops true).wp P Q a w → X) → X) : (Code.region id ops true).wp P Q a w := h _ (fun k => k)
theorem wpList_of_quiet {Q : Exit → Act → World → Prop} : ∀ (l : List Oper) (a : Act) (w : World), C w → wpQuiet P ops C (fun a' => ∀ w', C w' → Q .normal a' w') l a → wpList P ops Q l a w
  | [], a, w, hC, h => h w hC
  | o :: l, a, w, hC, h => by
    unfold wpQuiet at h
    unfold wpList
    split
    · rename_i hw
      rw [if_pos hw] at h
      exact .inl (Oper.wp_of_quiet hC (fun a' w' hC' h' => wpList_of_quiet l a' w' hC' h') h)
    · rename_i hw
      rw [if_neg hw] at h
      exact wpList_of_quiet l _ w hC h
/-- A region that keeps the text's order, in a class of worlds. -/
theorem wp_region_still {id : Nat} {Q : Exit → Act → World → Prop} {a : Act} {w : World} {l : List Oper} (C : World → Prop) (hC : C w)
    (h : wpQuiet P l.toArray C (fun a' => ∀ w', C w' → Q .normal a' w') l a) : (Code.region id l.toArray false).wp P Q a w :=
  wp_region_list (wpList_of_quiet _ a w hC h)
theorem bodyPost_tmp {fn : Func} {R : Ending → World → Prop} {a : Act} {w : World} (t : Tmp) (v : Value) (h : fn.results = #[.tmp t]) (hr : a.tmps.getD t undef = v) (hd : a.defers = []) (hR : R (.returned v) w) : bodyPost P fn R .ret a w :=
  bodyPost_ret (by rw [results_tmp h, hr]) hd hR
/-- The class of worlds in which nothing that was there has turned. -/
theorem below_call {v0 : World} {f : FuncId} {vs : Array Value} {r : Value} (h : ∀ v, Calls P f vs v fun e v' => e = .returned r ∧ Below v.heap.size v v') : ∀ w, Below v0.heap.size v0 w → Calls P f vs w fun e w' => e = .returned r ∧ Below v0.heap.size v0 w' := fun w hw =>
  (h w).mono (by rintro e w' ⟨he, hb⟩; exact ⟨he, hw.trans (hb.mono hw.size)⟩)
theorem below_blk {v0 w : World} {b : Nat} {x : Obj} (h0 : v0.heap[b]? = some x) (h : Below v0.heap.size v0 w) : w.heap[b]? = some x := (h.block _ (lt_of_some h0)).trans h0
end Go.Proofs.Ytgaggncepknafaa
