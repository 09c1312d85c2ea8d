/-
  The heads of a chain: what 'Start' and 'Next' return.
-/
import Derived.Test.YtfilolmbppjbjaaGreatGevent
import Derived.Test.YtfilolmbppjbjaaGreatGsha
namespace Go.Proofs.YtfilolmbppjbjaaGreat
open Go Go.RowKit

def CEN : List UInt8 := [99, 101, 110, 111, 116, 97, 112, 104]
def sha (l : List UInt8) : List UInt8 := sh.sha l
theorem sha_len (l : List UInt8) : (sha l).length = 32 := sh.sha_length l
def startD : List UInt8 := sha CEN
/-- The bytes of an event. -/
def putE (e : Ev) : List UInt8 := putL (partsOf e)
def nextD (d : List UInt8) (e : Ev) : List UInt8 := sha (d ++ putE e)
theorem nextD_len (d : List UInt8) (e : Ev) : (nextD d e).length = 32 := sha_len _
/-- An event that is walked. -/
structure Ev.fit (e : Ev) : Prop where
  w : e.wf
  n : e.name.length ≤ 100
theorem putL_len (l : List Pt) (m : Nat) (h : ∀ p ∈ l, (putP p).length ≤ m) : (putL l).length ≤ l.length * m := by
  induction l with
  | nil => simp [putL]
  | cons p l ih =>
    have h1 := h p (by simp)
    have h2 := ih (fun q hq => h q (by simp [hq]))
    have h3 : putL (p :: l) = putP p ++ putL l := by simp [putL]
    rw [h3, List.length_append, List.length_cons, Nat.add_mul]
    omega
theorem putP_less (p : Pt) (hf : p.fine) (hs : ∀ l, p = .label l → l.length ≤ 100) : (putP p).length ≤ 108 := by
  cases p with
  | label l =>
    have h := text_size l
    have hs' := hs l rfl
    show (text l).length ≤ _; omega
  | sum d => have h : d.length = 32 := hf; show d.length ≤ _; omega
  | kind n => have h := num_len9 (clI n); show (num (clI n)).length ≤ _; omega
  | id n => have h := num_len9 (clI n); show (num (clI n)).length ≤ _; omega
  | moment n => have h := num_len9 (clI n); show (num (clI n)).length ≤ _; omega
  | added n => have h := num_len9 (clI n); show (num (clI n)).length ≤ _; omega
  | length n => have h := num_len9 (clI n); show (num (clI n)).length ≤ _; omega
theorem partsOf_label (e : Ev) (hs : e.name.length ≤ 100) : ∀ p ∈ partsOf e, ∀ l, p = .label l → l.length ≤ 100 := by
  have h : ∀ l, aboutP e ≠ .label l := by intro l; unfold aboutP; split <;> (intro h; cases h)
  unfold partsOf
  intro p hp
  have hP : ∀ q : Pt, (∀ l, q ≠ .label l) → ∀ l, q = .label l → l.length ≤ 100 := fun q hq l hl => absurd hl (hq l)
  have hN : ∀ l, Pt.label e.name = .label l → l.length ≤ 100 := fun l hl => by injection hl with hl; rw [← hl]; exact hs
  repeat' split at hp
  all_goals (simp only [List.mem_cons, List.not_mem_nil, or_false] at hp; rcases hp with rfl | rfl | rfl | rfl | rfl) <;> first | exact hN | exact hP _ h | exact hP _ (fun _ h => by cases h)
theorem putE_len (e : Ev) (h : e.fit) : (putE e).length ≤ 540 := by
  have h1 := putL_len (partsOf e) 108 (fun p hp => putP_less p (partsOf_fine e h.w.s p hp) (partsOf_label e h.n p hp))
  have h2 := partsOf_len e
  have : (partsOf e).length * 108 ≤ 5 * 108 := Nat.mul_le_mul_right _ h2
  unfold putE; omega

theorem results_row2 {P : Program} {fn : Func} {p q : Tmp} {ty : TypeId} (h : fn.results = #[.cell p ty, .tmp q]) (tmps : Array Value) (b : Nat) (hp : tmps.getD p undef = .pointer (some ⟨b, 0, none⟩)) (v1 : Value) (h1 : tmps.getD q undef = v1) (w : World) (t : TypeId) (c : Array Value) (d : TypeDesc)
    (hg : w.heap[b]? = some (.cells c t)) (hu : P.underlying ty = some d) (hd : (match d with | .struct _ | .array _ _ => true | _ => false) = true) (hi : (P.info? ty).map (·.size) = some c.size) :
    (results fn tmps).run P w = .ok (.tuple #[.agg c, v1]) w := by
  have := run_loadVar_row (P := P) w b t ty c (0, 0) d hg hu hd hi
  simp only [results, h]
  have hp' : tmps[p]?.getD undef = .pointer (some ⟨b, 0, none⟩) := by simpa using hp
  have h1' : tmps[q]?.getD undef = v1 := by simpa using h1
  simp [hp', h1', this, asAddr]
theorem bodyPost_row2 {P : Program} {fn : Func} {R : Ending → World → Prop} {a : Act} {w : World} (p q : Tmp) (ty : TypeId) (h : fn.results = #[.cell p ty, .tmp q]) (b : Nat) (hp : a.tmps.getD p undef = .pointer (some ⟨b, 0, none⟩)) (v1 : Value) (h1 : a.tmps.getD q undef = v1) (t : TypeId) (c : Array Value) (d : TypeDesc)
    (hg : w.heap[b]? = some (.cells c t)) (hu : P.underlying ty = some d) (hd : (match d with | .struct _ | .array _ _ => true | _ => false) = true) (hi : (P.info? ty).map (·.size) = some c.size)
    (hdf : a.defers = []) (hR : R (.returned (.tuple #[.agg c, v1])) w) : bodyPost P fn R .ret a w :=
  bodyPost_ret (results_row2 h a.tmps b hp v1 h1 w t c d hg hu hd hi) hdf hR

theorem zero26 (w : World) : (zeroValue 23).run Tryz.prog w = .ok (.agg (row zs)) w := (Tryz.zeroValue23 w).trans rfl
theorem row26 (d : List UInt8) (hd : d.length = 32) : (Tryz.prog.info? 23).map (·.size) = some (row d).size := by rw [row_size, hd]; exact info28
theorem row_eq (c d : List UInt8) (hc : c.length = 32) (hd : d.length = 32) : (row c).size = (row d).size := by rw [row_size, row_size, hc, hd]
theorem build26 (v : World) : (Instr.build 23 #[]).run Tryz.prog v = .ok (.agg (row zs)) v := run_build v 23 _ _ (by kernel_rfl)
theorem zs_len : zs.length = 32 := rfl

set_option maxRecDepth 100000 in
set_option maxHeartbeats 400000 in
theorem start_any (w : World) :
    Calls Tryz.prog 17 #[] w fun r w' => r = .returned (.agg (row startD)) ∧ Below w.heap.size w w' := by
  have hK0 : Hid (KW w.heap.size w [(w.heap.size, .cells (row zs) 23)] (w.alloc (.cells (row zs) 23))) := Lib.hid ((KW.start w).new _)
  have co : Hid (∀ v, Calls Tryz.prog 18 #[.string ⟨#[99, 101, 110, 111, 116, 97, 112, 104]⟩] v fun e w' => e = .returned (.agg (row startD)) ∧ Below v.heap.size v w') := Lib.hid (fun v => sh.of_any _ (by decide) v)
  have hz := zero26
  have hl : Hid (startD.length = 32) := Lib.hid (sha_len _)
  generalize startD = D at *
  go_enter Tryz.func17, Tryz.ntmps17
  go_wp2_with fail
  refine (co.out _).mono ?_
  rintro r v ⟨rfl, hB⟩
  have hK1 := Lib.hid (hK0.out.past hB)
  have hK2 := Lib.hid (hK1.out.row 0 rfl (Nat.le_refl _) (row D))
  clear hB
  go_wp2_with (with_reducible refine wpList_store_row rfl 23 (.tmp 0) (.tmp 1) rfl _ (row D) rfl rfl 23 _ (hK1.out.at 0 rfl) (row26 D hl.out) (row_eq _ _ zs_len hl.out) (row_one D) ?_)
  exact bodyPost_row 0 23 rfl _ rfl 23 (row D) _ (hK2.out.at 0 rfl) Tryz.underlying23 rfl (row26 D hl.out) rfl ⟨rfl, hK2.out.bel⟩

set_option maxRecDepth 100000 in
set_option maxHeartbeats 400000 in
theorem next_true (d : List UInt8) (hd : d.length = 32) (e : Ev) (he : e.fit) (hv : okP e = true) (w : World) :
    Calls Tryz.prog 11 #[.agg (row d), .agg (evr e)] w fun r w' => r = .returned (.tuple #[.agg (row (nextD d e)), .bool true]) ∧ Below w.heap.size w w' := by
  have hi : Hid ((Tryz.prog.info? 34).map (·.size) = some (evr e).size) := Lib.hid (by rw [evr_size, he.w.s]; exact info41)
  have hK0 : Hid (KW w.heap.size w [(w.heap.size + 1 + 1, .cells (row zs) 23), (w.heap.size + 1, .cells (evr e) 34), (w.heap.size, .cells (row d) 23)] (((w.alloc (.cells (row d) 23)).alloc (.cells (evr e) 34)).alloc (.cells (row zs) 23))) := Lib.hid (by
    have := (((KW.start w).new (.cells (row d) 23)).new (.cells (evr e) 34)).new (.cells (row zs) 23); simpa using this)
  have cp := Lib.hid (fun v => eput_true e he.w (by have := he.n; omega) hv v)
  have hpe : Hid (putL (partsOf e) = putE e) := Lib.hid rfl
  rw [hpe.out] at cp
  have cl : Hid (∀ v, Calls Tryz.prog 22 #[.agg (row d), .string ⟨(putE e).toArray⟩] v fun r w' => r = .returned (.agg (row (nextD d e))) ∧ Below v.heap.size v w') := Lib.hid (fun v => by
    exact sh.link_any d hd ⟨(putE e).toArray⟩ (by rw [mk_size]; have := putE_len e he; omega) v)
  have hz := zero26
  have hl : Hid ((nextD d e).length = 32) := Lib.hid (nextD_len _ _)
  have hd' := Lib.hid hd
  generalize nextD d e = D at *
  clear hpe hv he hd
  go_enter Tryz.func11, Tryz.ntmps11
  go_wp2_with (with_reducible refine wpList_load_row rfl 34 (.tmp 3) rfl _ rfl 34 (evr e) _ (hK0.out.at 1 rfl) Tryz.underlying34 rfl hi.out ?_)
  refine (cp.out _).mono ?_
  rintro r v ⟨rfl, hB⟩
  have hK1 := Lib.hid (hK0.out.past hB)
  clear hB
  go_wp2_with (with_reducible refine wpList_load_row rfl 23 (.tmp 2) rfl _ rfl 23 (row d) _ (hK1.out.at 2 rfl) Tryz.underlying23 rfl (row26 d hd'.out) ?_)
  refine (cl.out _).mono ?_
  rintro r u ⟨rfl, hB⟩
  have hK2 := Lib.hid (hK1.out.past hB)
  have hK3 := Lib.hid (hK2.out.row 0 rfl (by omega) (row D))
  clear hB
  go_wp2_with (with_reducible refine wpList_store_row rfl 23 (.tmp 4) (.tmp 18) rfl _ (row D) rfl rfl 23 _ (hK2.out.at 0 rfl) (row26 D hl.out) (row_eq _ _ zs_len hl.out) (row_one D) ?_)
  exact bodyPost_row2 4 5 23 rfl _ rfl (.bool true) rfl 23 (row D) _ (hK3.out.at 0 rfl) Tryz.underlying23 rfl (row26 D hl.out) rfl ⟨rfl, hK3.out.bel⟩

set_option maxRecDepth 100000 in
set_option maxHeartbeats 400000 in
theorem next_false (d : List UInt8) (_hd : d.length = 32) (e : Ev) (he : e.fit) (hv : okP e = false) (w : World) :
    Calls Tryz.prog 11 #[.agg (row d), .agg (evr e)] w fun r w' => r = .returned (.tuple #[.agg (row zs), .bool false]) ∧ Below w.heap.size w w' := by
  have hi : Hid ((Tryz.prog.info? 34).map (·.size) = some (evr e).size) := Lib.hid (by rw [evr_size, he.w.s]; exact info41)
  have hK0 : Hid (KW w.heap.size w [(w.heap.size + 1 + 1, .cells (row zs) 23), (w.heap.size + 1, .cells (evr e) 34), (w.heap.size, .cells (row d) 23)] (((w.alloc (.cells (row d) 23)).alloc (.cells (evr e) 34)).alloc (.cells (row zs) 23))) := Lib.hid (by
    have := (((KW.start w).new (.cells (row d) 23)).new (.cells (evr e) 34)).new (.cells (row zs) 23); simpa using this)
  have cp := Lib.hid (fun v => eput_false e he.w (by have := he.n; omega) hv v)
  have hz := zero26
  clear hv he
  go_enter Tryz.func11, Tryz.ntmps11
  go_wp2_with (with_reducible refine wpList_load_row rfl 34 (.tmp 3) rfl _ rfl 34 (evr e) _ (hK0.out.at 1 rfl) Tryz.underlying34 rfl hi.out ?_)
  refine (cp.out _).mono ?_
  rintro r v ⟨rfl, hB⟩
  have hK1 := Lib.hid (hK0.out.past hB)
  have hK2 := Lib.hid (hK1.out.row 0 rfl (by omega) (row zs))
  clear hB
  go_wp2_with (first
    | (with_reducible refine wpList_build0 rfl 23 rfl _ build26 ?_)
    | (with_reducible refine wpList_store_row rfl 23 (.tmp 4) (.tmp 15) rfl _ (row zs) rfl rfl 23 _ (hK1.out.at 0 rfl) (row26 zs rfl) rfl (row_one zs) ?_))
  exact bodyPost_row2 4 5 23 rfl _ rfl (.bool false) rfl 23 (row zs) _ (hK2.out.at 0 rfl) Tryz.underlying23 rfl (row26 zs rfl) rfl ⟨rfl, hK2.out.bel⟩
end Go.Proofs.YtfilolmbppjbjaaGreat
