/-
  The heads of a chain: what 'Start' and 'Next' return.
  Rows of events in memory: what 'valid' and 'Head' return.
  What 'Head' returns.
  A range over a function whose iterator keeps a row of its own between the rounds: one law for the caller. No program is named here.
  Whole rows loaded and stored within a fence. No program is named here but for events.
  What 'links' tells: the inputs, and the heads, of a row of events, whatever loop it is told to.
  What a loop that collects bears: a variable's box that holds a slice of its own, beside rows that are apart from it.
  Slices of one digest, and of one event, that are made.
  What 'links' and 'Heads' return.
  What 'Input' returns.
  What 'gathered' returns.
  What 'apart' returns: two rows of texts, gone through from behind.
  What 'collision' and 'Collide' return.
-/
import Derived.Test.YtfilolmbppjbjaaGevent
import Derived.Test.YtfilolmbppjbjaaGsha
import Derived.RangeFuncNested
import Derived.RangeFuncBound
import Derived.RangeFuncCalls
import Derived.RangeFuncLeaves
import Derived.Shelf.Abstract
import Derived.Shelf.RegionOpen
import Derived.WalkKit
import Derived.OwnWalkIn
import Derived.TacticsInMore
import Derived.LoopNIn
import Derived.LoopIn
import Derived.Laws.Tables
import Derived.RangeFuncBox
import Derived.Maps.AppendAt
import Derived.WalkMore
import Derived.ScopeJumps
namespace Go.Proofs.Ytfilolmbppjbjaa
open Go Go.RowKit

def CEN : List UInt8 := [99, 101, 110, 111, 116, 97, 112, 104]
def sha (l : List UInt8) : List UInt8 := sh.sha l
theorem sha_len (l : List UInt8) : (sha l).length = 32 := sh.sha_length l
def startD : List UInt8 := sha CEN
/-- The bytes of an event. -/
def putE (e : Ev) : List UInt8 := putL (partsOf e)
def nextD (d : List UInt8) (e : Ev) : List UInt8 := sha (d ++ putE e)
theorem nextD_len (d : List UInt8) (e : Ev) : (nextD d e).length = 32 := sha_len _
/-- An event that is walked. -/
structure Ev.fit (e : Ev) : Prop where
  w : e.wf
  n : e.name.length ≤ 100
theorem putL_len (l : List Pt) (m : Nat) (h : ∀ p ∈ l, (putP p).length ≤ m) : (putL l).length ≤ l.length * m := by
  induction l with
  | nil => simp [putL]
  | cons p l ih =>
    have h1 := h p (by simp)
    have h2 := ih (fun q hq => h q (by simp [hq]))
    have h3 : putL (p :: l) = putP p ++ putL l := by simp [putL]
    rw [h3, List.length_append, List.length_cons, Nat.add_mul]
    omega
theorem putP_less (p : Pt) (hf : p.fine) (hs : ∀ l, p = .label l → l.length ≤ 100) : (putP p).length ≤ 108 := by
  cases p with
  | label l =>
    have h := text_size l
    have hs' := hs l rfl
    show (text l).length ≤ _; omega
  | sum d => have h : d.length = 32 := hf; show d.length ≤ _; omega
  | kind n => have h := num_len9 (clI n); show (num (clI n)).length ≤ _; omega
  | id n => have h := num_len9 (clI n); show (num (clI n)).length ≤ _; omega
  | moment n => have h := num_len9 (clI n); show (num (clI n)).length ≤ _; omega
  | added n => have h := num_len9 (clI n); show (num (clI n)).length ≤ _; omega
  | length n => have h := num_len9 (clI n); show (num (clI n)).length ≤ _; omega
theorem partsOf_label (e : Ev) (hs : e.name.length ≤ 100) : ∀ p ∈ partsOf e, ∀ l, p = .label l → l.length ≤ 100 := by
  have h : ∀ l, aboutP e ≠ .label l := by intro l; unfold aboutP; split <;> (intro h; cases h)
  unfold partsOf
  intro p hp
  have hP : ∀ q : Pt, (∀ l, q ≠ .label l) → ∀ l, q = .label l → l.length ≤ 100 := fun q hq l hl => absurd hl (hq l)
  have hN : ∀ l, Pt.label e.name = .label l → l.length ≤ 100 := fun l hl => by injection hl with hl; rw [← hl]; exact hs
  repeat' split at hp
  all_goals (simp only [List.mem_cons, List.not_mem_nil, or_false] at hp; rcases hp with rfl | rfl | rfl | rfl | rfl) <;> first | exact hN | exact hP _ h | exact hP _ (fun _ h => by cases h)
theorem putE_len (e : Ev) (h : e.fit) : (putE e).length ≤ 540 := by
  have h1 := putL_len (partsOf e) 108 (fun p hp => putP_less p (partsOf_fine e h.w.s p hp) (partsOf_label e h.n p hp))
  have h2 := partsOf_len e
  have : (partsOf e).length * 108 ≤ 5 * 108 := Nat.mul_le_mul_right _ h2
  unfold putE; omega

theorem results_row2 {P : Program} {fn : Func} {p q : Tmp} {ty : TypeId} (h : fn.results = #[.cell p ty, .tmp q]) (tmps : Array Value) (b : Nat) (hp : tmps.getD p undef = .pointer (some ⟨b, 0, none⟩)) (v1 : Value) (h1 : tmps.getD q undef = v1) (w : World) (t : TypeId) (c : Array Value) (d : TypeDesc)
    (hg : w.heap[b]? = some (.cells c t)) (hu : P.underlying ty = some d) (hd : (match d with | .struct _ | .array _ _ => true | _ => false) = true) (hi : (P.info? ty).map (·.size) = some c.size) :
    (results fn tmps).run P w = .ok (.tuple #[.agg c, v1]) w := by
  have := run_loadVar_row (P := P) w b t ty c (0, 0) d hg hu hd hi
  simp only [results, h]
  have hp' : tmps[p]?.getD undef = .pointer (some ⟨b, 0, none⟩) := by simpa using hp
  have h1' : tmps[q]?.getD undef = v1 := by simpa using h1
  simp [hp', h1', this, asAddr]
theorem bodyPost_row2 {P : Program} {fn : Func} {R : Ending → World → Prop} {a : Act} {w : World} (p q : Tmp) (ty : TypeId) (h : fn.results = #[.cell p ty, .tmp q]) (b : Nat) (hp : a.tmps.getD p undef = .pointer (some ⟨b, 0, none⟩)) (v1 : Value) (h1 : a.tmps.getD q undef = v1) (t : TypeId) (c : Array Value) (d : TypeDesc)
    (hg : w.heap[b]? = some (.cells c t)) (hu : P.underlying ty = some d) (hd : (match d with | .struct _ | .array _ _ => true | _ => false) = true) (hi : (P.info? ty).map (·.size) = some c.size)
    (hdf : a.defers = []) (hR : R (.returned (.tuple #[.agg c, v1])) w) : bodyPost P fn R .ret a w :=
  bodyPost_ret (results_row2 h a.tmps b hp v1 h1 w t c d hg hu hd hi) hdf hR

theorem zero26 (w : World) : (zeroValue 26).run Try.prog w = .ok (.agg (row zs)) w := (Try.zeroValue26 w).trans rfl
theorem row26 (d : List UInt8) (hd : d.length = 32) : (Try.prog.info? 26).map (·.size) = some (row d).size := by rw [row_size, hd]; exact info28
theorem row_eq (c d : List UInt8) (hc : c.length = 32) (hd : d.length = 32) : (row c).size = (row d).size := by rw [row_size, row_size, hc, hd]
theorem build26 (v : World) : (Instr.build 26 #[]).run Try.prog v = .ok (.agg (row zs)) v := run_build v 26 _ _ (by kernel_rfl)
theorem zs_len : zs.length = 32 := rfl

set_option maxRecDepth 100000 in
set_option maxHeartbeats 400000 in
theorem start_any (w : World) :
    Calls Try.prog 10 #[] w fun r w' => r = .returned (.agg (row startD)) ∧ Below w.heap.size w w' := by
  have hK0 : Hid (KW w.heap.size w [(w.heap.size, .cells (row zs) 26)] (w.alloc (.cells (row zs) 26))) := Lib.hid ((KW.start w).new _)
  have co : Hid (∀ v, Calls Try.prog 13 #[.string ⟨#[99, 101, 110, 111, 116, 97, 112, 104]⟩] v fun e w' => e = .returned (.agg (row startD)) ∧ Below v.heap.size v w') := Lib.hid (fun v => sh.of_any _ (by decide) v)
  have hz := zero26
  have hl : Hid (startD.length = 32) := Lib.hid (sha_len _)
  generalize startD = D at *
  go_enter Try.func10, Try.ntmps10
  go_wp2_with fail
  refine (co.out _).mono ?_
  rintro r v ⟨rfl, hB⟩
  have hK1 := Lib.hid (hK0.out.past hB)
  have hK2 := Lib.hid (hK1.out.row 0 rfl (Nat.le_refl _) (row D))
  clear hB
  go_wp2_with (with_reducible refine wpList_store_row rfl 26 (.tmp 0) (.tmp 1) rfl _ (row D) rfl rfl 26 _ (hK1.out.at 0 rfl) (row26 D hl.out) (row_eq _ _ zs_len hl.out) (row_one D) ?_)
  exact bodyPost_row 0 26 rfl _ rfl 26 (row D) _ (hK2.out.at 0 rfl) Try.underlying26 rfl (row26 D hl.out) rfl ⟨rfl, hK2.out.bel⟩

set_option maxRecDepth 100000 in
set_option maxHeartbeats 400000 in
theorem next_true (d : List UInt8) (hd : d.length = 32) (e : Ev) (he : e.fit) (hv : okP e = true) (w : World) :
    Calls Try.prog 18 #[.agg (row d), .agg (evr e)] w fun r w' => r = .returned (.tuple #[.agg (row (nextD d e)), .bool true]) ∧ Below w.heap.size w w' := by
  have hi : Hid ((Try.prog.info? 41).map (·.size) = some (evr e).size) := Lib.hid (by rw [evr_size, he.w.s]; exact info41)
  have hK0 : Hid (KW w.heap.size w [(w.heap.size + 1 + 1, .cells (row zs) 26), (w.heap.size + 1, .cells (evr e) 41), (w.heap.size, .cells (row d) 26)] (((w.alloc (.cells (row d) 26)).alloc (.cells (evr e) 41)).alloc (.cells (row zs) 26))) := Lib.hid (by
    have := (((KW.start w).new (.cells (row d) 26)).new (.cells (evr e) 41)).new (.cells (row zs) 26); simpa using this)
  have cp := Lib.hid (fun v => eput_true e he.w (by have := he.n; omega) hv v)
  have hpe : Hid (putL (partsOf e) = putE e) := Lib.hid rfl
  rw [hpe.out] at cp
  have cl : Hid (∀ v, Calls Try.prog 34 #[.agg (row d), .string ⟨(putE e).toArray⟩] v fun r w' => r = .returned (.agg (row (nextD d e))) ∧ Below v.heap.size v w') := Lib.hid (fun v => by
    exact sh.link_any d hd ⟨(putE e).toArray⟩ (by rw [mk_size]; have := putE_len e he; omega) v)
  have hz := zero26
  have hl : Hid ((nextD d e).length = 32) := Lib.hid (nextD_len _ _)
  have hd' := Lib.hid hd
  generalize nextD d e = D at *
  clear hpe hv he hd
  go_enter Try.func18, Try.ntmps18
  go_wp2_with (with_reducible refine wpList_load_row rfl 41 (.tmp 3) rfl _ rfl 41 (evr e) _ (hK0.out.at 1 rfl) Try.underlying41 rfl hi.out ?_)
  refine (cp.out _).mono ?_
  rintro r v ⟨rfl, hB⟩
  have hK1 := Lib.hid (hK0.out.past hB)
  clear hB
  go_wp2_with (with_reducible refine wpList_load_row rfl 26 (.tmp 2) rfl _ rfl 26 (row d) _ (hK1.out.at 2 rfl) Try.underlying26 rfl (row26 d hd'.out) ?_)
  refine (cl.out _).mono ?_
  rintro r u ⟨rfl, hB⟩
  have hK2 := Lib.hid (hK1.out.past hB)
  have hK3 := Lib.hid (hK2.out.row 0 rfl (by omega) (row D))
  clear hB
  go_wp2_with (with_reducible refine wpList_store_row rfl 26 (.tmp 4) (.tmp 18) rfl _ (row D) rfl rfl 26 _ (hK2.out.at 0 rfl) (row26 D hl.out) (row_eq _ _ zs_len hl.out) (row_one D) ?_)
  exact bodyPost_row2 4 5 26 rfl _ rfl (.bool true) rfl 26 (row D) _ (hK3.out.at 0 rfl) Try.underlying26 rfl (row26 D hl.out) rfl ⟨rfl, hK3.out.bel⟩

set_option maxRecDepth 100000 in
set_option maxHeartbeats 400000 in
theorem next_false (d : List UInt8) (_hd : d.length = 32) (e : Ev) (he : e.fit) (hv : okP e = false) (w : World) :
    Calls Try.prog 18 #[.agg (row d), .agg (evr e)] w fun r w' => r = .returned (.tuple #[.agg (row zs), .bool false]) ∧ Below w.heap.size w w' := by
  have hi : Hid ((Try.prog.info? 41).map (·.size) = some (evr e).size) := Lib.hid (by rw [evr_size, he.w.s]; exact info41)
  have hK0 : Hid (KW w.heap.size w [(w.heap.size + 1 + 1, .cells (row zs) 26), (w.heap.size + 1, .cells (evr e) 41), (w.heap.size, .cells (row d) 26)] (((w.alloc (.cells (row d) 26)).alloc (.cells (evr e) 41)).alloc (.cells (row zs) 26))) := Lib.hid (by
    have := (((KW.start w).new (.cells (row d) 26)).new (.cells (evr e) 41)).new (.cells (row zs) 26); simpa using this)
  have cp := Lib.hid (fun v => eput_false e he.w (by have := he.n; omega) hv v)
  have hz := zero26
  clear hv he
  go_enter Try.func18, Try.ntmps18
  go_wp2_with (with_reducible refine wpList_load_row rfl 41 (.tmp 3) rfl _ rfl 41 (evr e) _ (hK0.out.at 1 rfl) Try.underlying41 rfl hi.out ?_)
  refine (cp.out _).mono ?_
  rintro r v ⟨rfl, hB⟩
  have hK1 := Lib.hid (hK0.out.past hB)
  have hK2 := Lib.hid (hK1.out.row 0 rfl (by omega) (row zs))
  clear hB
  go_wp2_with (first
    | (with_reducible refine wpList_build0 rfl 26 rfl _ build26 ?_)
    | (with_reducible refine wpList_store_row rfl 26 (.tmp 4) (.tmp 15) rfl _ (row zs) rfl rfl 26 _ (hK1.out.at 0 rfl) (row26 zs rfl) rfl (row_one zs) ?_))
  exact bodyPost_row2 4 5 26 rfl _ rfl (.bool false) rfl 26 (row zs) _ (hK2.out.at 0 rfl) Try.underlying26 rfl (row26 zs rfl) rfl ⟨rfl, hK2.out.bel⟩
end Go.Proofs.Ytfilolmbppjbjaa

namespace Go.Proofs.Ytfilolmbppjbjaa
open Go Go.RowKit

/-- A slice that begins at p holds these events, and lies below B. -/
def EvsAt (B : Nat) (w : World) (p : Option Addr) (l : List Ev) : Prop :=
  l = [] ∨ ∃ b o, p = some ⟨b, o, none⟩ ∧ b < B ∧ ∀ k (h : k < l.length), w.rangeAt b (o + k * 37) (evr l[k]).toList
theorem EvsAt.past {B : Nat} {w v : World} {p : Option Addr} {l : List Ev} (h : EvsAt B w p l) (hb : Below B w v) : EvsAt B v p l := by
  rcases h with h | ⟨b, o, hp, hB, hr⟩
  · exact .inl h
  · refine .inr ⟨b, o, hp, hB, fun k hk j x hx => ?_⟩
    rw [hb.cell (p := ⟨b, _, none⟩) hB]
    exact hr k hk j x hx
theorem EvsAt.at {B : Nat} {w : World} {p : Option Addr} {l : List Ev} (h : EvsAt B w p l) (k : Nat) (hk : k < l.length) : ∃ b o, p = some ⟨b, o, none⟩ ∧ ∀ (v : World), Below B w v → v.rangeAt b (o + k * 37) (evr l[k]).toList := by
  rcases h with h | ⟨b, o, hp, hB, hr⟩
  · subst h; simp at hk
  · refine ⟨b, o, hp, fun v hb j x hx => ?_⟩
    rw [hb.cell (p := ⟨b, _, none⟩) hB]
    exact hr k hk j x hx
theorem EvsAt.mono {B B' : Nat} {w : World} {p : Option Addr} {l : List Ev} (h : EvsAt B w p l) (hB : B ≤ B') : EvsAt B' w p l := by
  rcases h with h | ⟨b, o, hp, hb, hr⟩
  · exact .inl h
  · exact .inr ⟨b, o, hp, by omega, hr⟩
theorem wpList_load_ev {ops : Array Oper} {rest : List Oper} {op : Oper} {a : Act} {w : World} {Q : Exit → Act → World → Prop} (hgd : op.guard = none) (x : Operand) (ho : op.op = .load 41 x)
    (b o : Nat) (hx : a.eval x = .pointer (some ⟨b, o, none⟩)) (e : Ev) (hs : e.sum.length = 32) (hr : w.rangeAt b o (evr e).toList) (h : wpList Try.prog ops Q rest (a.put op.dst (.agg (evr e))) w) : wpList Try.prog ops Q (op :: rest) a w := by
  refine wpList_load_mid hgd 41 x ho b o hx (evr e).toList _ hr Try.underlying41 rfl (by rw [Array.length_toList, evr_size, hs]; exact info41) ?_
  rw [Array.toArray_toList]; exact h

/-- Events that are walked. -/
def Fit (l : List Ev) : Prop := ∀ e ∈ l, e.fit
theorem z41 (w : World) : (zeroValue 41).run Try.prog w = .ok (.agg (evr zeroE)) w := (Try.zeroValue41 w).trans rfl
theorem row41 (e : Ev) (hs : e.sum.length = 32) : (Try.prog.info? 41).map (·.size) = some (evr e).size := by rw [evr_size, hs]; exact info41
theorem evr_same (a b : Ev) (ha : a.sum.length = 32) (hb : b.sum.length = 32) : (evr a).size = (evr b).size := by rw [evr_size, evr_size, ha, hb]

set_option maxRecDepth 100000 in
set_option maxHeartbeats 1000000 in
theorem valid_all (l : List Ev) (hl : Fit l) (hn : l.length ≤ 1000) (p : Option Addr) (cap : Nat) (w : World) (hE : EvsAt w.heap.size w p l) :
    Calls Try.prog 38 #[.slice p l.length cap] w fun r w' => r = .returned (.bool (l.all okP)) ∧ Below w.heap.size w w' := by
  have hz := z41
  have hE' := Lib.hid hE
  have hfit := Lib.hid hl
  have hll : (l.length : Int) ≤ 1000 := by omega
  clear hE hl
  go_enter Try.func38, Try.ntmps38
  go_wp2_with fail
  go_loopw [7] (fun i wr => ∃ k : Nat, k ≤ l.length ∧ i = .int .i64 (k : Int) ∧ Hid ((l.take k).all okP = true) ∧ Hid (KW w.heap.size w [] wr)) (fun i _ => l.length - (intOf i).toNat)
  case atStart => exact ⟨0, Nat.zero_le _, rfl, Lib.hid rfl, Lib.hid (KW.start w)⟩
  case round =>
    obtain ⟨k, hk, rfl, hall, hK⟩ := hrel
    by_cases hlt : k < l.length
    · have hb : (k : Int) < (l.length : Int) := by omega
      obtain ⟨b, o, rfl, hr⟩ := hE'.out.at k hlt
      have hr' := Lib.hid (hr wr hK.out.bel)
      have hft := Lib.hid (hfit.out _ (List.getElem_mem hlt))
      have hts : Hid ((l.take (k + 1)).all okP = okP l[k]) := Lib.hid (by rw [List.take_succ_eq_append_getElem hlt, List.all_append, hall.out]; simp)
      have hno : Hid (okP l[k] = false → l.all okP = false) := Lib.hid (fun h => by rw [List.all_eq_false]; exact ⟨_, List.getElem_mem hlt, by rw [h]; decide⟩)
      clear hr
      generalize l[k] = e at *
      have cv := Lib.hid (fun v => evalid_any e hft.out.w.s (by have := hft.out.n; omega) v)
      have hK1 := Lib.hid (hK.out.new (.cells (evr zeroE) 41))
      have hK2 := Lib.hid (hK1.out.row 0 rfl hK.out.size (evr e))
      generalize okP e = bb at *
      go_wp2_with (first
        | (with_reducible refine wpList_load_ev rfl (.tmp 9) rfl b (o + k * 37) rfl e hft.out.w.s hr'.out ?_)
        | (with_reducible refine wpList_store_row rfl 41 (.tmp 4) (.tmp 10) rfl _ (evr e) rfl rfl 41 _ (hK1.out.at 0 rfl) (row41 e hft.out.w.s) (evr_same _ _ rfl hft.out.w.s) (evr_one e) ?_)
        | (with_reducible refine wpList_load_row rfl 41 (.tmp 4) rfl _ rfl 41 (evr e) _ (hK2.out.at 0 rfl) Try.underlying41 rfl (row41 e hft.out.w.s) ?_))
      refine (cv.out _).mono ?_
      rintro r u ⟨rfl, hu⟩
      have hK3 := Lib.hid (hK2.out.past hu).drop
      clear hu
      cases bb
      · have hq := Lib.hid (hno.out rfl)
        clear hno hts
        go_wp2_with fail
        go_ret
        exact ⟨by rw [hq.out]; rfl, hK3.out.bel⟩
      · clear hno
        go_wp2_with fail
        go_roundw
        case rel => exact ⟨k + 1, by omega, by go_num, hts, hK3⟩
        case measure => simp [intOf]; omega
    · obtain rfl : k = l.length := by omega
      have hb : ¬ (l.length : Int) < (l.length : Int) := by omega
      have hall' : Hid (l.all okP = true) := Lib.hid (by have := hall.out; rwa [List.take_length] at this)
      go_wp2_with fail
      go_ret
      exact ⟨by rw [hall'.out]; rfl, hK.out.bel⟩
end Go.Proofs.Ytfilolmbppjbjaa

namespace Go.Proofs.Ytfilolmbppjbjaa
open Go Go.RowKit

def headD (d : List UInt8) (l : List Ev) : List UInt8 := l.foldl nextD d
theorem headD_len (d : List UInt8) (l : List Ev) (hd : d.length = 32) : (headD d l).length = 32 := by
  unfold headD
  induction l generalizing d with
  | nil => exact hd
  | cons e l ih => exact ih _ (nextD_len _ _)
theorem headD_snoc (d : List UInt8) (l : List Ev) (e : Ev) : headD d (l ++ [e]) = nextD (headD d l) e := by unfold headD; rw [List.foldl_append]; rfl
/-- The head behind events, and whether there is one. -/
def hdR (d : List UInt8) (l : List Ev) : List UInt8 := if l.all okP then headD d l else zs

set_option maxRecDepth 100000 in
set_option maxHeartbeats 1000000 in
theorem head_any (d : List UInt8) (hd : d.length = 32) (l : List Ev) (hl : Fit l) (hn : l.length ≤ 1000) (p : Option Addr) (cap : Nat) (w : World) (hE : EvsAt w.heap.size w p l) :
    Calls Try.prog 9 #[.agg (row d), .slice p l.length cap] w fun r w' => r = .returned (.tuple #[.agg (row (hdR d l)), .bool (l.all okP)]) ∧ Below w.heap.size w w' := by
  have hz := z41
  have hz2 := zero26
  have hE' := Lib.hid hE
  have hfit := Lib.hid hl
  have hll : (l.length : Int) ≤ 1000 := by omega
  have hd' := Lib.hid hd
  have hK0 : Hid (KW w.heap.size w [(w.heap.size + 1, .cells (row zs) 26), (w.heap.size, .cells (row d) 26)] ((w.alloc (.cells (row d) 26)).alloc (.cells (row zs) 26))) := Lib.hid (by
    have := ((KW.start w).new (.cells (row d) 26)).new (.cells (row zs) 26); simpa using this)
  clear hE hl hd
  go_enter Try.func9, Try.ntmps9
  go_wp2_with fail
  go_loopw [12] (fun i wr => ∃ k : Nat, k ≤ l.length ∧ i = .int .i64 (k : Int) ∧ Hid ((l.take k).all okP = true) ∧ Hid (KW w.heap.size w [(w.heap.size + 1, .cells (row zs) 26), (w.heap.size, .cells (row (headD d (l.take k))) 26)] wr)) (fun i _ => l.length - (intOf i).toNat)
  case atStart => exact ⟨0, Nat.zero_le _, rfl, Lib.hid rfl, hK0⟩
  case round =>
    obtain ⟨k, hk, rfl, hall, hK⟩ := hrel
    by_cases hlt : k < l.length
    · have hb : (k : Int) < (l.length : Int) := by omega
      obtain ⟨b, o, rfl, hr⟩ := hE'.out.at k hlt
      have hr' := Lib.hid (hr wr hK.out.bel)
      have hft := Lib.hid (hfit.out _ (List.getElem_mem hlt))
      have hts : Hid ((l.take (k + 1)).all okP = okP l[k]) := Lib.hid (by rw [List.take_succ_eq_append_getElem hlt, List.all_append, hall.out]; simp)
      have hhd : Hid (headD d (l.take (k + 1)) = nextD (headD d (l.take k)) l[k]) := Lib.hid (by rw [List.take_succ_eq_append_getElem hlt, headD_snoc])
      have hno : Hid (okP l[k] = false → l.all okP = false) := Lib.hid (fun h => by rw [List.all_eq_false]; exact ⟨_, List.getElem_mem hlt, by rw [h]; decide⟩)
      have hDl := Lib.hid (headD_len d (l.take k) hd'.out)
      clear hr
      generalize l[k] = e at *
      generalize headD d (l.take k) = D at *
      have hes := Lib.hid hft.out.w.s
      have hK1 := Lib.hid (hK.out.new (.cells (evr zeroE) 41))
      have hK2 := Lib.hid (hK1.out.row 0 rfl hK.out.size (evr e))
      have hev : Hid (okP e = true ∨ okP e = false) := Lib.hid (by cases okP e <;> simp)
      rcases hev.out with ho | ho
      · have cn := Lib.hid (fun v => next_true D hDl.out e hft.out ho v)
        have hNl := Lib.hid (nextD_len D e)
        rw [ho] at hts
        clear hno ho
        generalize nextD D e = N at *
        go_wp2_with (first
          | (with_reducible refine wpList_load_ev rfl (.tmp 14) rfl b (o + k * 37) rfl e hes.out hr'.out ?_)
          | (with_reducible refine wpList_store_row rfl 41 (.tmp 7) (.tmp 15) rfl _ (evr e) rfl rfl 41 _ (hK1.out.at 0 rfl) (row41 e hes.out) (evr_same _ _ rfl hes.out) (evr_one e) ?_)
          | (with_reducible refine wpList_load_row rfl 26 (.tmp 2) rfl _ rfl 26 (row D) _ (hK2.out.at 2 rfl) Try.underlying26 rfl (row26 D hDl.out) ?_)
          | (with_reducible refine wpList_load_row rfl 41 (.tmp 7) rfl _ rfl 41 (evr e) _ (hK2.out.at 0 rfl) Try.underlying41 rfl (row41 e hes.out) ?_))
        refine (cn.out _).mono ?_
        rintro r u ⟨rfl, hu⟩
        have hK3 := Lib.hid (hK2.out.past hu).drop
        have hK4 := Lib.hid (hK3.out.new (.cells (row zs) 26))
        have hK5 := Lib.hid (hK4.out.row 0 rfl hK3.out.size (row N))
        have hK6 := Lib.hid (hK5.out.row 2 rfl (Nat.le_refl _) (row N))
        clear hu
        go_wp2_with (first
          | (with_reducible refine wpList_store_row rfl 26 (.tmp 8) (.tmp 20) rfl _ (row N) rfl rfl 26 _ (hK4.out.at 0 rfl) (row26 N hNl.out) (row_eq _ _ zs_len hNl.out) (row_one N) ?_)
          | (with_reducible refine wpList_load_row rfl 26 (.tmp 8) rfl _ rfl 26 (row N) _ (hK5.out.at 0 rfl) Try.underlying26 rfl (row26 N hNl.out) ?_)
          | (with_reducible refine wpList_store_row rfl 26 (.tmp 2) (.tmp 25) rfl _ (row N) rfl rfl 26 _ (hK5.out.at 2 rfl) (row26 N hNl.out) (row_eq _ _ hDl.out hNl.out) (row_one N) ?_))
        go_roundw
        case rel => exact ⟨k + 1, by omega, by go_num, hts, Lib.hid (by rw [hhd.out]; exact hK6.out.drop)⟩
        case measure => simp [intOf]; omega
      · have cn := Lib.hid (fun v => next_false D hDl.out e hft.out ho v)
        have hq := Lib.hid (hno.out ho)
        clear hno ho hts hhd
        go_wp2_with (first
          | (with_reducible refine wpList_load_ev rfl (.tmp 14) rfl b (o + k * 37) rfl e hes.out hr'.out ?_)
          | (with_reducible refine wpList_store_row rfl 41 (.tmp 7) (.tmp 15) rfl _ (evr e) rfl rfl 41 _ (hK1.out.at 0 rfl) (row41 e hes.out) (evr_same _ _ rfl hes.out) (evr_one e) ?_)
          | (with_reducible refine wpList_load_row rfl 26 (.tmp 2) rfl _ rfl 26 (row D) _ (hK2.out.at 2 rfl) Try.underlying26 rfl (row26 D hDl.out) ?_)
          | (with_reducible refine wpList_load_row rfl 41 (.tmp 7) rfl _ rfl 41 (evr e) _ (hK2.out.at 0 rfl) Try.underlying41 rfl (row41 e hes.out) ?_))
        refine (cn.out _).mono ?_
        rintro r u ⟨rfl, hu⟩
        have hK3 := Lib.hid (hK2.out.past hu).drop
        have hK4 := Lib.hid (hK3.out.new (.cells (row zs) 26))
        have hK5 := Lib.hid (hK4.out.row 0 rfl hK3.out.size (row zs))
        have hK6 := Lib.hid (hK5.out.row 1 rfl (by omega) (row zs))
        clear hu
        go_wp2_with (first
          | (with_reducible refine wpList_store_row rfl 26 (.tmp 8) (.tmp 20) rfl _ (row zs) rfl rfl 26 _ (hK4.out.at 0 rfl) (row26 zs rfl) rfl (row_one zs) ?_)
          | (with_reducible refine wpList_build0 rfl 26 rfl _ build26 ?_)
          | (with_reducible refine wpList_store_row rfl 26 (.tmp 4) (.tmp 24) rfl _ (row zs) rfl rfl 26 _ (hK5.out.at 1 rfl) (row26 zs rfl) rfl (row_one zs) ?_))
        exact bodyPost_row2 4 5 26 rfl _ rfl (.bool false) rfl 26 (row zs) _ (hK6.out.at 1 rfl) Try.underlying26 rfl (row26 zs rfl) rfl ⟨by rw [hq.out]; unfold hdR; rw [hq.out]; rfl, hK6.out.bel⟩
    · obtain rfl : k = l.length := by omega
      have hb : ¬ (l.length : Int) < (l.length : Int) := by omega
      have hall' : Hid (l.all okP = true) := Lib.hid (by have := hall.out; rwa [List.take_length] at this)
      have hD : Hid (headD d (l.take l.length) = hdR d l) := Lib.hid (by unfold hdR; rw [hall'.out, List.take_length]; rfl)
      have hDl := Lib.hid (headD_len d (l.take l.length) hd'.out)
      rw [hD.out] at hK hDl
      clear hD hall
      obtain ⟨D, hDe⟩ : ∃ D, Hid (hdR d l = D) := ⟨_, Lib.hid rfl⟩
      rw [hDe.out] at hK hDl
      have hK1 := Lib.hid (hK.out.row 0 rfl (by omega) (row D))
      go_wp2_with (first
        | (with_reducible refine wpList_load_row rfl 26 (.tmp 2) rfl _ rfl 26 (row D) _ (hK.out.at 1 rfl) Try.underlying26 rfl (row26 D hDl.out) ?_)
        | (with_reducible refine wpList_store_row rfl 26 (.tmp 4) (.tmp 27) rfl _ (row D) rfl rfl 26 _ (hK.out.at 0 rfl) (row26 D hDl.out) (row_eq _ _ zs_len hDl.out) (row_one D) ?_))
      exact bodyPost_row2 4 5 26 rfl _ rfl (.bool true) rfl 26 (row D) _ (hK1.out.at 0 rfl) Try.underlying26 rfl (row26 D hDl.out) rfl ⟨by rw [hall'.out, hDe.out], hK1.out.bel⟩
end Go.Proofs.Ytfilolmbppjbjaa

namespace Go.Proofs.Ytfilolmbppjbjaa
open Go Go.RowKit
variable {F : Fence} {n : Nat} {P : Program}

/-- What a round that goes on keeps: what lay below n₀, and each row that is apart from the body's own. -/
def Keep (n₀ : Nat) (A : Nat → World → Prop) (W W' : World) : Prop :=
  Below n₀ W W' ∧ ∀ b c t, A b W → W.heap[b]? = some (.cells c t) → A b W' ∧ W'.heap[b]? = some (.cells c t)
theorem Keep.trans {n₀ : Nat} {A : Nat → World → Prop} {X Y Z : World} (h : Keep n₀ A X Y) (k : Keep n₀ A Y Z) : Keep n₀ A X Z :=
  ⟨h.1.trans k.1, fun b c t ha hb => by
    obtain ⟨h1, h2⟩ := h.2 b c t ha hb
    exact k.2 b c t h1 h2⟩
theorem Keep.refl (n₀ : Nat) (A : Nat → World → Prop) (X : World) : Keep n₀ A X X := ⟨Below.refl _ _, fun _ _ _ ha hb => ⟨ha, hb⟩⟩

/-- What the invariant of a caller bears: new blocks; a row that is apart, written by the iterator; the loop's own book-keeping. -/
structure Bears {β : Type} (B : Nat) (A : Nat → World → Prop) (I : β → World → Prop) : Prop where
  grow : ∀ s X Y, I s X → Below X.heap.size X Y → I s Y
  row : ∀ s b X c, I s X → A b X → I s (X.setRow b c)
  obj : ∀ s k X o o', I s X → B ≤ k → X.heap[k]? = some o → o.isCells = false → I s (X.putObj k o')
/-- What it is to be apart. -/
structure Aparts {α : Type} (B : Nat) (A : Nat → World → Prop) (I : List α → World → Prop) : Prop where
  grow : ∀ b X Y, A b X → Below X.heap.size X Y → A b Y
  row : ∀ b b' X c, A b X → A b' X → A b (X.setRow b' c)
  obj : ∀ b k X o o', A b X → B ≤ k → X.heap[k]? = some o → o.isCells = false → A b (X.putObj k o')
  new : ∀ X o, I [] X → A X.heap.size (X.alloc o)

/-- The contract of an iterator that tells T, whatever loop it is told to. -/
def SeqX {α : Type} (F : Fence) (n : Nat) (P : Program) (g : Nat) (lb : Array Value) (encs : α → Array Value) (n₀ : Nat) (cb : Nat) (co : Obj) (T : List α) (w : World) : Prop :=
  ∀ (l : Nat) (J Jx : List α → World → Prop) (A : Nat → World → Prop) (W : World), Below w.heap.size w W → (A cb W ∨ cb < n₀) → W.heap[cb]? = some co →
    (∀ s X Y, J s X → Below X.heap.size X Y → J s Y) → (∀ s b X c, J s X → A b X → J s (X.setRow b c)) →
    (∀ b X Y, A b X → Below X.heap.size X Y → A b Y) → (∀ b b' X c, A b X → A b' X → A b (X.setRow b' c)) → (∀ X o, J [] X → A X.heap.size (X.alloc o)) →
    (∀ pre x W1, pre ++ [x] <+: T → J pre W1 → YieldAt F (n - 1) P l (encs x) W1 fun e W' =>
      (e = .returned (.bool true) ∧ J (pre ++ [x]) W' ∧ Keep n₀ A W1 W') ∨ (e = .returned (.bool false) ∧ Jx (pre ++ [x]) W')) →
    J [] W →
    CallsIn F n P g (#[.func (.yield l) #[] #[]] ++ lb) W fun e W' => (∃ v, e = .returned v) ∧ (J T W' ∨ ∃ pre, pre <+: T ∧ Jx pre W')

theorem heap_putObj_ne {W : World} {k b : Nat} {o : Obj} (h : b ≠ k) : (W.putObj k o).heap[b]? = W.heap[b]? := World.putObj_heap_other h

theorem keep_obj {α : Type} {B n₀ : Nat} {A : Nat → World → Prop} {I : List α → World → Prop} (hA : Aparts B A I) (hn : n₀ ≤ B) {W : World} {k : Nat} {o : Obj} (o' : Obj) (hk : B ≤ k) (h : W.heap[k]? = some o) (ho : o.isCells = false) : Keep n₀ A W (W.putObj k o') :=
  ⟨(Below.refl n₀ W).grown (grownBy_putObj' W k o') (by have := (Array.getElem?_eq_some_iff.1 h).1; omega) (fun j e => by cases e; omega), fun b c t ha hb => by
    refine ⟨hA.obj b k W o o' ha hk h ho, ?_⟩
    have hne : b ≠ k := by
      intro e
      subst e
      rw [hb] at h
      cases h
      cases ho
    rw [heap_putObj_ne hne]; exact hb⟩

/-- The caller's law. -/
theorem wpIn_rangeX {α : Type} {g : Operand} {ps : Array Tmp} {assign body : Code} {Q : Exit → Act → World → Prop} {a : Act} {w : World}
    (hro : F.round = none) (h1 : 1 ≤ n) {gf : Nat} {lb : Array Value} (hg : a.eval g = .func (.func gf) #[] lb) (hFg : F.fn gf) (eg : ∀ args w, (callFunc gf args).run P w = .ok (.enter gf args) w)
    {encs : α → Array Value} {n₀ cb : Nat} {co : Obj} {T : List α} (hseq : SeqX F (n - 1) P gf lb encs n₀ cb co T w) (hn : n₀ ≤ w.heap.size) (hps : ∀ x, (encs x).size = ps.size)
    (A : Nat → World → Prop) (I : List α → World → Prop) (Ix : Code → List α → World → Prop) (hI : Bears w.heap.size A I) (hIx : ∀ c s k X o o', Ix c s X → w.heap.size ≤ k → X.heap[k]? = some o → o.isCells = false → Ix c s (X.putObj k o')) (hA : Aparts w.heap.size A I)
    (h0 : I [] w) (hcb : A cb w ∨ cb < n₀) (hco : w.heap[cb]? = some co) (Ax : α → Act → World → Prop) (hAx : ∀ x a' k X o o', Ax x a' X → w.heap.size ≤ k → X.heap[k]? = some o → o.isCells = false → Ax x a' (X.putObj k o'))
    (hassign : ∀ (l : Nat) (pre : List α) (x : α) (W : World) (K : Act → World → Prop), pre ++ [x] <+: T → I pre W → (∀ a' W', KeepsFrom w.heap.size W W' → Keep n₀ A W W' → I pre W' → Ax x a' W' → K a' W') →
      assign.wpIn (F.inRound l) (n - 1 - 1) P (Exit.then K (fun _ _ _ => False)) { tmps := (ps.zip (encs x)).foldl (fun t (p, v) => t.setIfInBounds p v) a.tmps, defers := [] } W)
    (hbody : ∀ (l : Nat) (pre : List α) (x : α) (a' : Act) (W : World), pre ++ [x] <+: T → I pre W → Ax x a' W → body.wpIn (F.inRound l) (n - 1 - 1) P (ownPostG w.heap.size (Keep n₀ A) I Ix (pre ++ [x]) W) a' W)
    (hdone : ∀ (D : Nat) (W : World), w.heap.size ≤ D → I T W → W.heap[D]? = some (.deferred (some [])) → Q .normal { a with defers := { target := .collected D, args := #[] } :: a.defers } W)
    (hstop : ∀ (D : Nat) (c : Code) (pre : List α) (W : World), w.heap.size ≤ D → pre <+: T → Ix c pre W → W.heap[D]? = some (.deferred (some [])) → c.wpIn F n P Q { a with defers := { target := .collected D, args := #[] } :: a.defers } W) :
    (Code.rangeFunc g ps assign body).wpIn F n P Q a w := by
  refine wpIn_rangeFunc ?_
  intro fn hfn
  rw [hro]
  obtain ⟨rec, hrec⟩ : ∃ rec : LoopState → Option Code → Loop, rec = fun st pe => { state := st, pending := pe, fn, tmps := a.tmps, params := ps, assign, body, defers := w.heap.size } := ⟨_, rfl⟩
  obtain ⟨W1, hW1⟩ : ∃ W1, (w.alloc (.deferred (some []))).alloc (.loop (rec .ready none)) = W1 := ⟨_, rfl⟩
  have hL1 : W1.heap[w.heap.size + 1]? = some (.loop (rec .ready none)) := by
    rw [← hW1]; have := World.alloc_heap_new (w.alloc (.deferred (some []))) (.loop (rec .ready none)); rwa [World.size_alloc] at this
  have hK1 : W1.heap[w.heap.size]? = some (.deferred (some [])) := by
    rw [← hW1]; exact (Below.heap_alloc _ _ _ (by simp)).trans (World.alloc_heap_new w _)
  have hb1 : Below w.heap.size w W1 := by
    rw [← hW1]; exact ((Below.refl _ w).alloc (Nat.le_refl _) _).alloc (by simp) _
  have hI1 : I [] W1 := hI.grow _ _ _ h0 hb1
  have hcw : cb < w.heap.size := (Array.getElem?_eq_some_iff.1 hco).1
  refine ⟨w.heap.size + 1, [{ target := .collected w.heap.size, args := #[] }], W1, { target := .fn (.func gf) lb, args := #[.func (.yield (w.heap.size + 1)) #[] #[]] }, W1, gf,
    #[.func (.yield (w.heap.size + 1)) #[] #[]] ++ lb, W1, ?_, ?_, ?_, ?_, fun _ => h1, ?_⟩
  · rw [← hW1, hrec]; exact run_enterLoop_outer _ _ _ _ _
  · simp only [resolve, hg]
    simp [go_sem]
  · intro f' hf'; simp [Target.leads] at hf'; subst hf'; exact hFg
  · simp [invoke, go_sem, eg]
  · refine (hseq (w.heap.size + 1)
      (fun pre W => I pre W ∧ W.heap[w.heap.size + 1]? = some (.loop (rec .ready none)) ∧ W.heap[w.heap.size]? = some (.deferred (some [])))
      (fun pre W => ∃ c, Ix c pre W ∧ W.heap[w.heap.size + 1]? = some (.loop (rec .done (some c))) ∧ W.heap[w.heap.size]? = some (.deferred (some [])))
      (fun b W => A b W ∧ b ≠ w.heap.size ∧ b ≠ w.heap.size + 1)
      W1 hb1 (hcb.imp (fun h => ⟨hA.grow _ _ _ h hb1, by omega, by omega⟩) id) ((hb1.block _ hcw).trans hco)
      (fun s X Y hs hg' => ⟨hI.grow _ _ _ hs.1 hg', (hg'.block _ (Array.getElem?_eq_some_iff.1 hs.2.1).1).trans hs.2.1, (hg'.block _ (Array.getElem?_eq_some_iff.1 hs.2.2).1).trans hs.2.2⟩)
      (fun s b X c hs hb => ⟨hI.row _ _ _ _ hs.1 hb.1, by rw [setRow_other _ _ _ _ (Ne.symm hb.2.2)]; exact hs.2.1, by rw [setRow_other _ _ _ _ (Ne.symm hb.2.1)]; exact hs.2.2⟩)
      (fun b X Y hb hg' => ⟨hA.grow _ _ _ hb.1 hg', hb.2⟩)
      (fun b b' X c hb hb' => ⟨hA.row _ _ _ _ hb.1 hb'.1, hb.2⟩)
      (fun X o hs => ⟨hA.new _ _ hs.1, by have := (Array.getElem?_eq_some_iff.1 hs.2.2).1; omega, by have := (Array.getElem?_eq_some_iff.1 hs.2.1).1; omega⟩)
      ?_ ⟨hI1, hL1, hK1⟩).mono ?_
    · rintro pre x W hpx ⟨hi, hl, hk⟩
      have hy := run_yield (P := P) (args := encs x) hl (by rw [hrec]; exact hps x)
      rw [hrec] at hy
      refine ⟨fn, _, assign, body, hy, roundIn_of_wpIn hfn (hassign _ pre x W _ hpx hi ?_)⟩
      clear hy
      intro a' Wa hkfa hkpa hia hax
      replace hl := hkfa.same _ _ (by omega) hl rfl
      replace hk := hkfa.same _ _ (Nat.le_refl _) hk rfl
      have hlt : w.heap.size + 1 < Wa.heap.size := (Array.getElem?_eq_some_iff.1 hl).1
      refine ⟨_, run_beginRound hl (by rw [hrec]), ?_⟩
      have hl2 : (Wa.putObj (w.heap.size + 1) (.loop { rec .ready none with state := .busy })).heap[w.heap.size + 1]? = some (.loop { rec .ready none with state := .busy }) := World.putObj_heap_same hlt
      have hk2 : (Wa.putObj (w.heap.size + 1) (.loop { rec .ready none with state := .busy })).heap[w.heap.size]? = some (.deferred (some [])) := (World.putObj_heap_other (by omega)).trans hk
      have hw2 : Keep n₀ A Wa (Wa.putObj (w.heap.size + 1) (.loop { rec .ready none with state := .busy })) := keep_obj hA hn _ (by omega) hl rfl
      refine wpIn_mono (hbody _ pre x a' _ hpx (hI.obj _ _ _ _ _ hia (by omega) hl rfl) (hAx x a' _ _ _ _ hax (by omega) hl rfl)) ?_
      have fin : ∀ (jump : Option Code) (W3 : World), KeepsFrom w.heap.size (Wa.putObj (w.heap.size + 1) (.loop { rec .ready none with state := .busy })) W3 →
          (Instr.endRound (w.heap.size + 1) jump).run P W3 = .ok (.bool jump.isNone) (W3.putObj (w.heap.size + 1) (.loop (rec (if jump.isNone then .ready else .done) jump))) ∧
          W3.heap[w.heap.size + 1]? = some (.loop { rec .ready none with state := .busy }) ∧
          (W3.putObj (w.heap.size + 1) (.loop (rec (if jump.isNone then .ready else .done) jump))).heap[w.heap.size + 1]? = some (.loop (rec (if jump.isNone then .ready else .done) jump)) ∧
          (W3.putObj (w.heap.size + 1) (.loop (rec (if jump.isNone then .ready else .done) jump))).heap[w.heap.size]? = some (.deferred (some [])) := fun jump W3 hk3 => by
        have hl3 := hk3.same _ _ (by omega) hl2 rfl
        have := run_endRound (P := P) jump hl3
        rw [hrec] at this ⊢
        exact ⟨this, by rw [hrec] at hl3; exact hl3, World.putObj_heap_same (Array.getElem?_eq_some_iff.1 hl3).1, (World.putObj_heap_other (by omega)).trans (hk3.same _ _ (Nat.le_refl _) hk2 rfl)⟩
      have wide : ∀ {X Y : World}, Keep n₀ A X Y → Keep n₀ (fun b W => A b W ∧ b ≠ w.heap.size ∧ b ≠ w.heap.size + 1) X Y := fun h => ⟨h.1, fun b c t ha hb => by
        obtain ⟨p, q⟩ := h.2 b c t ha.1 hb
        exact ⟨⟨p, ha.2⟩, q⟩⟩
      rintro e a3 W3 hp
      cases e with
      | normal =>
        obtain ⟨hk3, hkp3, hi3⟩ := hp
        obtain ⟨hr, hl3, hl4, hk4⟩ := fin none W3 hk3
        exact ⟨_, _, hr, .inl ⟨rfl, ⟨hI.obj _ _ _ _ _ hi3 (by omega) hl3 rfl, hl4, hk4⟩, wide (hkpa.trans ((hw2.trans hkp3).trans (keep_obj hA hn _ (by omega) hl3 rfl)))⟩⟩
      | ret =>
        obtain ⟨hk3, hi3⟩ := hp
        obtain ⟨hr, hl3, hl4, hk4⟩ := fin (some .ret) W3 hk3
        exact ⟨_, _, hr, .inr ⟨rfl, .ret, hIx _ _ _ _ _ _ hi3 (by omega) hl3 rfl, hl4, hk4⟩⟩
      | exit id =>
        obtain ⟨hk3, hi3⟩ := hp
        obtain ⟨hr, hl3, hl4, hk4⟩ := fin (some (.exit id)) W3 hk3
        exact ⟨_, _, hr, .inr ⟨rfl, .exit id, hIx _ _ _ _ _ _ hi3 (by omega) hl3 rfl, hl4, hk4⟩⟩
      | goto t =>
        obtain ⟨hk3, hi3⟩ := hp
        obtain ⟨hr, hl3, hl4, hk4⟩ := fin (some (.goto t)) W3 hk3
        exact ⟨_, _, hr, .inr ⟨rfl, .goto t, hIx _ _ _ _ _ _ hi3 (by omega) hl3 rfl, hl4, hk4⟩⟩
      | panic ch => exact hp.elim
      | outgrown => exact hp.elim
    · rintro e W2 ⟨⟨v, rfl⟩, (⟨hi, hl, hk⟩ | ⟨pre, hSp, c, hi, hl, hk⟩)⟩
      · exact ⟨none, _, by have := run_endLoop (P := P) hl (by rw [hrec]; simp); rw [hrec] at this; exact this, hdone _ _ (Nat.le_refl _) (hI.obj _ _ _ _ _ hi (by omega) hl rfl) ((World.putObj_heap_other (by omega)).trans hk)⟩
      · exact ⟨some c, _, by have := run_endLoop (P := P) hl (by rw [hrec]; simp); rw [hrec] at this; exact this, hstop _ c pre _ (Nat.le_refl _) hSp (hIx _ _ _ _ _ _ hi (by omega) hl rfl) ((World.putObj_heap_other (by omega)).trans hk)⟩
end Go.Proofs.Ytfilolmbppjbjaa

namespace Go.Proofs.Ytfilolmbppjbjaa
open Go Go.RowKit
variable {F : Fence} {n : Nat} {P : Program} {ops : Array Oper} {rest : List Oper} {o : Oper} {a : Act} {w : World} {Q : Exit → Act → World → Prop}

theorem wpListIn_exec (hg : o.guard = none) (hnc : (match o.op with | .call _ => false | .defer _ => false | _ => true) = true) (v : Value) (w' : World) (hv : (execOp a.eval o).run P w = .ok (.value v) w' ∨ ((execOp a.eval o).run P w = .ok .skip w' ∧ v = undef))
    (h : wpListIn F n P ops Q rest (a.put o.dst v) w') : wpListIn F n P ops Q (o :: rest) a w := by
  refine wpListIn_plain hg fun K hK => ⟨?_, ?_⟩
  · intro f hf
    unfold Oper.about at hf
    split at hf
    · rename_i c hc; rw [hc] at hnc; cases hnc
    · cases hf
  · rw [Oper.semAt_eq _ _ _ (fun c hc => by rw [hc] at hnc; cases hnc)]
    rcases hv with hv | ⟨hv, rfl⟩
    · rw [hv]; exact hK _ _ h
    · rw [hv]; exact hK _ _ h
theorem wpListIn_load_row (hg : o.guard = none) (ty : TypeId) (x : Operand) (ho : o.op = .load ty x) (b : Nat) (hx : a.eval x = .pointer (some ⟨b, 0, none⟩)) (t : TypeId) (c : Array Value) (d : TypeDesc) (hh : w.heap[b]? = some (.cells c t))
    (hu : P.underlying ty = some d) (hd : (match d with | .struct _ | .array _ _ => true | _ => false) = true) (hi : (P.info? ty).map (·.size) = some c.size) (h : wpListIn F n P ops Q rest (a.put o.dst (.agg c)) w) : wpListIn F n P ops Q (o :: rest) a w :=
  wpListIn_exec hg (by rw [ho]) _ w (.inl (by
    unfold execOp
    simp only [ho, hx, Instr.loadAt, Instr.sureAddr, Sem.run_bind, Sem.run_pure, Result.andThen_ok, run_loadVar_row w b t ty c (0, 0) d hh hu hd hi])) h
theorem wpListIn_store_row (hg : o.guard = none) (ty : TypeId) (x y : Operand) (ho : o.op = .store ty x y) (b : Nat) (cells : Array Value) (hx : a.eval x = .pointer (some ⟨b, 0, none⟩)) (hy : a.eval y = .agg cells) (t : TypeId) (old : Array Value)
    (hh : w.heap[b]? = some (.cells old t)) (hi : (P.info? ty).map (·.size) = some cells.size) (hs : old.size = cells.size) (h1 : cells.all (·.oneCell') = true) (h : wpListIn F n P ops Q rest (a.put o.dst undef) (w.setRow b cells)) : wpListIn F n P ops Q (o :: rest) a w :=
  wpListIn_exec hg (by rw [ho]) undef _ (.inr ⟨by
    unfold execOp
    simp only [ho, hx, hy, Instr.storeAt, Instr.sureAddr, Sem.run_bind, Sem.run_pure, Result.andThen_ok, run_storeVar_row w b t ty old cells hh hi hs h1], rfl⟩) h
theorem wpListIn_load_mid (hg : o.guard = none) (ty : TypeId) (x : Operand) (ho : o.op = .load ty x) (b k : Nat) (hx : a.eval x = .pointer (some ⟨b, k, none⟩)) (cs : List Value) (d : TypeDesc) (hc : w.rangeAt b k cs)
    (hu : P.underlying ty = some d) (hd : d.isRow = true) (hi : (P.info? ty).map (·.size) = some cs.length) (h : wpListIn F n P ops Q rest (a.put o.dst (.agg cs.toArray)) w) : wpListIn F n P ops Q (o :: rest) a w :=
  wpListIn_exec hg (by rw [ho]) _ w (.inl (by
    have := run_loadAt_mid (P := P) w b k ty cs d hc hu hd hi
    unfold execOp
    simp only [ho, hx, Sem.run_bind, Sem.run_pure, this, Result.andThen_ok])) h
theorem wpListIn_load_ev {Q : Exit → Act → World → Prop} (hg : o.guard = none) (x : Operand) (ho : o.op = .load 41 x) (b k : Nat) (hx : a.eval x = .pointer (some ⟨b, k, none⟩)) (e : Ev) (hs : e.sum.length = 32) (hr : w.rangeAt b k (evr e).toList)
    (h : wpListIn F n Try.prog ops Q rest (a.put o.dst (.agg (evr e))) w) : wpListIn F n Try.prog ops Q (o :: rest) a w := by
  refine wpListIn_load_mid hg 41 x ho b k hx (evr e).toList _ hr Try.underlying41 rfl (by rw [Array.length_toList, evr_size, hs]; exact info41) ?_
  rw [Array.toArray_toList]; exact h
/-- The bytes of a whole row of bytes, as a text. -/
theorem wpListIn_conv (hg : o.guard = none) (s t : TypeId) (x : Operand) (ho : o.op = .convert s t x) (u v : Value) (hx : a.eval x = u) (hv : (convert s t u).run P w = .ok v w) (h : wpListIn F n P ops Q rest (a.put o.dst v) w) : wpListIn F n P ops Q (o :: rest) a w :=
  wpListIn_exec hg (by rw [ho]) v w (.inl (by
    unfold execOp
    simp only [ho, hx, Sem.run_bind, hv, Result.andThen_ok, Sem.run_pure])) h
theorem wpListIn_slice (hg : o.guard = none) (t : TypeId) (x : Operand) (ho : o.op = .slice t x none none none) (u v : Value) (hx : a.eval x = u) (hv : (Instr.sliceAt t u none none none).run P w = .ok v w) (h : wpListIn F n P ops Q rest (a.put o.dst v) w) : wpListIn F n P ops Q (o :: rest) a w :=
  wpListIn_exec hg (by rw [ho]) v w (.inl (by
    unfold execOp
    simp only [ho, hx, Option.map_none, Sem.run_bind, hv, Result.andThen_ok, Sem.run_pure])) h
end Go.Proofs.Ytfilolmbppjbjaa

namespace Go.Proofs.Ytfilolmbppjbjaa
open Go Go.RowKit

def tld (d : List UInt8) : List Ev → List (List UInt8 × List UInt8)
  | [] => []
  | e :: l => (d ++ putE e, nextD d e) :: tld (nextD d e) l
def told (l : List Ev) : List (List UInt8 × List UInt8) := if l.all okP then (CEN, startD) :: tld startD l else []
theorem tld_snoc (d : List UInt8) (l : List Ev) (e : Ev) : tld d (l ++ [e]) = tld d l ++ [(headD d l ++ putE e, nextD (headD d l) e)] := by
  induction l generalizing d with
  | nil => rfl
  | cons x l ih => simp only [List.cons_append, tld, ih]; rfl
theorem tld_take (d : List UInt8) (l : List Ev) (k : Nat) : tld d (l.take k) <+: tld d l := by
  induction l generalizing d k with
  | nil => simp [tld]
  | cons e l ih =>
    cases k with
    | zero => simp [tld]
    | succ k => simp only [List.take_succ_cons, tld]; exact List.cons_prefix_cons.2 ⟨rfl, ih _ _⟩
def encL (x : List UInt8 × List UInt8) : Array Value := #[.string ⟨x.1.toArray⟩, .agg (row x.2)]

/-- What the iterator knows between two rounds. -/
structure LW (J : List (List UInt8 × List UInt8) → World → Prop) (A : Nat → World → Prop) (n₀ : Nat) (W0 : World) (cb : Nat) (co : Obj) (hb : Nat) (pre : List (List UInt8 × List UInt8)) (D : List UInt8) (v : World) : Prop where
  j : J pre v
  ac : A cb v ∨ cb < n₀
  cc : v.heap[cb]? = some co
  ah : A hb v
  hh : v.heap[hb]? = some (.cells (row D) 26)
  bel : Below n₀ W0 v
  ne : cb ≠ hb
  ge : n₀ ≤ hb
  le : n₀ ≤ W0.heap.size
section
variable {J : List (List UInt8 × List UInt8) → World → Prop} {A : Nat → World → Prop} {n₀ : Nat} {W0 : World} {cb : Nat} {co : Obj} {hb : Nat} {pre : List (List UInt8 × List UInt8)} {D : List UInt8} {v : World}
theorem LW.past (h : LW J A n₀ W0 cb co hb pre D v) (hJg : ∀ s X Y, J s X → Below X.heap.size X Y → J s Y) (hAg : ∀ b X Y, A b X → Below X.heap.size X Y → A b Y) {v' : World} (hB : Below v.heap.size v v') : LW J A n₀ W0 cb co hb pre D v' :=
  { h with
    j := hJg _ _ _ h.j hB
    ac := h.ac.imp (fun q => hAg _ _ _ q hB) id
    cc := (hB.block _ (lt_of_some h.cc)).trans h.cc
    ah := hAg _ _ _ h.ah hB
    hh := (hB.block _ (lt_of_some h.hh)).trans h.hh
    bel := h.bel.trans (hB.mono (Nat.le_trans h.le h.bel.size)) }
theorem LW.row (h : LW J A n₀ W0 cb co hb pre D v) (hJr : ∀ s b X c, J s X → A b X → J s (X.setRow b c)) (hAr : ∀ b b' X c, A b X → A b' X → A b (X.setRow b' c)) (D' : List UInt8) : LW J A n₀ W0 cb co hb pre D' (v.setRow hb (row D')) :=
  { h with
    j := hJr _ _ _ _ h.j h.ah
    ac := h.ac.imp (fun q => hAr _ _ _ _ q h.ah) id
    cc := by rw [setRow_other _ _ _ _ h.ne]; exact h.cc
    ah := hAr _ _ _ _ h.ah h.ah
    hh := setRow_heap _ _ _ _ _ _ h.hh
    bel := below_setRow h.bel h.ge _ }
theorem LW.round {cc : Array Value} {tt : TypeId} (h : LW J A n₀ W0 cb (.cells cc tt) hb pre D v) {pre' : List (List UInt8 × List UInt8)} {v' : World} (hj : J pre' v') (hk : Keep n₀ A v v') : LW J A n₀ W0 cb (.cells cc tt) hb pre' D v' :=
  { h with
    j := hj
    ac := h.ac.imp (fun q => (hk.2 _ _ _ q h.cc).1) id
    cc := h.ac.elim (fun q => (hk.2 _ _ _ q h.cc).2) (fun q => (hk.1.block _ q).trans h.cc)
    ah := (hk.2 _ _ _ h.ah h.hh).1
    hh := (hk.2 _ _ _ h.ah h.hh).2
    bel := h.bel.trans hk.1 }
end

set_option maxRecDepth 100000 in
set_option maxHeartbeats 1000000 in
theorem links1 (l : List Ev) (hl : Fit l) (hn : l.length ≤ 1000) (p : Option Addr) (cap n₀ cb : Nat) (w : World) (hn₀ : n₀ ≤ w.heap.size) (hE : EvsAt n₀ w p l) (m : Nat) (hm : 1 ≤ m) :
    SeqX Fence.wide m Try.prog 37 #[.pointer (some ⟨cb, 0, none⟩)] encL n₀ cb (.cells #[.slice p l.length cap] 22) (told l) w := by
  intro lp J Jx A W hW hAc hcb hJg hJr hAg hAr hAn hY h0
  have hE' := Lib.hid (hE.past (hW.mono hn₀))
  have hfit := Lib.hid hl
  have hll : (l.length : Int) ≤ 1000 := by omega
  have hnW : Hid (n₀ ≤ W.heap.size) := Lib.hid (Nat.le_trans hn₀ hW.size)
  have cv := Lib.hid (fun v (h : EvsAt v.heap.size v p l) => valid_all l hl hn p cap v h)
  have hcell : W.cell? ⟨cb, 0, none⟩ = some (.slice p l.length cap) := cell_of_row W cb 0 _ _ _ hcb
  have cv1 := Lib.hid (cv.out W (hE'.out.mono hnW.out))
  clear hE hl hW hn₀
  refine callsIn_of_wp Try.func37 rfl trivial ?_ rfl
  simp only [Try.ntmps37, List.size_toArray, List.length_cons, List.length_nil, Nat.reduceAdd, Nat.reduceSub, Array.replicate_succ, Array.replicate_zero, List.push_toArray, List.append_toArray, List.nil_append, List.cons_append]
  cases hok : l.all okP with
  | false =>
    rw [hok] at cv1
    have hT : Hid (told l = []) := Lib.hid (by unfold told; rw [hok]; rfl)
    clear hok
    gi_wp2_with fail
    refine ⟨trivial, (callsIn_wide.2 cv1.out).mono ?_⟩
    rintro e W' ⟨rfl, hB⟩
    gi_wp2_with fail
    refine bodyPost_ret (results_none rfl _ _ _) rfl ?_
    exact ⟨⟨_, rfl⟩, .inl (by rw [hT.out]; exact hJg _ _ _ h0 hB)⟩
  | true =>
    rw [hok] at cv1
    have hT : Hid (told l = (CEN, startD) :: tld startD l) := Lib.hid (by unfold told; rw [hok]; rfl)
    have hall := Lib.hid (List.all_eq_true.1 hok)
    have hz := zero26
    have hz41 := z41
    have hstl : Hid (startD.length = 32) := Lib.hid (sha_len _)
    clear hok
    gi_wp2_with fail
    refine ⟨trivial, (callsIn_wide.2 cv1.out).mono ?_⟩
    rintro e W1 ⟨rfl, hB1⟩
    have hJ1 := Lib.hid (hJg _ _ _ h0 hB1)
    have hA1 := Lib.hid (hAc.imp (fun q => hAg _ _ _ q hB1) id)
    have hc1 := Lib.hid ((hB1.block _ (lt_of_some hcb)).trans hcb)
    have hw1 := Lib.hid (hB1.mono hnW.out)
    clear hB1 h0 hAc hcb hcell
    gi_wp2_with fail
    refine ⟨trivial, (callsIn_wide.2 (start_any W1)).mono ?_⟩
    rintro e W2 ⟨rfl, hB2⟩
    have hJ2 := Lib.hid (hJg _ _ _ hJ1.out hB2)
    have hA2 := Lib.hid (hA1.out.imp (fun q => hAg _ _ _ q hB2) id)
    have hc2 := Lib.hid ((hB2.block _ (lt_of_some hc1.out)).trans hc1.out)
    have hw2 := Lib.hid (hw1.out.trans (hB2.mono (Nat.le_trans hnW.out hw1.out.size)))
    clear hB2 hJ1 hA1 hc1 hw1
    have hL0 : Hid (LW J A n₀ W cb (.cells #[.slice p l.length cap] 22) W2.heap.size [] zs (W2.alloc (.cells (row zs) 26))) := Lib.hid {
      j := hJg _ _ _ hJ2.out ((Below.refl _ _).alloc (Nat.le_refl _) _)
      ac := hA2.out.imp (fun q => hAg _ _ _ q ((Below.refl _ _).alloc (Nat.le_refl _) _)) id
      cc := by rw [heap_alloc_if, if_neg (Nat.ne_of_lt (lt_of_some hc2.out))]; exact hc2.out
      ah := hAn _ _ hJ2.out
      hh := by rw [heap_alloc_if, if_pos rfl]
      bel := hw2.out.alloc (Nat.le_trans hnW.out hw2.out.size) _
      ne := Nat.ne_of_lt (lt_of_some hc2.out)
      ge := Nat.le_trans hnW.out hw2.out.size
      le := hnW.out }
    have hL1 := Lib.hid (hL0.out.row hJr hAr startD)
    obtain ⟨fn, tmps, assign, body, hy, hR⟩ := hY [] (CEN, startD) _ (by rw [hT.out]; simp) hL1.out.j
    dsimp only [encL] at hy
    have hR' := Lib.hid hR
    have hcen : (⟨CEN.toArray⟩ : ByteArray) = ⟨#[99, 101, 110, 111, 116, 97, 112, 104]⟩ := rfl
    rw [hcen] at hy
    clear hcen hR hJ2 hA2 hc2 hw2
    generalize startD = S at *
    gi_wp2_with (first
      | (with_reducible refine wpListIn_store_row rfl 26 (.tmp 3) (.tmp 12) rfl _ (row S) rfl rfl 26 _ hL0.out.hh (row26 S hstl.out) (row_eq _ _ zs_len hstl.out) (row_one S) ?_)
      | (with_reducible refine wpListIn_load_row rfl 26 (.tmp 3) rfl _ rfl 26 (row S) _ hL1.out.hh Try.underlying26 rfl (row26 S hstl.out) ?_))
    refine hR'.out.mono ?_
    rintro e W3 (⟨rfl, hJ3, hk3⟩ | ⟨rfl, hJx3⟩)
    case inr =>
      gi_wp2_with fail
      refine bodyPost_ret (results_none rfl _ _ _) rfl ?_
      exact ⟨⟨_, rfl⟩, .inr ⟨_, by rw [hT.out]; simp, hJx3⟩⟩
    have hL3 := Lib.hid (hL1.out.round hJ3 hk3)
    have hcc := cell_of_row W3 cb 0 _ _ _ hL3.out.cc
    simp only [List.getElem?_toArray, List.getElem?_cons_zero] at hcc
    clear hJ3 hk3 hL1 hL0 hy hR'
    gi_wp2_with fail
    gi_loopw [19] (fun i wr => ∃ k : Nat, k ≤ l.length ∧ i = .int .i64 (k : Int) ∧ Hid (LW J A n₀ W cb (.cells #[.slice p l.length cap] 22) W2.heap.size ((CEN, S) :: tld S (l.take k)) (headD S (l.take k)) wr)) (fun i _ => l.length - (intOf i).toNat)
    case atStart => exact ⟨0, Nat.zero_le _, rfl, hL3⟩
    case round =>
      obtain ⟨k, hk, rfl, hL⟩ := hrel
      by_cases hlt : k < l.length
      · have hb : (k : Int) < (l.length : Int) := by omega
        obtain ⟨b, o, rfl, hr⟩ := hE'.out.at k hlt
        have hr' := Lib.hid (hr wr hL.out.bel)
        have hft := Lib.hid (hfit.out _ (List.getElem_mem hlt))
        have hoke := Lib.hid (hall.out _ (List.getElem_mem hlt))
        have hes := Lib.hid hft.out.w.s
        have hts : Hid (tld S (l.take (k + 1)) = tld S (l.take k) ++ [(headD S (l.take k) ++ putE l[k], nextD (headD S (l.take k)) l[k])]) := Lib.hid (by rw [List.take_succ_eq_append_getElem hlt, tld_snoc])
        have hhd : Hid (headD S (l.take (k + 1)) = nextD (headD S (l.take k)) l[k]) := Lib.hid (by rw [List.take_succ_eq_append_getElem hlt, headD_snoc])
        have hDl := Lib.hid (headD_len S (l.take k) hstl.out)
        have hpre : Hid (((CEN, S) :: tld S (l.take k)) ++ [(headD S (l.take k) ++ putE l[k], nextD (headD S (l.take k)) l[k])] <+: told l) := Lib.hid (by
          rw [hT.out, List.cons_append, ← hts.out]
          exact List.cons_prefix_cons.2 ⟨rfl, tld_take _ _ _⟩)
        clear hr
        generalize l[k] = e at *
        generalize headD S (l.take k) = D at *
        have cput := Lib.hid (fun v => eput_true e hft.out.w (by have := hft.out.n; omega) hoke.out v)
        have hpe : Hid (putL (partsOf e) = putE e) := Lib.hid rfl
        rw [hpe.out] at cput
        have clink : Hid (∀ v, Calls Try.prog 34 #[.agg (row D), .string ⟨(putE e).toArray⟩] v fun r w' => r = .returned (.agg (row (nextD D e))) ∧ Below v.heap.size v w') := Lib.hid (fun v => by
          exact sh.link_any D hDl.out ⟨(putE e).toArray⟩ (by rw [mk_size]; have := putE_len e hft.out; omega) v)
        have hNl := Lib.hid (nextD_len D e)
        have hpl : (putE e).length ≤ 540 := putE_len e hft.out
        have hB0 : Hid (Below wr.heap.size wr ((wr.alloc (.cells (evr zeroE) 41)).setRow wr.heap.size (evr e))) := Lib.hid (below_setRow ((Below.refl _ _).alloc (Nat.le_refl _) _) (Nat.le_refl _) _)
        have hE0 : Hid ((wr.alloc (.cells (evr zeroE) 41)).heap[wr.heap.size]? = some (.cells (evr zeroE) 41)) := Lib.hid (by rw [heap_alloc_if, if_pos rfl])
        have hE1 := Lib.hid (setRow_heap _ _ _ (evr e) _ _ hE0.out)
        have hL4 := Lib.hid (hL.out.past hJg hAg hB0.out)
        clear hpe hB0
        generalize nextD D e = N at *
        generalize putE e = pe at *
        gi_wp2_with (first
          | (with_reducible refine wpListIn_load_ev rfl (.tmp 21) rfl b (o + k * 37) rfl e hes.out hr'.out ?_)
          | (with_reducible refine wpListIn_store_row rfl 41 (.tmp 5) (.tmp 22) rfl _ (evr e) rfl rfl 41 _ hE0.out (row41 e hes.out) (evr_same _ _ rfl hes.out) (evr_one e) ?_)
          | (with_reducible refine wpListIn_load_row rfl 41 (.tmp 5) rfl _ rfl 41 (evr e) _ hE1.out Try.underlying41 rfl (row41 e hes.out) ?_))
        refine ⟨trivial, (callsIn_wide.2 (cput.out _)).mono ?_⟩
        rintro r V ⟨rfl, hB5⟩
        have hL5 := Lib.hid (hL4.out.past hJg hAg hB5)
        have hadd : ¬ 9223372036854775807 < D.length + pe.length := by rw [hDl.out]; omega
        have hcv := conv_row V W2.heap.size 32 26 D hDl.out hL5.out.hh
        have hsl := slice_all W2.heap.size V
        clear hB5
        gi_wp2_with (first
          | (with_reducible refine wpListIn_slice rfl 26 (.tmp 3) rfl _ _ rfl hsl ?_)
          | (with_reducible refine wpListIn_conv rfl 44 9 (.tmp 28) rfl _ _ rfl hcv ?_)
          | (with_reducible refine wpListIn_load_row rfl 26 (.tmp 3) rfl _ rfl 26 (row D) _ hL5.out.hh Try.underlying26 rfl (row26 D hDl.out) ?_))
        refine ⟨trivial, (callsIn_wide.2 (clink.out _)).mono ?_⟩
        rintro r V2 ⟨rfl, hB6⟩
        have hL6 := Lib.hid (hL5.out.past hJg hAg hB6)
        have hL7 := Lib.hid (hL6.out.row hJr hAr N)
        obtain ⟨fn, tmps, assign, body, hy, hR⟩ := hY _ _ _ hpre.out hL7.out.j
        dsimp only [encL] at hy
        rw [← mk_app] at hy
        have hR' := Lib.hid hR
        clear hB6 hR hcv hsl
        gi_wp2_with (first
          | (with_reducible refine wpListIn_store_row rfl 26 (.tmp 3) (.tmp 34) rfl _ (row N) rfl rfl 26 _ hL6.out.hh (row26 N hNl.out) (row_eq _ _ hDl.out hNl.out) (row_one N) ?_)
          | (with_reducible refine wpListIn_load_row rfl 26 (.tmp 3) rfl _ rfl 26 (row N) _ hL7.out.hh Try.underlying26 rfl (row26 N hNl.out) ?_))
        refine hR'.out.mono ?_
        rintro e V3 (⟨rfl, hJ3, hk3⟩ | ⟨rfl, hJx3⟩)
        · have hL8 := Lib.hid (hL7.out.round hJ3 hk3)
          clear hJ3 hk3 hy hR'
          gi_wp2_with fail
          go_roundw
          case rel => exact ⟨k + 1, by omega, by go_num, Lib.hid (by rw [hts.out, hhd.out, ← List.cons_append]; exact hL8.out)⟩
          case measure => simp [intOf]; omega
        · gi_wp2_with fail
          refine bodyPost_ret (results_none rfl _ _ _) rfl ?_
          exact ⟨⟨_, rfl⟩, .inr ⟨_, hpre.out, hJx3⟩⟩
      · obtain rfl : k = l.length := by omega
        have hb : ¬ (l.length : Int) < (l.length : Int) := by omega
        have hj : Hid (J (told l) wr) := Lib.hid (by have := hL.out.j; rw [List.take_length] at this; rw [hT.out]; exact this)
        gi_wp2_with fail
        go_end0
        exact ⟨⟨_, rfl⟩, .inl hj.out⟩
end Go.Proofs.Ytfilolmbppjbjaa

namespace Go.Proofs.Ytfilolmbppjbjaa
open Go Go.RowKit

theorem KW.rowOther {B : Nat} {w v : World} {L : List (Nat × Obj)} (h : KW B w L v) {b : Nat} (hb : B ≤ b) (hn : b ∉ L.map Prod.fst) (c : Array Value) : KW B w L (v.setRow b c) :=
  ⟨h.le, below_setRow h.bel hb _, fun x hx => by
    rw [setRow_other _ _ _ _ (fun e => hn (by rw [← e]; exact List.mem_map_of_mem hx))]; exact h.has x hx, h.nd⟩
theorem KW.obj {B : Nat} {w v : World} {L : List (Nat × Obj)} (h : KW B w L v) (hc : ∀ x ∈ L, x.2.isCells = true) {k : Nat} {o : Obj} (o' : Obj) (hk : B ≤ k) (hh : v.heap[k]? = some o) (ho : o.isCells = false) : KW B w L (v.putObj k o') :=
  ⟨h.le, h.bel.trans ((Below.refl B v).grown (grownBy_putObj' v k o') (by have := lt_of_some hh; omega) (fun j e => by cases e; omega)), fun x hx => by
    have h1 := h.has x hx
    have hne : x.1 ≠ k := by
      intro e
      rw [e, hh] at h1
      cases h1
      rw [hc x hx] at ho
      cases ho
    rw [heap_putObj_ne hne]; exact h1, h.nd⟩

/-- The box B, of type t, holds a slice that owns xs. -/
def SC (n₀ B : Nat) (t e : TypeId) (sz : Nat) (k : Nat) (xs : List Value) (W : World) : Prop := ∃ v, Boxed W B t v ∧ W.ownsRow n₀ e sz v k xs ∧ (k = 0 → v = .slice none 0 0)
/-- The slice of the box B lies behind b. -/
def SB (B : Nat) (t : TypeId) (b : Nat) (W : World) : Prop := b ≠ B ∧ ∃ v, Boxed W B t v ∧ b < W.heap.size ∧ ∀ g, v.ownBlock = some g → b < g
theorem own_lt {n₀ : Nat} {e : TypeId} {sz k : Nat} {xs : List Value} {W : World} {v : Value} (h : W.ownsRow n₀ e sz v k xs) {g : Nat} (hg : v.ownBlock = some g) : ∃ c, W.heap[g]? = some (.cells c e) ∧ n₀ ≤ g := by
  rcases h.2 with ⟨rfl, _⟩ | ⟨g', cap, cur, rfl, h1, h2, _⟩
  · cases hg
  · cases hg; exact ⟨cur, h2, h1⟩
theorem own_same {n₀ : Nat} {e : TypeId} {sz k : Nat} {xs : List Value} {W W' : World} {v : Value} (h : W.ownsRow n₀ e sz v k xs) (hs : ∀ g, v.ownBlock = some g → W'.heap[g]? = W.heap[g]?) : W'.ownsRow n₀ e sz v k xs := by
  refine ⟨h.1, ?_⟩
  rcases h.2 with h0 | ⟨g, cap, cur, rfl, h1, h2, h3⟩
  · exact .inl h0
  · exact .inr ⟨g, cap, cur, rfl, h1, (hs g rfl).trans h2, h3⟩
theorem own_base {n₀ : Nat} {e : TypeId} {sz k : Nat} {xs : List Value} {W : World} {v : Value} (h : W.ownsRow n₀ e sz v k xs) (hn : n₀ ≤ W.heap.size) : ∃ base, W.ownsRow base e sz v k xs ∧ n₀ ≤ base ∧ base ≤ W.heap.size ∧ ∀ b, b < W.heap.size → (∀ g, v.ownBlock = some g → b < g) → b < base := by
  rcases h.2 with ⟨rfl, h0⟩ | ⟨g, cap, cur, rfl, h1, h2, h3⟩
  · exact ⟨W.heap.size, ⟨h.1, .inl ⟨rfl, h0⟩⟩, hn, Nat.le_refl _, fun b hb _ => hb⟩
  · exact ⟨g, ⟨h.1, .inr ⟨g, cap, cur, rfl, Nat.le_refl _, h2, h3⟩⟩, h1, Nat.le_of_lt (lt_of_some h2), fun b _ hb => hb g rfl⟩
theorem own_mono {n₀ base : Nat} {e : TypeId} {sz k : Nat} {xs : List Value} {W : World} {v : Value} (h : W.ownsRow base e sz v k xs) (hn : n₀ ≤ base) : W.ownsRow n₀ e sz v k xs := by
  refine ⟨h.1, ?_⟩
  rcases h.2 with h0 | ⟨g, cap, cur, rfl, h1, h2, h3⟩
  · exact .inl h0
  · exact .inr ⟨g, cap, cur, rfl, by omega, h2, h3⟩

theorem SC.grow {n₀ B : Nat} {t e : TypeId} {sz k : Nat} {xs : List Value} {X Y : World} (h : SC n₀ B t e sz k xs X) (hb : Below X.heap.size X Y) : SC n₀ B t e sz k xs Y := by
  obtain ⟨v, h1, h2, h3⟩ := h
  exact ⟨v, (hb.block _ h1.lt).trans h1, own_same h2 (fun g hg => by obtain ⟨c, hc, _⟩ := own_lt h2 hg; exact hb.block _ (lt_of_some hc)), h3⟩
theorem SC.row {n₀ B : Nat} {t e : TypeId} {sz k : Nat} {xs : List Value} {X : World} (h : SC n₀ B t e sz k xs X) {b : Nat} (hb : SB B t b X) (c : Array Value) : SC n₀ B t e sz k xs (X.setRow b c) := by
  obtain ⟨v, h1, h2, h3⟩ := h
  obtain ⟨hne, v', h1', hl, hg'⟩ := hb
  obtain rfl : v = v' := by have := (show X.heap[B]? = _ from h1).symm.trans h1'; simpa using this
  exact ⟨v, (setRow_other _ _ _ _ (Ne.symm hne)).trans h1, own_same h2 (fun g hg => setRow_other _ _ _ _ (by have := hg' g hg; omega)), h3⟩
theorem SC.obj {n₀ B : Nat} {t e : TypeId} {sz k : Nat} {xs : List Value} {X : World} (h : SC n₀ B t e sz k xs X) {j : Nat} {o : Obj} (o' : Obj) (hh : X.heap[j]? = some o) (ho : o.isCells = false) : SC n₀ B t e sz k xs (X.putObj j o') := by
  obtain ⟨v, h1, h2, h3⟩ := h
  have hne : ∀ g c t', X.heap[g]? = some (.cells c t') → g ≠ j := by
    intro g c t' hg e
    rw [e, hh] at hg
    cases hg
    cases ho
  exact ⟨v, (heap_putObj_ne (hne B _ _ h1)).trans h1, own_same h2 (fun g hg => by obtain ⟨c, hc, _⟩ := own_lt h2 hg; exact heap_putObj_ne (hne g _ _ hc)), h3⟩
theorem SB.grow {B : Nat} {t : TypeId} {b : Nat} {X Y : World} (h : SB B t b X) (hb : Below X.heap.size X Y) : SB B t b Y := by
  obtain ⟨hne, v, h1, hl, hg⟩ := h
  exact ⟨hne, v, (hb.block _ h1.lt).trans h1, Nat.lt_of_lt_of_le hl hb.size, hg⟩
theorem SB.row {B : Nat} {t : TypeId} {b b' : Nat} {X : World} (h : SB B t b X) (h' : SB B t b' X) (c : Array Value) : SB B t b (X.setRow b' c) := by
  obtain ⟨hne, v, h1, hl, hg⟩ := h
  exact ⟨hne, v, (setRow_other _ _ _ _ (Ne.symm h'.1)).trans h1, by simpa [World.setRow] using hl, hg⟩
theorem SB.obj {B : Nat} {t : TypeId} {b j : Nat} {X : World} {o : Obj} (h : SB B t b X) (o' : Obj) (hh : X.heap[j]? = some o) (ho : o.isCells = false) : SB B t b (X.putObj j o') := by
  obtain ⟨hne, v, h1, hl, hg⟩ := h
  refine ⟨hne, v, (heap_putObj_ne ?_).trans h1, by simpa [World.putObj] using hl, hg⟩
  intro e
  have h1' : X.heap[B]? = _ := h1
  rw [e, hh] at h1'
  cases h1'
  cases ho
theorem SB.new {n₀ B : Nat} {t e : TypeId} {sz : Nat} {X : World} (h : SC n₀ B t e sz 0 [] X) (o : Obj) : SB B t X.heap.size (X.alloc o) := by
  obtain ⟨v, h1, h2, h3⟩ := h
  exact ⟨Nat.ne_of_gt h1.lt, v, h1.alloc o, by simp, fun g hg => by rw [h3 rfl] at hg; cases hg⟩

/-- Behind 'x = append(x, ..)': what a row that is apart bears. -/
theorem appended_keep {n₀ base B : Nat} {t e : TypeId} {sz k m : Nat} {xs ys : List Value} {W w1 : World} {v v' : Value} {tmp : Obj} (hv : Boxed W B t v) (hte : t ≠ e) (hrow : W.ownsRow n₀ e sz v k xs)
    (hb : ∀ b, b < W.heap.size → (∀ g, v.ownBlock = some g → b < g) → b < base) (hown : w1.ownsRow base e sz v' m ys) (hgrow : (W.alloc tmp).grownBy w1 v.ownBlock) :
    ∀ b c t', SB B t b W → W.heap[b]? = some (.cells c t') → SB B t b (w1.setCell ⟨B, 0, none⟩ v') ∧ (w1.setCell ⟨B, 0, none⟩ v').heap[b]? = some (.cells c t') := by
  rintro b c t' ⟨hne, u, h1, hl, hg⟩ hbc
  obtain rfl : v = u := by have := (show W.heap[B]? = _ from hv).symm.trans h1; simpa using this
  have hv1 : Boxed w1 B t v := (hv.alloc tmp).kept hgrow (hv.not_row hte hrow)
  have hk : w1.heap[b]? = some (.cells c t') := by
    rw [hgrow.block b (by simp; omega) (fun e' => by have := hg b e'.symm; omega), heap_alloc_if, if_neg (by omega)]
    exact hbc
  refine ⟨⟨hne, v', hv1.set v', ?_, fun g hg' => ?_⟩, by rw [Below.heap_setCell _ _ _ _ hne]; exact hk⟩
  · exact lt_of_some (show (w1.setCell ⟨B, 0, none⟩ v').heap[b]? = _ by rw [Below.heap_setCell _ _ _ _ hne]; exact hk)
  · obtain ⟨_, _, hge⟩ := own_lt hown hg'
    have := hb b hl hg
    omega
theorem SB.rowNe {B : Nat} {t : TypeId} {b b' : Nat} {X : World} (h : SB B t b X) (h' : b' ≠ B) (c : Array Value) : SB B t b (X.setRow b' c) := by
  obtain ⟨hne, v, h1, hl, hg⟩ := h
  exact ⟨hne, v, (setRow_other _ _ _ _ (Ne.symm h')).trans h1, by simpa [World.setRow] using hl, hg⟩
theorem SC.rowNe {n₀ B : Nat} {t e : TypeId} {sz k : Nat} {xs : List Value} {X : World} (h : SC n₀ B t e sz k xs X) {b : Nat} (hb : b ≠ B) {c0 : Array Value} {t' : TypeId} (hh : X.heap[b]? = some (.cells c0 t')) (ht : t' ≠ e) (c : Array Value) : SC n₀ B t e sz k xs (X.setRow b c) := by
  obtain ⟨v, h1, h2, h3⟩ := h
  refine ⟨v, (setRow_other _ _ _ _ (Ne.symm hb)).trans h1, own_same h2 (fun g hg => setRow_other _ _ _ _ ?_), h3⟩
  intro e'
  obtain ⟨cur, hc, _⟩ := own_lt h2 hg
  rw [e', hh] at hc
  cases hc
  exact ht rfl
/-- Behind 'x = append(x, ..)': a row of another type is as it was. -/
theorem appended_has {n₀ B : Nat} {e : TypeId} {sz k : Nat} {xs : List Value} {W w1 : World} {v v' : Value} {tmp : Obj} (hrow : W.ownsRow n₀ e sz v k xs) (hgrow : (W.alloc tmp).grownBy w1 v.ownBlock)
    {b : Nat} {c : Array Value} {t' : TypeId} (hb : W.heap[b]? = some (.cells c t')) (hne : b ≠ B) (ht : t' ≠ e) : (w1.setCell ⟨B, 0, none⟩ v').heap[b]? = some (.cells c t') := by
  rw [Below.heap_setCell _ _ _ _ hne, hgrow.block b (by have := lt_of_some hb; simp; omega) (fun e' => ?_), heap_alloc_if, if_neg (Nat.ne_of_lt (lt_of_some hb))]
  · exact hb
  · obtain ⟨cur, hc, _⟩ := own_lt hrow e'.symm
    rw [hb] at hc
    cases hc
    exact ht rfl
end Go.Proofs.Ytfilolmbppjbjaa

namespace Go.Proofs.Ytfilolmbppjbjaa
open Go Go.RowKit

theorem fill_dig (d : List UInt8) (hd : d.length = 32) : Instr.fill (fun i => some (i * 32, 32)) ((Array.range (1 * 32)).map ((row zs)[· % (row zs).size]!)) [(0, .agg (row d))] = some (row d) := by
  obtain ⟨b0, b1, b2, b3, b4, b5, b6, b7, b8, b9, b10, b11, b12, b13, b14, b15, b16, b17, b18, b19, b20, b21, b22, b23, b24, b25, b26, b27, b28, b29, b30, b31, rfl⟩ := ex32 d hd
  kernel_rfl
theorem fill_ev (e : Ev) (hs : e.sum.length = 32) : Instr.fill (fun i => some (i * 37, 37)) ((Array.range (1 * 37)).map ((evr zeroE)[· % (evr zeroE).size]!)) [(0, .agg (evr e))] = some (evr e) := by
  have key : ∀ (k i t ln : Int) (nm d : List UInt8), d.length = 32 → Instr.fill (fun i => some (i * 37, 37)) ((Array.range (1 * 37)).map ((evr zeroE)[· % (evr zeroE).size]!)) [(0, .agg (evr ⟨k, i, nm, t, ln, d⟩))] = some (evr ⟨k, i, nm, t, ln, d⟩) := by
    intro k i t ln nm d hd
    obtain ⟨b0, b1, b2, b3, b4, b5, b6, b7, b8, b9, b10, b11, b12, b13, b14, b15, b16, b17, b18, b19, b20, b21, b22, b23, b24, b25, b26, b27, b28, b29, b30, b31, rfl⟩ := ex32 d hd
    kernel_rfl
  exact key e.kind e.id e.time e.len e.name e.sum hs
theorem build_dig (d : List UInt8) (hd : d.length = 32) (w : World) : (Instr.buildSlice 35 1 #[(0, .agg (row d))]).run Try.prog w = .ok (.slice (some ⟨w.heap.size, 0, none⟩) 1 1) (w.alloc (.cells (row d) 26)) := by
  have hf := fill_dig d hd
  have h1 : (sizeOf 26).run Try.prog w = .ok 32 w := Try.sizeOf26 w
  unfold Instr.buildSlice
  simp only [Sem.run_bind, run_underlying Try.underlying35, Result.andThen_ok, h1]
  simp only [show ¬ (1 * 32 > 2 ^ 24) by decide, show ¬ (1 * 32 = 0) by decide, if_false, Sem.run_bind, Sem.run_pure, Result.andThen_ok, zero26, Value.cells]
  rw [hf]
  simp [newRow, go_sem]
theorem build_ev (e : Ev) (hs : e.sum.length = 32) (w : World) : (Instr.buildSlice 22 1 #[(0, .agg (evr e))]).run Try.prog w = .ok (.slice (some ⟨w.heap.size, 0, none⟩) 1 1) (w.alloc (.cells (evr e) 41)) := by
  have hf := fill_ev e hs
  have h1 : (sizeOf 41).run Try.prog w = .ok 37 w := Try.sizeOf41 w
  unfold Instr.buildSlice
  simp only [Sem.run_bind, run_underlying Try.underlying22, Result.andThen_ok, h1]
  simp only [show ¬ (1 * 37 > 2 ^ 24) by decide, show ¬ (1 * 37 = 0) by decide, if_false, Sem.run_bind, Sem.run_pure, Result.andThen_ok, z41, Value.cells]
  rw [hf]
  simp [newRow, go_sem]
section
variable {F : Fence} {n : Nat} {P : Program} {ops : Array Oper} {rest : List Oper} {o : Oper} {a : Act} {w : World} {Q : Exit → Act → World → Prop}
theorem wpListIn_build1 (hg : o.guard = none) (t : TypeId) (x : Operand) (ho : o.op = .buildSlice t 1 #[(0, x)]) (u v : Value) (hx : a.eval x = u) (w' : World) (hv : (Instr.buildSlice t 1 #[(0, u)]).run P w = .ok v w')
    (h : wpListIn F n P ops Q rest (a.put o.dst v) w') : wpListIn F n P ops Q (o :: rest) a w :=
  wpListIn_exec hg (by rw [ho]) v w' (.inl (by
    unfold execOp
    simp only [ho, List.map_toArray, List.map_cons, List.map_nil, hx, Sem.run_bind, hv, Result.andThen_ok, Sem.run_pure])) h
theorem wpList_build1 (hg : o.guard = none) (t : TypeId) (x : Operand) (ho : o.op = .buildSlice t 1 #[(0, x)]) (u v : Value) (hx : a.eval x = u) (w' : World) (hv : (Instr.buildSlice t 1 #[(0, u)]).run P w = .ok v w')
    (h : wpList P ops Q rest (a.put o.dst v) w') : wpList P ops Q (o :: rest) a w :=
  wpList_plain hg fun _ hK => by
    unfold Oper.wp execOp
    simp only [ho, List.map_toArray, List.map_cons, List.map_nil, hx, Sem.run_bind, hv, Result.andThen_ok, Sem.run_pure]
    exact hK _ _ h
end
end Go.Proofs.Ytfilolmbppjbjaa

namespace Go.Proofs.Ytfilolmbppjbjaa
open Go Go.RowKit
attribute [local go_sem] Oper.semAt_some

theorem tld_fine (d : List UInt8) (hd : d.length = 32) (l : List Ev) (hl : Fit l) : ∀ x ∈ tld d l, x.1.length ≤ 600 ∧ x.2.length = 32 := by
  induction l generalizing d with
  | nil => intro x hx; cases hx
  | cons e l ih =>
    intro x hx
    rcases List.mem_cons.1 hx with rfl | hx
    · refine ⟨?_, nextD_len _ _⟩
      have := putE_len e (hl e (by simp))
      show (d ++ putE e).length ≤ _
      rw [List.length_append]; omega
    · exact ih _ (nextD_len _ _) (fun e he => hl e (by simp [he])) x hx
theorem told_fine (l : List Ev) (hl : Fit l) : ∀ x ∈ told l, x.1.length ≤ 600 ∧ x.2.length = 32 := by
  unfold told
  split
  · intro x hx
    rcases List.mem_cons.1 hx with rfl | hx
    · exact ⟨by decide, sha_len _⟩
    · exact tld_fine _ (sha_len _) l hl x hx
  · intro x hx; cases hx
theorem told_len (l : List Ev) : (told l).length ≤ l.length + 1 := by
  have : ∀ d, (tld d l).length = l.length := by
    induction l with
    | nil => intro d; rfl
    | cons e l ih => intro d; simp [tld, ih]
  unfold told
  split
  · simp [this]
  · simp
def digs (l : List (List UInt8 × List UInt8)) : List Value := (l.map fun x => (row x.2).toList).flatten
theorem digs_snoc (l : List (List UInt8 × List UInt8)) (x : List UInt8 × List UInt8) : digs (l ++ [x]) = digs l ++ (row x.2).toList := by simp [digs]

set_option maxHeartbeats 1000000 in
theorem links_any (p : Option Addr) (k cap : Nat) (w : World) :
    Calls Try.prog 20 #[.slice p k cap] w fun e w' => e = .returned (.func (.func 37) #[] #[.pointer (some ⟨w.heap.size, 0, none⟩)]) ∧ w' = w.alloc (.cells #[.slice p k cap] 22) := by
  go_enter Try.func20, Try.ntmps20
  go_wp2_with fail
  go_ret
  exact ⟨rfl, rfl⟩

theorem keepsFrom_below {B : Nat} {W W' : World} (h : Below W.heap.size W W') : KeepsFrom B W W' := ⟨h.size, fun k _ _ hk _ => (h.block k (lt_of_some hk)).trans hk⟩
theorem keep_below {α : Type} {B n₀ : Nat} {A : Nat → World → Prop} {I : List α → World → Prop} (hA : Aparts B A I) {W W' : World} (hn : n₀ ≤ W.heap.size) (h : Below W.heap.size W W') : Keep n₀ A W W' :=
  ⟨h.mono hn, fun b _ _ ha hb => ⟨hA.grow b _ _ ha h, (h.block b (lt_of_some hb)).trans hb⟩⟩
theorem info26 : (Try.prog.info? 26).map (fun i => (i.zero, i.size, i.bytes)) = some (some (.agg (row zs)), 32, 32) := by kernel_rfl

set_option maxRecDepth 100000 in
set_option maxHeartbeats 1000000 in
theorem heads_any (l : List Ev) (hl : Fit l) (hn : l.length ≤ 1000) (p : Option Addr) (cap : Nat) (w : World) (hE : EvsAt w.heap.size w p l) :
    Calls Try.prog 15 #[.slice p l.length cap] w fun r w' => ∃ v, r = .returned v ∧ w'.ownsRow w.heap.size 26 32 v (told l).length (digs (told l)) ∧ Below w.heap.size w w' := by
  refine (callsIn_wide (n := 5)).1 ?_
  have hfine := Lib.hid (told_fine l hl)
  have hTl := told_len l
  have hseq := Lib.hid (fun v hv he => links1 l hl hn p cap w.heap.size (w.heap.size + 1) v hv he 4 (by decide))
  have hz := zero26
  clear hl
  refine callsIn_of_wp_marks Try.func15 rfl trivial ?_ rfl
  simp only [Try.ntmps15, List.size_toArray, List.length_cons, List.length_nil, Nat.reduceAdd, Nat.reduceSub, Array.replicate_succ, Array.replicate_zero, List.push_toArray, List.append_toArray, List.nil_append, List.cons_append]
  gi_wp2_with fail
  refine ⟨trivial, (callsIn_wide.2 (links_any p l.length cap _)).mono ?_⟩
  rintro e w1 ⟨rfl, rfl⟩
  gi_wp2_with fail
  have hE1 : Hid (EvsAt w.heap.size ((w.alloc (.cells #[.slice none 0 0] 35)).alloc (.cells #[.slice p l.length cap] 22)) p l) := Lib.hid (hE.past (((Below.refl _ _).alloc (Nat.le_refl _) _).alloc (by simp) _))
  have hK1 : Hid (KW w.heap.size w [] ((w.alloc (.cells #[.slice none 0 0] 35)).alloc (.cells #[.slice p l.length cap] 22))) := Lib.hid (((KW.start w).new _).new _).drop.drop
  have hbx : Hid (Boxed ((w.alloc (.cells #[.slice none 0 0] 35)).alloc (.cells #[.slice p l.length cap] 22)) w.heap.size 35 (.slice none 0 0)) := Lib.hid ((Boxed.new w 35 _).alloc _)
  have hcb : Hid (((w.alloc (.cells #[.slice none 0 0] 35)).alloc (.cells #[.slice p l.length cap] 22)).heap[w.heap.size + 1]? = some (.cells #[.slice p l.length cap] 22)) := Lib.hid (by rw [heap_alloc_if, if_pos (by simp)])
  have hsz : ((w.alloc (.cells #[.slice none 0 0] 35)).alloc (.cells #[.slice p l.length cap] 22)).heap.size = w.heap.size + 2 := by simp
  generalize (w.alloc (.cells #[.slice none 0 0] 35)).alloc (.cells #[.slice p l.length cap] 22) = V at *
  refine wpIn_rangeX rfl (by decide) (gf := 37) (lb := #[.pointer (some ⟨w.heap.size + 1, 0, none⟩)]) rfl trivial (enters_of Try.func37 (by kernel_rfl) rfl)
    (hseq.out V (by omega) hE1.out) (by omega) (fun _ => rfl)
    (fun b W => w.heap.size ≤ b ∧ SB w.heap.size 35 b W)
    (fun pre W => KW w.heap.size w [] W ∧ SC w.heap.size w.heap.size 35 26 32 pre.length (digs pre) W)
    (fun _ _ _ => False)
    { grow := fun s X Y h hb => ⟨h.1.past hb, h.2.grow hb⟩
      row := fun s b X c h hb => ⟨h.1.rowOther hb.1 (by simp) c, h.2.row hb.2 c⟩
      obj := fun s k X o o' h hk hh ho => ⟨h.1.obj (by simp) o' (by omega) hh ho, h.2.obj o' hh ho⟩ }
    (fun _ _ _ _ _ _ h _ _ _ => h)
    { grow := fun b X Y h hb => ⟨h.1, h.2.grow hb⟩
      row := fun b b' X c h h' => ⟨h.1, h.2.row h'.2 c⟩
      obj := fun b k X o o' h hk hh ho => ⟨h.1, h.2.obj o' hh ho⟩
      new := fun X o h => ⟨h.1.size, SB.new h.2 o⟩ }
    ⟨hK1.out, _, hbx.out, World.ownsRow_nil _ _ _ _, fun _ => rfl⟩
    (.inl ⟨by omega, by omega, _, hbx.out, by omega, fun g hg => by cases hg⟩) hcb.out
    (fun x a' W => ∃ Bx, a' = { tmps := #[.slice p l.length cap, undef, .slice none 0 0, .pointer (some ⟨w.heap.size, 0, none⟩), undef, .pointer (some ⟨Bx, 0, none⟩), .slice p l.length cap, .func (.func 37) #[] #[.pointer (some ⟨w.heap.size + 1, 0, none⟩)], .string ⟨x.1.toArray⟩, .agg (row x.2), undef, undef, undef, undef, undef], defers := [] } ∧ W.heap[Bx]? = some (.cells (row x.2) 26))
    ?ax ?assign ?body ?done ?stop
  case ax =>
    rintro x a' k X o o' ⟨Bx, rfl, hB⟩ hk hh ho
    refine ⟨Bx, rfl, (heap_putObj_ne ?_).trans hB⟩
    intro e
    rw [e, hh] at hB
    cases hB
    cases ho
  case assign =>
    rintro lp pre x W K hpx hI hK
    have hx2 := Lib.hid (hfine.out x (hpx.subset (by simp))).2
    dsimp only [encL]
    have hE0 : Hid ((W.alloc (.cells (row zs) 26)).heap[W.heap.size]? = some (.cells (row zs) 26)) := Lib.hid (by rw [heap_alloc_if, if_pos rfl])
    gi_wp2_with (with_reducible refine wpListIn_store_row rfl 26 (.tmp 5) (.tmp 9) rfl _ (row x.2) rfl rfl 26 _ hE0.out (row26 x.2 hx2.out) (row_eq _ _ zs_len hx2.out) (row_one x.2) ?_)
    have hB0 : Below W.heap.size W ((W.alloc (.cells (row zs) 26)).setRow W.heap.size (row x.2)) := below_setRow ((Below.refl _ _).alloc (Nat.le_refl _) _) (Nat.le_refl _) _
    exact hK _ _ (keepsFrom_below hB0) ⟨hB0.mono hI.1.size, fun b _ _ ha hb => ⟨⟨ha.1, ha.2.grow hB0⟩, (hB0.block b (lt_of_some hb)).trans hb⟩⟩ ⟨hI.1.past hB0, hI.2.grow hB0⟩ ⟨_, rfl, setRow_heap _ _ _ _ _ _ hE0.out⟩
  case body =>
    rintro lp pre x a' W hpx ⟨hK, v, hv, hown, hv0⟩ ⟨Bx, rfl, hBx⟩
    have hx2 := Lib.hid (hfine.out x (hpx.subset (by simp))).2
    have hpl : pre.length ≤ l.length := by have := hpx.length_le; simp at this; omega
    obtain ⟨base, hob, hb1, hb2, hb3⟩ := own_base hown hK.size
    have hcv := hv.cell
    have hBx' := Lib.hid hBx
    obtain ⟨i0, hi, hz0, hz1, hz2⟩ := info_parts info26
    have hnil : v = .slice none 0 0 ∨ ∃ g m c, v = .slice (some ⟨g, 0, none⟩) m c := by
      rcases hown.2 with ⟨h, _⟩ | ⟨g, c, _, h, _⟩
      · exact .inl h
      · exact .inr ⟨g, _, c, h⟩
    have hcx : Hid (∀ j u, (row x.2).toList[j]? = some u → (W.alloc (.cells (row x.2) 26)).cell? ((⟨W.heap.size, 0, none⟩ : Addr).add j) = some u) := Lib.hid (fun j u hu => by
      rw [Addr.add_mid, Nat.zero_add]
      exact cell_new W _ 26 j u (by simpa using hu))
    have hbd := Lib.hid (build_dig x.2 hx2.out W)
    have hob' := Lib.hid (hob.alloc (.cells (row x.2) 26))
    have hlen : Hid ((row x.2).toList.length = 1 * 32) := Lib.hid (by rw [Array.length_toList, row_size, hx2.out])
    have hone : Hid (∀ u ∈ (row x.2).toList, u.oneCell' = true) := Lib.hid (fun u hu => (Array.all_eq_true_iff_forall_mem.1 (row_one x.2)) u (by simpa using hu))
    rcases hnil with rfl | ⟨g, m, c, rfl⟩
    all_goals
      gi_wp2_with (first
        | (with_reducible refine wpListIn_load_row rfl 26 (.tmp 5) rfl _ rfl 26 (row x.2) _ hBx'.out Try.underlying26 rfl (row26 x.2 hx2.out) ?_)
        | (with_reducible refine wpListIn_build1 rfl 35 (.tmp 11) rfl (.agg (row x.2)) (.slice (some ⟨W.heap.size, 0, none⟩) 1 1) rfl (W.alloc (.cells (row x.2) 26)) hbd.out ?_)
        | (gi_at_builtin; refine wpListIn_append_own _ rfl _ _ 35 rfl base 26 i0 (.agg (row zs)) 32 32 Try.underlying35 hi hz0 hz1 hz2 rfl (by decide) _ pre.length (digs pre) rfl hob'.out ⟨W.heap.size, 0, none⟩ 1 1 (row x.2).toList rfl hlen.out hcx.out hone.out (by unfold maxLen; omega) (by omega) (by simp; omega) ?_; intro v' w1 hown' hgrow _; obtain ⟨g', cap', rfl⟩ := ownsRow_succ hown'; obtain ⟨hv1, hv2, hr2, hk2, hb2⟩ := hv.appended (by decide) hown hK.size (Nat.le_refl _) (own_mono hown' hb1) hgrow; have hkp := appended_keep hv (by decide) hown hb3 hown' hgrow; have hc1 := hv1.cell; have hf1 := hv1.frozen))
    all_goals exact ⟨hk2.from _, ⟨hb2, fun b c t' ha hb => by obtain ⟨p1, p2⟩ := hkp b c t' ha.2 hb; exact ⟨⟨ha.1, p1⟩, p2⟩⟩, ⟨hK.le, hK.bel.trans hb2, fun _ h => (by cases h), hK.nd⟩, _, hv2, by rw [digs_snoc]; simpa using hr2, by simp⟩
  case done =>
    rintro D W hD ⟨hK, v, hv, hown, _⟩ hdef
    have hcv := hv.cell
    gi_wp2_with fail
    refine ⟨by simp, .inl ⟨_, _, rfl, run_takeDeferred hdef, ?_⟩⟩
    refine ⟨_, results_tmp rfl _ _ _, v, rfl, ownsRow_putObj hown _ hdef rfl, ?_⟩
    exact hK.bel.trans (belowK_b (w := w) (Nat.le_refl _) W D _ _ (by omega) hdef rfl rfl)
  case stop => exact fun _ _ _ _ _ _ h _ => h.elim
end Go.Proofs.Ytfilolmbppjbjaa

namespace Go.Proofs.Ytfilolmbppjbjaa
open Go Go.RowKit
attribute [local go_sem] Oper.semAt_some

def inpD (l : List Ev) (i : Int) : List UInt8 := if 0 ≤ i then (((told l)[i.toNat]?).map Prod.fst).getD [] else []
theorem inp_found {l : List Ev} {i : Int} {q : List (List UInt8 × List UInt8)} {x : List UInt8 × List UInt8} (hp : q ++ [x] <+: told l) (hq : (q.length : Int) = i) : inpD l i = x.1 := by
  obtain ⟨r, hr⟩ := hp
  unfold inpD
  rw [if_pos (by omega), ← hr, show i.toNat = q.length by omega]
  simp
theorem inp_none {l : List Ev} {i : Int} (h : ∀ j : Nat, j < (told l).length → (j : Int) ≠ i) : inpD l i = [] := by
  unfold inpD
  split
  · rename_i h0
    rw [List.getElem?_eq_none (by
      apply Nat.le_of_not_lt
      intro hlt
      exact h i.toNat hlt (by omega))]
    rfl
  · rfl

theorem results_one {fn : Func} {p : Tmp} {ty : TypeId} (h : fn.results = #[.cell p ty]) (tmps : Array Value) (b : Nat) (hp : tmps.getD p undef = .pointer (some ⟨b, 0, none⟩)) (w : World) {v : Value} (hc : w.cell? ⟨b, 0, none⟩ = some v) (ha : ∀ w, (isAgg ty).run Try.prog w = .ok false w) :
    (results fn tmps).run Try.prog w = .ok v w := by
  have := loadCell ty b 0 w v ha hc
  simp only [Instr.loadAt, Instr.sureAddr, Sem.run_bind, Sem.run_pure, Result.andThen_ok] at this
  simp only [results, h]
  have hp' : tmps[p]?.getD undef = .pointer (some ⟨b, 0, none⟩) := by simpa using hp
  simp [hp', this, asAddr]

set_option maxRecDepth 100000 in
set_option maxHeartbeats 1000000 in
theorem input_any (l : List Ev) (hl : Fit l) (hn : l.length ≤ 1000) (i : Int) (p : Option Addr) (cap : Nat) (w : World) (hE : EvsAt w.heap.size w p l) :
    Calls Try.prog 16 #[.slice p l.length cap, .int .i64 i] w fun r w' => r = .returned (.string ⟨(inpD l i).toArray⟩) ∧ Below w.heap.size w w' := by
  refine (callsIn_wide (n := 5)).1 ?_
  have hTl := told_len l
  have hseq := Lib.hid (fun v hv he => links1 l hl hn p cap w.heap.size (w.heap.size + 1 + 1 + 1) v hv he 4 (by decide))
  clear hl
  refine callsIn_of_wp_marks Try.func16 rfl trivial ?_ rfl
  simp only [Try.ntmps16, List.size_toArray, List.length_cons, List.length_nil, Nat.reduceAdd, Nat.reduceSub, Array.replicate_succ, Array.replicate_zero, List.push_toArray, List.append_toArray, List.nil_append, List.cons_append]
  gi_wp2_with fail
  refine ⟨trivial, (callsIn_wide.2 (links_any p l.length cap _)).mono ?_⟩
  rintro e w1 ⟨rfl, rfl⟩
  gi_wp2_with fail
  have hK4 : Hid (KW w.heap.size w ((w.heap.size + 1 + 1 + 1, .cells #[.slice p l.length cap] 22) :: [(w.heap.size + 1 + 1, .cells #[.int .i64 0] 3), (w.heap.size + 1, .cells #[.string ⟨#[]⟩] 9), (w.heap.size, .cells #[.int .i64 i] 3)]) ((((w.alloc (.cells #[.int .i64 i] 3)).alloc (.cells #[.string ⟨#[]⟩] 9)).alloc (.cells #[.int .i64 0] 3)).alloc (.cells #[.slice p l.length cap] 22))) := Lib.hid (by
    have := ((((KW.start w).new (.cells #[.int .i64 i] 3)).new (.cells #[.string ⟨#[]⟩] 9)).new (.cells #[.int .i64 0] 3)).new (.cells #[.slice p l.length cap] 22)
    simpa using this)
  have hE1 := Lib.hid (hE.past hK4.out.bel)
  have hsz : ((((w.alloc (.cells #[.int .i64 i] 3)).alloc (.cells #[.string ⟨#[]⟩] 9)).alloc (.cells #[.int .i64 0] 3)).alloc (.cells #[.slice p l.length cap] 22)).heap.size = w.heap.size + 4 := by simp
  generalize ((((w.alloc (.cells #[.int .i64 i] 3)).alloc (.cells #[.string ⟨#[]⟩] 9)).alloc (.cells #[.int .i64 0] 3)).alloc (.cells #[.slice p l.length cap] 22)) = V at *
  refine wpIn_rangeX rfl (by decide) (gf := 37) (lb := #[.pointer (some ⟨w.heap.size + 1 + 1 + 1, 0, none⟩)]) rfl trivial (enters_of Try.func37 (by kernel_rfl) rfl)
    (hseq.out V (by omega) hE1.out) (by omega) (fun _ => rfl)
    (fun b W => w.heap.size + 3 ≤ b)
    (fun pre W => KW w.heap.size w [(w.heap.size + 1 + 1, .cells #[.int .i64 (pre.length : Int)] 3), (w.heap.size + 1, .cells #[.string ⟨#[]⟩] 9), (w.heap.size, .cells #[.int .i64 i] 3)] W ∧ ∀ j : Nat, j < pre.length → (j : Int) ≠ i)
    (fun c pre W => c = .ret ∧ ∃ q x, pre = q ++ [x] ∧ (q.length : Int) = i ∧ KW w.heap.size w [(w.heap.size + 1, .cells #[.string ⟨x.1.toArray⟩] 9)] W)
    { grow := fun s X Y h hb => ⟨h.1.past hb, h.2⟩
      row := fun s b X c h hb => ⟨h.1.rowOther (by omega) (by simp; omega) c, h.2⟩
      obj := fun s k X o o' h hk hh ho => ⟨h.1.obj (by simp [Obj.isCells]) o' (by omega) hh ho, h.2⟩ }
    (fun c s k X o o' h hk hh ho => by obtain ⟨rfl, q, x, h1, h2, h3⟩ := h; exact ⟨rfl, q, x, h1, h2, h3.obj (by simp [Obj.isCells]) o' (by omega) hh ho⟩)
    { grow := fun b X Y h hb => h
      row := fun b b' X c h h' => h
      obj := fun b k X o o' h hk hh ho => h
      new := fun X o h => by have := h.1.lt 0 rfl; omega }
    ⟨hK4.out.drop, fun j hj => by simp at hj⟩
    (.inl (by omega)) (hK4.out.at 0 rfl)
    (fun x a' W => a' = { tmps := #[.slice p l.length cap, .int .i64 i, undef, .pointer (some ⟨w.heap.size, 0, none⟩), .pointer (some ⟨w.heap.size + 1, 0, none⟩), .pointer (some ⟨w.heap.size + 1 + 1, 0, none⟩), .string ⟨x.1.toArray⟩, .slice p l.length cap, .func (.func 37) #[] #[.pointer (some ⟨w.heap.size + 1 + 1 + 1, 0, none⟩)], .string ⟨x.1.toArray⟩, .agg (row x.2), undef, undef, undef, undef, undef, undef], defers := [] })
    (fun _ _ _ _ _ _ h _ _ _ => h) ?assign ?body ?done ?stop
  case assign =>
    rintro lp pre x W K hpx hI hK
    dsimp only [encL]
    gi_wp2_with fail
    exact hK _ _ (KeepsFrom.refl _ _) (Keep.refl _ _ _) hI rfl
  case body =>
    rintro lp pre x a' W hpx ⟨hK, hj⟩ rfl
    have hpl : pre.length ≤ l.length := by have := hpx.length_le; simp at this; omega
    have c0 := hK.cell 0 rfl 0 (y := .int .i64 (pre.length : Int)) rfl
    have c2 := hK.cell 2 rfl 0 (y := .int .i64 i) rfl
    have c1 := hK.cell 1 rfl 0 (y := .string ⟨#[]⟩) rfl
    have f0 := hK.frozen 0 rfl 0
    have f1 := hK.frozen 1 rfl 0
    by_cases he : (pre.length : Int) = i
    · have hd : ((pre.length : Int) == i) = true := by simpa using he
      have hK1 := Lib.hid (hK.set 1 rfl (by omega) 0 (.string ⟨x.1.toArray⟩))
      have hK' := Lib.hid hK
      have he' := Lib.hid he
      clear he hK hj
      gi_wp2_with fail
      refine ⟨(KeepsOthers.setCell _ _ _).from _, rfl, pre, x, rfl, he'.out, ?_⟩
      exact ⟨hK'.out.le, hK1.out.bel, fun y hy => hK1.out.has y (by simp only [List.mem_cons, List.not_mem_nil, or_false] at hy; subst hy; simp), by simp⟩
    · have hd : ((pre.length : Int) == i) = false := by simpa using he
      have hK1 := Lib.hid (hK.set 0 rfl (by omega) 0 (.int .i64 ((pre.length : Int) + 1)))
      have hK' := Lib.hid hK
      have hj' := Lib.hid hj
      have he' := Lib.hid he
      have hpi : (pre.length : Int) ≤ 1000 := by omega
      clear he hK hj
      gi_wp2_with fail
      refine ⟨(KeepsOthers.setCell _ _ _).from _, ⟨(Below.refl _ _).setCell (p := ⟨w.heap.size + 1 + 1, 0, none⟩) (by show _ ≤ w.heap.size + 1 + 1; omega) _, fun b c t' ha hb => ⟨ha, by rw [heap_setCell_other _ _ _ _ (by show b ≠ w.heap.size + 1 + 1; omega)]; exact hb⟩⟩, ?_, fun j hj2 => ?_⟩
      · have := hK1.out
        simpa using this
      · by_cases hjl : j < pre.length
        · exact hj'.out j hjl
        · have : j = pre.length := by simp at hj2; omega
          rw [this]; exact he'.out
  case done =>
    rintro D W hD ⟨hK, hj⟩ hdef
    have c1 := hK.cell 1 rfl 0 (y := .string ⟨#[]⟩) rfl
    have f1 := hK.frozen 1 rfl 0
    have hdef2 := Lib.hid ((KeepsOthers.setCell W ⟨w.heap.size + 1, 0, none⟩ (.string ⟨#[]⟩)).same D _ hdef rfl)
    have hK2 := Lib.hid (hK.set 1 rfl (by omega) 0 (.string ⟨#[]⟩))
    have hj' := Lib.hid hj
    clear hK hj
    gi_wp2_with fail
    refine ⟨by simp, .inl ⟨_, _, rfl, run_takeDeferred hdef2.out, ?_⟩⟩
    have hK3 := hK2.out.obj (by simp [Obj.isCells]) (.deferred none) (by omega) hdef2.out rfl
    refine ⟨_, results_one rfl _ (w.heap.size + 1) rfl _ (hK3.cell 1 rfl 0 rfl) Try.isAgg9, ?_⟩
    exact ⟨by rw [inp_none hj'.out]; rfl, hK3.bel⟩
  case stop =>
    rintro D c pre W hD hpp ⟨rfl, q, x, rfl, hq, hK⟩ hdef
    have c1 := hK.cell 0 rfl 0 (y := .string ⟨x.1.toArray⟩) rfl
    gi_wp2_with fail
    refine ⟨by simp, .inl ⟨_, _, rfl, run_takeDeferred hdef, ?_⟩⟩
    have hK3 := hK.obj (by simp [Obj.isCells]) (.deferred none) (by omega) hdef rfl
    refine ⟨_, results_one rfl _ (w.heap.size + 1) rfl _ (hK3.cell 0 rfl 0 rfl) Try.isAgg9, ?_⟩
    exact ⟨by rw [inp_found hpp hq]; rfl, hK3.bel⟩
end Go.Proofs.Ytfilolmbppjbjaa

namespace Go.Proofs.Ytfilolmbppjbjaa
open Go Go.RowKit
attribute [local go_sem] Oper.semAt_some

def lastD (l : List (List UInt8 × List UInt8)) : List UInt8 := (l.getLast?.map Prod.snd).getD zs
theorem lastD_snoc (l : List (List UInt8 × List UInt8)) (x : List UInt8 × List UInt8) : lastD (l ++ [x]) = x.2 := by simp [lastD]
def texts (l : List (List UInt8 × List UInt8)) : List Value := l.map fun x => .string ⟨x.1.toArray⟩
theorem texts_snoc (l : List (List UInt8 × List UInt8)) (x : List UInt8 × List UInt8) : texts (l ++ [x]) = texts l ++ [.string ⟨x.1.toArray⟩] := by simp [texts]
theorem info9 : (Try.prog.info? 9).map (fun i => (i.zero, i.size, i.bytes)) = some (some (.string ⟨#[]⟩), 1, 16) := by kernel_rfl
theorem lastD_len (l : List (List UInt8 × List UInt8)) (h : ∀ x ∈ l, x.2.length = 32) : (lastD l).length = 32 := by
  unfold lastD
  cases hl : l.getLast? with
  | none => rfl
  | some x => exact h x (List.mem_of_getLast? hl)

theorem results_tmp_row {P : Program} {fn : Func} {p q : Tmp} {ty : TypeId} (h : fn.results = #[.tmp q, .cell p ty]) (tmps : Array Value) (b : Nat) (hp : tmps.getD p undef = .pointer (some ⟨b, 0, none⟩)) (v1 : Value) (h1 : tmps.getD q undef = v1) (w : World) (t : TypeId) (c : Array Value) (d : TypeDesc)
    (hg : w.heap[b]? = some (.cells c t)) (hu : P.underlying ty = some d) (hd : (match d with | .struct _ | .array _ _ => true | _ => false) = true) (hi : (P.info? ty).map (·.size) = some c.size) :
    (results fn tmps).run P w = .ok (.tuple #[v1, .agg c]) w := by
  have := run_loadVar_row (P := P) w b t ty c (0, 0) d hg hu hd hi
  simp only [results, h]
  have hp' : tmps[p]?.getD undef = .pointer (some ⟨b, 0, none⟩) := by simpa using hp
  have h1' : tmps[q]?.getD undef = v1 := by simpa using h1
  simp [hp', h1', this, asAddr]
theorem keepsFrom_row {B : Nat} {X : World} {b : Nat} {c0 c : Array Value} {t : TypeId} (h : X.heap[b]? = some (.cells c0 t)) : KeepsFrom B X (X.setRow b c) :=
  ⟨by simp [World.setRow], fun k o _ hk ho => by
    rw [setRow_other _ _ _ _ (fun e => by rw [e, h] at hk; cases hk; cases ho)]; exact hk⟩

set_option maxRecDepth 100000 in
set_option maxHeartbeats 1000000 in
theorem gathered_any (l : List Ev) (hl : Fit l) (hn : l.length ≤ 1000) (p : Option Addr) (cap cb : Nat) (w : World) (hE : EvsAt w.heap.size w p l) (hcb : w.heap[cb]? = some (.cells #[.slice p l.length cap] 22)) :
    Calls Try.prog 35 #[.func (.func 37) #[] #[.pointer (some ⟨cb, 0, none⟩)]] w fun r w' => ∃ v, r = .returned (.tuple #[v, .agg (row (lastD (told l)))]) ∧ w'.ownsRow w.heap.size 9 1 v (told l).length (texts (told l)) ∧ Below w.heap.size w w' := by
  refine (callsIn_wide (n := 5)).1 ?_
  have hfine := Lib.hid (told_fine l hl)
  have hTl := told_len l
  have hseq := Lib.hid (fun v hv he => links1 l hl hn p cap w.heap.size cb v hv he 4 (by decide))
  have hz := zero26
  clear hl
  refine callsIn_of_wp_marks Try.func35 rfl trivial ?_ rfl
  simp only [Try.ntmps35, List.size_toArray, List.length_cons, List.length_nil, Nat.reduceAdd, Nat.reduceSub, Array.replicate_succ, Array.replicate_zero, List.push_toArray, List.append_toArray, List.nil_append, List.cons_append]
  gi_wp2_with fail
  have hK3 : Hid (KW w.heap.size w [(w.heap.size + 1 + 1, .cells (row zs) 26), (w.heap.size + 1, .cells #[.slice none 0 0] 78), (w.heap.size, .cells (row zs) 26)] (((w.alloc (.cells (row zs) 26)).alloc (.cells #[.slice none 0 0] 78)).alloc (.cells (row zs) 26))) := Lib.hid (by
    have := (((KW.start w).new (.cells (row zs) 26)).new (.cells #[.slice none 0 0] 78)).new (.cells (row zs) 26)
    simpa using this)
  have hE1 := Lib.hid (hE.past hK3.out.bel)
  have hc1 := Lib.hid ((hK3.out.bel.block _ (lt_of_some hcb)).trans hcb)
  have hcl := lt_of_some hcb
  have hsz : (((w.alloc (.cells (row zs) 26)).alloc (.cells #[.slice none 0 0] 78)).alloc (.cells (row zs) 26)).heap.size = w.heap.size + 3 := by simp
  clear hcb hE
  generalize ((w.alloc (.cells (row zs) 26)).alloc (.cells #[.slice none 0 0] 78)).alloc (.cells (row zs) 26) = V at *
  refine wpIn_rangeX rfl (by decide) (gf := 37) (lb := #[.pointer (some ⟨cb, 0, none⟩)]) rfl trivial (enters_of Try.func37 (by kernel_rfl) rfl)
    (hseq.out V (by omega) hE1.out) (by omega) (fun _ => rfl)
    (fun b W => w.heap.size + 3 ≤ b ∧ SB (w.heap.size + 1) 78 b W)
    (fun pre W => KW w.heap.size w [(w.heap.size + 1 + 1, .cells (row (lastD pre)) 26), (w.heap.size, .cells (row zs) 26)] W ∧ SC w.heap.size (w.heap.size + 1) 78 9 1 pre.length (texts pre) W)
    (fun _ _ _ => False)
    { grow := fun s X Y h hb => ⟨h.1.past hb, h.2.grow hb⟩
      row := fun s b X c h hb => ⟨h.1.rowOther (by omega) (by simp; omega) c, h.2.row hb.2 c⟩
      obj := fun s k X o o' h hk hh ho => ⟨h.1.obj (by simp [Obj.isCells]) o' (by omega) hh ho, h.2.obj o' hh ho⟩ }
    (fun _ _ _ _ _ _ h _ _ _ => h)
    { grow := fun b X Y h hb => ⟨h.1, h.2.grow hb⟩
      row := fun b b' X c h h' => ⟨h.1, h.2.row h'.2 c⟩
      obj := fun b k X o o' h hk hh ho => ⟨h.1, h.2.obj o' hh ho⟩
      new := fun X o h => ⟨by have := h.1.lt 0 rfl; omega, SB.new h.2 o⟩ }
    ⟨⟨hK3.out.le, hK3.out.bel, fun x hx => hK3.out.has x (by simp only [List.mem_cons, List.not_mem_nil, or_false] at hx ⊢; rcases hx with rfl | rfl <;> simp [lastD]), by simp; omega⟩, _, hK3.out.at 1 rfl, World.ownsRow_nil _ _ _ _, fun _ => rfl⟩
    (.inr (by omega)) hc1.out
    (fun x a' W => ∃ Bx, a' = { tmps := #[.func (.func 37) #[] #[.pointer (some ⟨cb, 0, none⟩)], undef, .slice none 0 0, .pointer (some ⟨w.heap.size, 0, none⟩), .pointer (some ⟨w.heap.size + 1, 0, none⟩), .pointer (some ⟨w.heap.size + 1 + 1, 0, none⟩), .string ⟨x.1.toArray⟩, .pointer (some ⟨Bx, 0, none⟩), .func (.func 37) #[] #[.pointer (some ⟨cb, 0, none⟩)], .string ⟨x.1.toArray⟩, .agg (row x.2), undef, undef, undef, undef, undef, undef, undef], defers := [] } ∧ W.heap[Bx]? = some (.cells (row x.2) 26) ∧ w.heap.size + 3 ≤ Bx)
    ?ax ?assign ?body ?done ?stop
  case ax =>
    rintro x a' k X o o' ⟨Bx, rfl, hB, hge⟩ hk hh ho
    refine ⟨Bx, rfl, (heap_putObj_ne ?_).trans hB, hge⟩
    intro e
    rw [e, hh] at hB
    cases hB
    cases ho
  case assign =>
    rintro lp pre x W K hpx hI hK
    have hx2 := Lib.hid (hfine.out x (hpx.subset (by simp))).2
    dsimp only [encL]
    have hE0 : Hid ((W.alloc (.cells (row zs) 26)).heap[W.heap.size]? = some (.cells (row zs) 26)) := Lib.hid (by rw [heap_alloc_if, if_pos rfl])
    gi_wp2_with (with_reducible refine wpListIn_store_row rfl 26 (.tmp 7) (.tmp 10) rfl _ (row x.2) rfl rfl 26 _ hE0.out (row26 x.2 hx2.out) (row_eq _ _ zs_len hx2.out) (row_one x.2) ?_)
    have hB0 : Below W.heap.size W ((W.alloc (.cells (row zs) 26)).setRow W.heap.size (row x.2)) := below_setRow ((Below.refl _ _).alloc (Nat.le_refl _) _) (Nat.le_refl _) _
    exact hK _ _ (keepsFrom_below hB0) ⟨hB0.mono hI.1.size, fun b _ _ ha hb => ⟨⟨ha.1, ha.2.grow hB0⟩, (hB0.block b (lt_of_some hb)).trans hb⟩⟩ ⟨hI.1.past hB0, hI.2.grow hB0⟩ ⟨_, rfl, setRow_heap _ _ _ _ _ _ hE0.out, by have := hI.1.lt 0 rfl; omega⟩
  case body =>
    rintro lp pre x a' W hpx ⟨hK, v, hv, hown, hv0⟩ ⟨Bx, rfl, hBx, hBg⟩
    have hx2 := Lib.hid (hfine.out x (hpx.subset (by simp))).2
    have hpf := Lib.hid (lastD_len pre (fun y hy => (hfine.out y (hpx.subset (by simp [hy]))).2))
    have hpl : pre.length ≤ l.length := by have := hpx.length_le; simp at this; omega
    obtain ⟨base, hob, hb1, hb2, hb3⟩ := own_base hown hK.size
    have hcv := hv.cell
    have hBx' := Lib.hid hBx
    obtain ⟨i0, hi, hz0, hz1, hz2⟩ := info_parts info9
    have hnil : v = .slice none 0 0 ∨ ∃ g m c, v = .slice (some ⟨g, 0, none⟩) m c := by
      rcases hown.2 with ⟨h, _⟩ | ⟨g, c, _, h, _⟩
      · exact .inl h
      · exact .inr ⟨g, _, c, h⟩
    have hob' := Lib.hid (hob.alloc (.cells #[.string ⟨x.1.toArray⟩] 9))
    have hcx : Hid (∀ j u, [Value.string ⟨x.1.toArray⟩][j]? = some u → (W.alloc (.cells #[.string ⟨x.1.toArray⟩] 9)).cell? ((⟨W.heap.size, 0, none⟩ : Addr).add j) = some u) := Lib.hid (fun j u hu => by
      rw [Addr.add_mid, Nat.zero_add]
      exact cell_new W _ 9 j u (by simpa using hu))
    have hKh := Lib.hid hK
    rcases hnil with rfl | ⟨g, m, c, rfl⟩
    all_goals
      gi_wp2_with (first
        | (gi_at_builtin; refine wpListIn_append_own _ rfl _ _ 78 rfl base 9 i0 (.string ⟨#[]⟩) 1 16 Try.underlying78 hi hz0 hz1 hz2 rfl (by decide) _ pre.length (texts pre) rfl hob'.out ⟨W.heap.size, 0, none⟩ 1 1 [.string ⟨x.1.toArray⟩] rfl rfl hcx.out (by simp [Value.oneCell']) (by unfold maxLen; omega) (by omega) (by simp; omega) ?_; intro v' w1 hown' hgrow _; obtain ⟨g', cap', rfl⟩ := ownsRow_succ hown'; obtain ⟨hv1, hv2, hr2, hk2, hb2⟩ := hv.appended (by decide) hown hKh.out.size (by omega) (own_mono hown' hb1) hgrow; have hkp := Lib.hid (appended_keep hv (by decide) hown hb3 hown' hgrow); have hX1 := Lib.hid (appended_has (B := w.heap.size + 1) (v' := .slice (some ⟨g', 0, none⟩) (pre.length + 1) cap') hown hgrow hBx'.out (by omega) (by decide)); have hX2 := Lib.hid (appended_has (B := w.heap.size + 1) (v' := .slice (some ⟨g', 0, none⟩) (pre.length + 1) cap') hown hgrow (hKh.out.at 0 rfl) (by omega) (by decide)); have hX3 := Lib.hid (appended_has (B := w.heap.size + 1) (v' := .slice (some ⟨g', 0, none⟩) (pre.length + 1) cap') hown hgrow (hKh.out.at 1 rfl) (by omega) (by decide)); have hc1 := hv1.cell; have hf1 := hv1.frozen)
        | (with_reducible refine wpListIn_load_row rfl 26 (.tmp 7) rfl Bx rfl 26 (row x.2) _ hX1.out Try.underlying26 rfl (row26 x.2 hx2.out) ?_)
        | (with_reducible refine wpListIn_store_row rfl 26 (.tmp 5) (.tmp 15) rfl (w.heap.size + 1 + 1) (row x.2) rfl rfl 26 _ hX2.out (row26 x.2 hx2.out) (row_eq _ _ hpf.out hx2.out) (row_one x.2) ?_))
    all_goals
      refine ⟨(hk2.from _).trans (keepsFrom_row hX2.out), ⟨hb2.trans (below_setRow (Below.refl _ _) (by omega) _), fun b c t' ha hb => ?_⟩, ⟨hKh.out.le, (hKh.out.bel.trans hb2).trans (below_setRow (Below.refl _ _) (by omega) _), fun y hy => ?_, hKh.out.nd⟩, ?_⟩
      · obtain ⟨p1, p2⟩ := hkp.out b c t' ha.2 hb
        exact ⟨⟨ha.1, p1.rowNe (by omega) _⟩, by rw [setRow_other _ _ _ _ (by have := ha.1; omega)]; exact p2⟩
      · rw [lastD_snoc] at hy
        simp only [List.mem_cons, List.not_mem_nil, or_false] at hy
        rcases hy with rfl | rfl
        · exact setRow_heap _ _ _ _ _ _ hX2.out
        · rw [setRow_other _ _ _ _ (by show w.heap.size ≠ _; omega)]; exact hX3.out
      · refine SC.rowNe ⟨_, hv2, ?_, by simp⟩ (by omega) hX2.out (by decide) _
        rw [texts_snoc]; simpa using hr2
  case done =>
    rintro D W hD ⟨hK, v, hv, hown, hv0⟩ hdef
    have hcv := hv.cell
    have hpf := Lib.hid (lastD_len (told l) (fun y hy => (hfine.out y hy).2))
    have hKh := Lib.hid hK
    clear hK
    gi_wp2_with fail
    refine wpIn_wide.2 ?_
    have hlD : Hid ((lastD (told l)).length = 32) := hpf
    generalize hDe : lastD (told l) = LD at *
    have hDe' := Lib.hid hDe
    clear hDe
    refine wp_region_class_tail 3 (fun v => v = W.drew) (by kernel_rfl) (by kernel_rfl) rfl ?_
    simp only [List.take_succ_cons, List.take_zero, List.drop_succ_cons, List.drop_zero]
    refine wpQuiet_cell (by rfl) 78 _ rfl (w.heap.size + 1) 0 rfl Try.isAgg78 v (fun u hu => by rw [hu]; exact hcv) ?_
    refine wpQuiet_load (by rfl) 26 (.tmp 5) rfl _ rfl 26 (row LD) _ (fun u hu => by rw [hu]; exact hKh.out.at 0 rfl) Try.underlying26 rfl (row26 _ hlD.out) ?_
    refine wpQuiet_move (by rfl) _ (.inr rfl) v rfl ?_
    simp only [Act.put, List.setIfInBounds_toArray, List.set_cons_zero, List.set_cons_succ]
    refine wpQuiet_nil ?_
    rintro u rfl
    have hKd := Lib.hid hKh.out.drew
    have hdef2 : Hid ((W.drew.setRow w.heap.size (row LD)).heap[D]? = some (.deferred (some []))) := Lib.hid (by rw [setRow_other _ _ _ _ (by omega)]; exact hdef)
    have hK2 := Lib.hid (hKd.out.row 1 rfl (Nat.le_refl _) (row LD))
    have hSC : Hid (SC w.heap.size (w.heap.size + 1) 78 9 1 (told l).length (texts (told l)) (W.drew.setRow w.heap.size (row LD))) := Lib.hid (SC.rowNe (X := W.drew) ⟨v, hv, hown, hv0⟩ (by omega) (hKd.out.at 1 rfl) (by decide) _)
    go_wp2_with (with_reducible refine wpList_store_row rfl 26 (.tmp 3) (.tmp 17) rfl _ (row LD) rfl rfl 26 _ (hKd.out.at 1 rfl) (row26 _ hlD.out) (row_eq _ _ zs_len hlD.out) (row_one _) ?_)
    gi_wp2_with fail
    refine ⟨by simp, .inl ⟨_, _, rfl, run_takeDeferred hdef2.out, ?_⟩⟩
    have hK3 := hK2.out.obj (by simp [Obj.isCells]) (.deferred none) (by omega) hdef2.out rfl
    obtain ⟨v2, hv2, hown2, _⟩ := hSC.out.obj (.deferred none) hdef2.out rfl
    have hvv : v = v2 := by
      have h1 : ((W.drew.setRow w.heap.size (row LD)).putObj D (.deferred none)).heap[w.heap.size + 1]? = some (.cells #[v] 78) := by
        rw [heap_putObj_ne (by omega), setRow_other _ _ _ _ (by omega)]; exact hv
      have := h1.symm.trans hv2
      simpa using this
    rw [← hvv] at hown2
    refine ⟨_, results_tmp_row rfl _ w.heap.size rfl v rfl _ 26 (row LD) _ (hK3.at 1 rfl) Try.underlying26 rfl (row26 _ hlD.out), v, by rw [hDe'.out], hown2, hK3.bel⟩
  case stop => exact fun _ _ _ _ _ _ h _ => h.elim
end Go.Proofs.Ytfilolmbppjbjaa

namespace Go.Proofs.Ytfilolmbppjbjaa
open Go Go.RowKit

def aptR : List (List UInt8) → List (List UInt8) → Option (List UInt8 × List UInt8)
  | x :: xs, y :: ys => if x = y then aptR xs ys else some (x, y)
  | _, _ => none
theorem aptR_nil (x : List (List UInt8)) : aptR x [] = none := by cases x <;> rfl
/-- What it answers. -/
def apR (a b : List (List UInt8)) : Value := match aptR a.reverse b.reverse with
  | some (x, y) => .tuple #[.string ⟨x.toArray⟩, .string ⟨y.toArray⟩, .bool true]
  | none => .tuple #[.string ⟨#[]⟩, .string ⟨#[]⟩, .bool false]
theorem apR_none {a b : List (List UInt8)} (h : aptR a.reverse b.reverse = none) : apR a b = .tuple #[.string ⟨#[]⟩, .string ⟨#[]⟩, .bool false] := by unfold apR; rw [h]
theorem apR_some {a b : List (List UInt8)} {x y : List UInt8} (h : aptR a.reverse b.reverse = some (x, y)) : apR a b = .tuple #[.string ⟨x.toArray⟩, .string ⟨y.toArray⟩, .bool true] := by unfold apR; rw [h]

/-- A slice that begins at p holds these texts, and lies below B. -/
def TxAt (B : Nat) (w : World) (p : Option Addr) (l : List (List UInt8)) : Prop :=
  l = [] ∨ ∃ g, p = some ⟨g, 0, none⟩ ∧ g < B ∧ ∀ k (h : k < l.length), w.cell? ⟨g, k, none⟩ = some (.string ⟨l[k].toArray⟩)
theorem TxAt.at {B : Nat} {w : World} {p : Option Addr} {l : List (List UInt8)} (h : TxAt B w p l) (k : Nat) (hk : k < l.length) : ∃ g, p = some ⟨g, 0, none⟩ ∧ ∀ v, Below B w v → v.cell? ⟨g, k, none⟩ = some (.string ⟨l[k].toArray⟩) := by
  rcases h with h | ⟨g, hp, hg, hc⟩
  · subst h; simp at hk
  · exact ⟨g, hp, fun v hb => by rw [hb.cell (p := ⟨g, k, none⟩) hg]; exact hc k hk⟩
theorem index78 (g n c k : Nat) (hk : k < n) (v : World) : (Instr.indexAt 78 (.slice (some ⟨g, 0, none⟩) n c) (.int .i64 (k : Int))).run Try.prog v = .ok (.pointer (some ⟨g, k, none⟩)) v := by
  rw [run_indexAt_slice (P := Try.prog) v 78 ⟨g, 0, none⟩ n c .i64 (k : Int) (by kernel_rfl)]
  have e1 : Try.prog.elem 78 = 9 := by kernel_rfl
  simp [e1, Try.sizeOf9, hk, Addr.add_mid]
section
variable {P : Program} {ops : Array Oper} {C : World → Prop} {Q : Act → Prop} {a : Act} {o : Oper} {rest : List Oper}
theorem wpQuiet_index (hw : Region.wanted o (yielded ops a.tmps) = true) (t : TypeId) (x y : Operand) (ho : o.op = .indexAddr t x y) (u i : Value) (hx : a.eval x = u) (hy : a.eval y = i) (v : Value) (hv : ∀ w, (Instr.indexAt t u i).run P w = .ok v w)
    (h : wpQuiet P ops C Q rest (a.put o.dst v)) : wpQuiet P ops C Q (o :: rest) a :=
  wpQuiet_val hw v (fun w _ => by unfold execOp; simp only [ho, hx, hy, Sem.run_bind, hv, Result.andThen_ok, Sem.run_pure]) h
end

set_option maxRecDepth 100000 in
set_option maxHeartbeats 1000000 in
theorem apart_any (a b : List (List UInt8)) (hal : a.length ≤ 2000) (hbl : b.length ≤ 2000) (pa pb : Option Addr) (ca cb : Nat) (w : World) (ha : Hid (TxAt w.heap.size w pa a)) (hb : Hid (TxAt w.heap.size w pb b)) :
    Calls Try.prog 36 #[.slice pa a.length ca, .slice pb b.length cb] w fun r w' => r = .returned (apR a b) ∧ Below w.heap.size w w' := by
  go_enter Try.func36, Try.ntmps36
  go_wp2_with fail
  refine wp_scope_jumps 0 (fun a' w' => KW w.heap.size w [] w' ∧ ∃ (m k : Nat) (u9 u10 u11 u12 u13 u14 u15 u16 u17 u18 u19 u20 u21 u22 u23 u24 u25 u26 u27 u28 u29 u30 u31 u32 u33 u34 u35 u36 u37 u38 u39 u40 u41 : Value), a' = { tmps := #[.slice pa a.length ca, .slice pb b.length cb, undef, undef, .string ⟨#[]⟩, .string ⟨#[]⟩, .bool false, .int .i64 ((m : Int) - 1), .int .i64 ((k : Int) - 1), u9, u10, u11, u12, u13, u14, u15, u16, u17, u18, u19, u20, u21, u22, u23, u24, u25, u26, u27, u28, u29, u30, u31, u32, u33, u34, u35, u36, u37, u38, u39, u40, u41], defers := [] } ∧ m ≤ a.length ∧ k ≤ b.length ∧ Hid (aptR (a.take m).reverse (b.take k).reverse = aptR a.reverse b.reverse)) (fun a' _ => (intOf (a'.tmps.getD 7 undef) + 1).toNat) rfl ?_ ?_
  · go_wp2_with fail
    go_step3
    have hm : a.length ≤ a.length := Nat.le_refl _
    have hk : b.length ≤ b.length := Nat.le_refl _
    have hap : Hid (aptR (a.take a.length).reverse (b.take b.length).reverse = aptR a.reverse b.reverse) := Lib.hid (by rw [List.take_length, List.take_length])
    have hW := Lib.hid (KW.start w)
    by_cases hm0 : a.length = 0
    · have em : (a.length : Int) - 1 = -1 := by omega
      have hres : Hid (aptR a.reverse b.reverse = none) := Lib.hid (by rw [← hap.out, hm0]; simp [aptR])
      simp only [em]
      clear em
      go_wp2_with fail
      simp only [Exit.jump]
      go_ret3
      exact ⟨by rw [apR_none hres.out]; rfl, hW.out.bel⟩
    · obtain ⟨m, hm1⟩ : ∃ m, a.length = m + 1 := ⟨a.length - 1, by omega⟩
      have em : (a.length : Int) - 1 = (m : Int) := by omega
      by_cases hk0 : b.length = 0
      · have ek : (b.length : Int) - 1 = -1 := by omega
        have hres : Hid (aptR a.reverse b.reverse = none) := Lib.hid (by rw [← hap.out, hk0]; simp [aptR_nil])
        have t1 : ¬ ((m : Int) < 0) := by omega
        simp only [em, ek]
        clear em ek
        go_wp2_with fail
        simp only [Exit.jump]
        go_ret3
        exact ⟨by rw [apR_none hres.out]; rfl, hW.out.bel⟩
      · obtain ⟨k, hk1⟩ : ∃ k, b.length = k + 1 := ⟨b.length - 1, by omega⟩
        have ek : (b.length : Int) - 1 = (k : Int) := by omega
        have t1 : ¬ ((m : Int) < 0) := by omega
        have t2 : ¬ ((k : Int) < 0) := by omega
        rw [hm1, hk1] at hap
        simp only [em, ek]
        clear em ek
        have hma : m < a.length := by omega
        have hkb : k < b.length := by omega
        obtain ⟨ga, rfl, hga⟩ := ha.out.at m hma
        obtain ⟨gb, rfl, hgb⟩ := hb.out.at k hkb
        have hra : Hid ((a.take (m + 1)).reverse = a[m] :: (a.take m).reverse) := Lib.hid (by rw [List.take_succ_eq_append_getElem hma]; simp)
        have hrb : Hid ((b.take (k + 1)).reverse = b[k] :: (b.take k).reverse) := Lib.hid (by rw [List.take_succ_eq_append_getElem hkb]; simp)
        rw [hra.out, hrb.out] at hap
        have hWd := Lib.hid hW.out.drew
        have hga' := Lib.hid hga
        have hgb' := Lib.hid hgb
        have hiA : Hid (∀ v, (Instr.indexAt 78 (.slice (some ⟨ga, 0, none⟩) a.length ca) (.int .i64 (m : Int))).run Try.prog v = .ok (.pointer (some ⟨ga, m, none⟩)) v) := Lib.hid (fun v => index78 ga a.length ca m hma v)
        have hiB : Hid (∀ v, (Instr.indexAt 78 (.slice (some ⟨gb, 0, none⟩) b.length cb) (.int .i64 (k : Int))).run Try.prog v = .ok (.pointer (some ⟨gb, k, none⟩)) v) := Lib.hid (fun v => index78 gb b.length cb k hkb v)
        clear hra hrb hga hgb
        generalize a[m] = A at *
        generalize b[k] = B at *
        go_wp2_with (refine park_region (fun Pk hX => ?_))
        refine hX.out ?_
        refine wp_region_class (KW w.heap.size w []) (by kernel_rfl) (by kernel_rfl) hWd.out ?_
        refine wpQuiet_move (by rfl) _ (.inl rfl) (.slice (some ⟨ga, 0, none⟩) a.length ca) rfl ?_
        refine wpQuiet_move (by rfl) _ (.inl rfl) (.int .i64 (m : Int)) rfl ?_
        refine wpQuiet_index (by rfl) 78 _ _ rfl _ _ rfl rfl _ hiA.out ?_
        refine wpQuiet_cell (by rfl) 9 _ rfl ga m rfl Try.isAgg9 (.string ⟨A.toArray⟩) (fun v hv => hga'.out v hv.bel) ?_
        simp only [Act.put, List.setIfInBounds_toArray, List.set_cons_zero, List.set_cons_succ]
        refine wpQuiet_move (by rfl) _ (.inl rfl) (.slice (some ⟨gb, 0, none⟩) b.length cb) rfl ?_
        refine wpQuiet_move (by rfl) _ (.inl rfl) (.int .i64 (k : Int)) rfl ?_
        refine wpQuiet_index (by rfl) 78 _ _ rfl _ _ rfl rfl _ hiB.out ?_
        refine wpQuiet_cell (by rfl) 9 _ rfl gb k rfl Try.isAgg9 (.string ⟨B.toArray⟩) (fun v hv => hgb'.out v hv.bel) ?_
        simp only [Act.put, List.setIfInBounds_toArray, List.set_cons_zero, List.set_cons_succ]
        by_cases he : A = B
        · subst he
          refine wpQuiet_sne (by rfl) _ _ _ _ rfl ⟨A.toArray⟩ ⟨A.toArray⟩ rfl rfl false (by simp) ?_
          simp only [Act.put, List.setIfInBounds_toArray, List.set_cons_zero, List.set_cons_succ]
          refine wpQuiet_nil ?_
          intro v hv
          have hv' := Lib.hid hv
          clear hv
          go_wp2_with fail
          go_step3
          refine ⟨rfl, hv'.out, m, k, _, _, _, _, _, _, _, _, _, _, _, _, _, _, _, _, _, _, _, _, _, _, _, _, _, _, _, _, _, _, _, _, _, rfl, by omega, by omega, Lib.hid (by rw [← hap.out]; simp [aptR])⟩
        · refine wpQuiet_sne (by rfl) _ _ _ _ rfl ⟨A.toArray⟩ ⟨B.toArray⟩ rfl rfl true (by rw [name_beq]; simpa using he) ?_
          simp only [Act.put, List.setIfInBounds_toArray, List.set_cons_zero, List.set_cons_succ]
          refine wpQuiet_nil ?_
          intro v hv
          have hvd := Lib.hid hv.drew
          have hres : Hid (aptR a.reverse b.reverse = some (A, B)) := Lib.hid (by rw [← hap.out]; unfold aptR; rw [if_neg he])
          clear hv
          go_wp2_with (refine park_region (fun Pk hX => ?_))
          refine hX.out ?_
          refine wp_region_class (KW w.heap.size w []) (by kernel_rfl) (by kernel_rfl) hvd.out ?_
          refine wpQuiet_move (by rfl) _ (.inl rfl) (.slice (some ⟨ga, 0, none⟩) a.length ca) rfl ?_
          refine wpQuiet_move (by rfl) _ (.inl rfl) (.int .i64 (m : Int)) rfl ?_
          refine wpQuiet_index (by rfl) 78 _ _ rfl _ _ rfl rfl _ hiA.out ?_
          refine wpQuiet_cell (by rfl) 9 _ rfl ga m rfl Try.isAgg9 (.string ⟨A.toArray⟩) (fun v hv => hga'.out v hv.bel) ?_
          simp only [Act.put, List.setIfInBounds_toArray, List.set_cons_zero, List.set_cons_succ]
          refine wpQuiet_move (by rfl) _ (.inl rfl) (.slice (some ⟨gb, 0, none⟩) b.length cb) rfl ?_
          refine wpQuiet_move (by rfl) _ (.inl rfl) (.int .i64 (k : Int)) rfl ?_
          refine wpQuiet_index (by rfl) 78 _ _ rfl _ _ rfl rfl _ hiB.out ?_
          refine wpQuiet_cell (by rfl) 9 _ rfl gb k rfl Try.isAgg9 (.string ⟨B.toArray⟩) (fun v hv => hgb'.out v hv.bel) ?_
          simp only [Act.put, List.setIfInBounds_toArray, List.set_cons_zero, List.set_cons_succ]
          refine wpQuiet_move (by rfl) _ (.inr rfl) (.string ⟨A.toArray⟩) rfl ?_
          refine wpQuiet_move (by rfl) _ (.inr rfl) (.string ⟨B.toArray⟩) rfl ?_
          refine wpQuiet_move (by rfl) _ (.inr rfl) (.bool true) rfl ?_
          simp only [Act.put, List.setIfInBounds_toArray, List.set_cons_zero, List.set_cons_succ]
          refine wpQuiet_nil ?_
          intro v2 hv2
          have hv2' := Lib.hid hv2
          clear hv2
          go_wp2_with fail
          simp only [Exit.jump]
          go_ret3
          exact ⟨by rw [apR_some hres.out]; rfl, hv2'.out.bel⟩
  · rintro a' wv ⟨hW, m0, k0, u9, u10, u11, u12, u13, u14, u15, u16, u17, u18, u19, u20, u21, u22, u23, u24, u25, u26, u27, u28, u29, u30, u31, u32, u33, u34, u35, u36, u37, u38, u39, u40, u41, rfl, hm, hk, hap⟩
    have hW := Lib.hid hW
    by_cases hm0 : m0 = 0
    · have em : (m0 : Int) - 1 = -1 := by omega
      have hres : Hid (aptR a.reverse b.reverse = none) := Lib.hid (by rw [← hap.out, hm0]; simp [aptR])
      simp only [em]
      clear em
      go_wp2_with fail
      simp only [Exit.jump]
      go_ret3
      exact ⟨by rw [apR_none hres.out]; rfl, hW.out.bel⟩
    · obtain ⟨m, hm1⟩ : ∃ m, m0 = m + 1 := ⟨m0 - 1, by omega⟩
      have em : (m0 : Int) - 1 = (m : Int) := by omega
      by_cases hk0 : k0 = 0
      · have ek : (k0 : Int) - 1 = -1 := by omega
        have hres : Hid (aptR a.reverse b.reverse = none) := Lib.hid (by rw [← hap.out, hk0]; simp [aptR_nil])
        have t1 : ¬ ((m : Int) < 0) := by omega
        simp only [em, ek]
        clear em ek
        go_wp2_with fail
        simp only [Exit.jump]
        go_ret3
        exact ⟨by rw [apR_none hres.out]; rfl, hW.out.bel⟩
      · obtain ⟨k, hk1⟩ : ∃ k, k0 = k + 1 := ⟨k0 - 1, by omega⟩
        have ek : (k0 : Int) - 1 = (k : Int) := by omega
        have t1 : ¬ ((m : Int) < 0) := by omega
        have t2 : ¬ ((k : Int) < 0) := by omega
        rw [hm1, hk1] at hap
        simp only [em, ek]
        clear em ek
        have hma : m < a.length := by omega
        have hkb : k < b.length := by omega
        obtain ⟨ga, rfl, hga⟩ := ha.out.at m hma
        obtain ⟨gb, rfl, hgb⟩ := hb.out.at k hkb
        have hra : Hid ((a.take (m + 1)).reverse = a[m] :: (a.take m).reverse) := Lib.hid (by rw [List.take_succ_eq_append_getElem hma]; simp)
        have hrb : Hid ((b.take (k + 1)).reverse = b[k] :: (b.take k).reverse) := Lib.hid (by rw [List.take_succ_eq_append_getElem hkb]; simp)
        rw [hra.out, hrb.out] at hap
        have hWd := Lib.hid hW.out.drew
        have hga' := Lib.hid hga
        have hgb' := Lib.hid hgb
        have hiA : Hid (∀ v, (Instr.indexAt 78 (.slice (some ⟨ga, 0, none⟩) a.length ca) (.int .i64 (m : Int))).run Try.prog v = .ok (.pointer (some ⟨ga, m, none⟩)) v) := Lib.hid (fun v => index78 ga a.length ca m hma v)
        have hiB : Hid (∀ v, (Instr.indexAt 78 (.slice (some ⟨gb, 0, none⟩) b.length cb) (.int .i64 (k : Int))).run Try.prog v = .ok (.pointer (some ⟨gb, k, none⟩)) v) := Lib.hid (fun v => index78 gb b.length cb k hkb v)
        clear hra hrb hga hgb
        generalize a[m] = A at *
        generalize b[k] = B at *
        go_wp2_with (refine park_region (fun Pk hX => ?_))
        refine hX.out ?_
        refine wp_region_class (KW w.heap.size w []) (by kernel_rfl) (by kernel_rfl) hWd.out ?_
        refine wpQuiet_move (by rfl) _ (.inl rfl) (.slice (some ⟨ga, 0, none⟩) a.length ca) rfl ?_
        refine wpQuiet_move (by rfl) _ (.inl rfl) (.int .i64 (m : Int)) rfl ?_
        refine wpQuiet_index (by rfl) 78 _ _ rfl _ _ rfl rfl _ hiA.out ?_
        refine wpQuiet_cell (by rfl) 9 _ rfl ga m rfl Try.isAgg9 (.string ⟨A.toArray⟩) (fun v hv => hga'.out v hv.bel) ?_
        simp only [Act.put, List.setIfInBounds_toArray, List.set_cons_zero, List.set_cons_succ]
        refine wpQuiet_move (by rfl) _ (.inl rfl) (.slice (some ⟨gb, 0, none⟩) b.length cb) rfl ?_
        refine wpQuiet_move (by rfl) _ (.inl rfl) (.int .i64 (k : Int)) rfl ?_
        refine wpQuiet_index (by rfl) 78 _ _ rfl _ _ rfl rfl _ hiB.out ?_
        refine wpQuiet_cell (by rfl) 9 _ rfl gb k rfl Try.isAgg9 (.string ⟨B.toArray⟩) (fun v hv => hgb'.out v hv.bel) ?_
        simp only [Act.put, List.setIfInBounds_toArray, List.set_cons_zero, List.set_cons_succ]
        by_cases he : A = B
        · subst he
          refine wpQuiet_sne (by rfl) _ _ _ _ rfl ⟨A.toArray⟩ ⟨A.toArray⟩ rfl rfl false (by simp) ?_
          simp only [Act.put, List.setIfInBounds_toArray, List.set_cons_zero, List.set_cons_succ]
          refine wpQuiet_nil ?_
          intro v hv
          have hv' := Lib.hid hv
          clear hv
          go_wp2_with fail
          go_step3
          refine ⟨rfl, ⟨hv'.out, m, k, _, _, _, _, _, _, _, _, _, _, _, _, _, _, _, _, _, _, _, _, _, _, _, _, _, _, _, _, _, _, _, _, _, rfl, by omega, by omega, Lib.hid (by rw [← hap.out]; simp [aptR])⟩, by simp [intOf]⟩
        · refine wpQuiet_sne (by rfl) _ _ _ _ rfl ⟨A.toArray⟩ ⟨B.toArray⟩ rfl rfl true (by rw [name_beq]; simpa using he) ?_
          simp only [Act.put, List.setIfInBounds_toArray, List.set_cons_zero, List.set_cons_succ]
          refine wpQuiet_nil ?_
          intro v hv
          have hvd := Lib.hid hv.drew
          have hres : Hid (aptR a.reverse b.reverse = some (A, B)) := Lib.hid (by rw [← hap.out]; unfold aptR; rw [if_neg he])
          clear hv
          go_wp2_with (refine park_region (fun Pk hX => ?_))
          refine hX.out ?_
          refine wp_region_class (KW w.heap.size w []) (by kernel_rfl) (by kernel_rfl) hvd.out ?_
          refine wpQuiet_move (by rfl) _ (.inl rfl) (.slice (some ⟨ga, 0, none⟩) a.length ca) rfl ?_
          refine wpQuiet_move (by rfl) _ (.inl rfl) (.int .i64 (m : Int)) rfl ?_
          refine wpQuiet_index (by rfl) 78 _ _ rfl _ _ rfl rfl _ hiA.out ?_
          refine wpQuiet_cell (by rfl) 9 _ rfl ga m rfl Try.isAgg9 (.string ⟨A.toArray⟩) (fun v hv => hga'.out v hv.bel) ?_
          simp only [Act.put, List.setIfInBounds_toArray, List.set_cons_zero, List.set_cons_succ]
          refine wpQuiet_move (by rfl) _ (.inl rfl) (.slice (some ⟨gb, 0, none⟩) b.length cb) rfl ?_
          refine wpQuiet_move (by rfl) _ (.inl rfl) (.int .i64 (k : Int)) rfl ?_
          refine wpQuiet_index (by rfl) 78 _ _ rfl _ _ rfl rfl _ hiB.out ?_
          refine wpQuiet_cell (by rfl) 9 _ rfl gb k rfl Try.isAgg9 (.string ⟨B.toArray⟩) (fun v hv => hgb'.out v hv.bel) ?_
          simp only [Act.put, List.setIfInBounds_toArray, List.set_cons_zero, List.set_cons_succ]
          refine wpQuiet_move (by rfl) _ (.inr rfl) (.string ⟨A.toArray⟩) rfl ?_
          refine wpQuiet_move (by rfl) _ (.inr rfl) (.string ⟨B.toArray⟩) rfl ?_
          refine wpQuiet_move (by rfl) _ (.inr rfl) (.bool true) rfl ?_
          simp only [Act.put, List.setIfInBounds_toArray, List.set_cons_zero, List.set_cons_succ]
          refine wpQuiet_nil ?_
          intro v2 hv2
          have hv2' := Lib.hid hv2
          clear hv2
          go_wp2_with fail
          simp only [Exit.jump]
          go_ret3
          exact ⟨by rw [apR_some hres.out]; rfl, hv2'.out.bel⟩
end Go.Proofs.Ytfilolmbppjbjaa

namespace Go.Proofs.Ytfilolmbppjbjaa
open Go Go.RowKit

def ins (l : List Ev) : List (List UInt8) := (told l).map Prod.fst
theorem ins_len (l : List Ev) : (ins l).length = (told l).length := by simp [ins]
def colR (a b : List Ev) : Value := if lastD (told a) = lastD (told b) then apR (ins a) (ins b) else .tuple #[.string ⟨#[]⟩, .string ⟨#[]⟩, .bool false]
theorem own_texts {n₀ : Nat} {w : World} {v : Value} {l : List Ev} (h : w.ownsRow n₀ 9 1 v (told l).length (texts (told l))) : ∃ p c, v = .slice p (ins l).length c ∧ TxAt w.heap.size w p (ins l) := by
  rcases h.2 with ⟨rfl, h0⟩ | ⟨g, cap, cur, rfl, h1, h2, h3, h4, h5, h6⟩
  · have : ins l = [] := List.eq_nil_of_length_eq_zero (by rw [ins_len, h0])
    exact ⟨none, 0, by rw [this]; rfl, .inl this⟩
  · refine ⟨some ⟨g, 0, none⟩, cap, by rw [ins_len], .inr ⟨g, rfl, lt_of_some h2, fun k hk => ?_⟩⟩
    rw [cell_of_row w g k _ _ _ h2]
    have hk' : k < (told l).length := by rw [← ins_len]; exact hk
    have h7 : (cur.toList.take ((told l).length * 1))[k]? = (texts (told l))[k]? := by rw [h6]
    rw [List.getElem?_take_of_lt (by omega), Array.getElem?_toList] at h7
    rw [h7]
    simp [texts, ins, hk']
theorem TxAt.past {B B' : Nat} {w v : World} {p : Option Addr} {l : List (List UInt8)} (h : TxAt B w p l) (hb : Below B w v) (hB : B ≤ B') : TxAt B' v p l := by
  rcases h with h | ⟨g, hp, hg, hc⟩
  · exact .inl h
  · exact .inr ⟨g, hp, by omega, fun k hk => by rw [hb.cell (p := ⟨g, k, none⟩) hg]; exact hc k hk⟩

theorem apR_shape (a b : List (List UInt8)) : ∃ x y z, apR a b = .tuple #[.string x, .string y, .bool z] := by
  unfold apR
  split <;> exact ⟨_, _, _, rfl⟩
/-- Two digests that are compared for not being one. -/
theorem wpList_dne {P : Program} {ops : Array Oper} {rest : List Oper} {op : Oper} {a : Act} {w : World} {Q : Exit → Act → World → Prop} (hgd : op.guard = none) (t t' : TypeId) (x y : Operand) (ho : op.op = .binOp .neq t x y t')
    (c d : Array Value) (hx : a.eval x = .agg c) (hy : a.eval y = .agg d) (hp : P.eqGuardType P.depth t = false) (r : Bool) (hr : ∀ v, (Op.equalIn 10000 t (.agg c) (.agg d)).run P v = .ok r v)
    (h : wpList P ops Q rest (a.put op.dst (.bool (!r))) w) : wpList P ops Q (op :: rest) a w :=
  wpList_plain hgd fun _ hK => by
    unfold Oper.wp execOp
    simp only [ho, hx, hy]
    simp [eqGuard, hp, run_neq_struct, hr, go_sem]
    exact hK _ _ h

set_option maxRecDepth 100000 in
set_option maxHeartbeats 1000000 in
theorem collision_any (la lb : List Ev) (ha : Fit la) (hb : Fit lb) (hna : la.length ≤ 1000) (hnb : lb.length ≤ 1000) (pa pb : Option Addr) (ca cb b1 b2 : Nat) (w : World) (hEa : EvsAt w.heap.size w pa la) (hEb : EvsAt w.heap.size w pb lb)
    (h1 : w.heap[b1]? = some (.cells #[.slice pa la.length ca] 22)) (h2 : w.heap[b2]? = some (.cells #[.slice pb lb.length cb] 22)) :
    Calls Try.prog 19 #[.func (.func 37) #[] #[.pointer (some ⟨b1, 0, none⟩)], .func (.func 37) #[] #[.pointer (some ⟨b2, 0, none⟩)]] w fun r w' => r = .returned (colR la lb) ∧ Below w.heap.size w w' := by
  have g1 := Lib.hid (gathered_any la ha hna pa ca b1 w hEa h1)
  have g2 := Lib.hid (fun v h e => gathered_any lb hb hnb pb cb b2 v h e)
  have hla := told_len la
  have hlb := told_len lb
  have hfa := Lib.hid (lastD_len (told la) (fun y hy => (told_fine la ha y hy).2))
  have hfb := Lib.hid (lastD_len (told lb) (fun y hy => (told_fine lb hb y hy).2))
  have hz := zero26
  have hEb' := Lib.hid hEb
  have h2' := Lib.hid h2
  obtain ⟨DA, hDA⟩ : ∃ D, Hid (lastD (told la) = D) := ⟨_, Lib.hid rfl⟩
  obtain ⟨DB, hDB⟩ : ∃ D, Hid (lastD (told lb) = D) := ⟨_, Lib.hid rfl⟩
  rw [hDA.out] at g1 hfa
  rw [hDB.out] at g2 hfb
  clear ha hb hEa hEb h1 h2
  go_enter Try.func19, Try.ntmps19
  go_wp2_with fail
  refine g1.out.mono ?_
  rintro r w1 ⟨v1, rfl, ho1, hB1⟩
  obtain ⟨p1, c1, hv1, hT1⟩ := own_texts ho1
  have hK1 : Hid (KW w.heap.size w [(w1.heap.size, .cells (row zs) 26)] (w1.alloc (.cells (row zs) 26))) := Lib.hid (((KW.start w).past hB1).new _)
  have hK2 := Lib.hid (hK1.out.row 0 rfl hB1.size (row DA))
  have hT2 : Hid (TxAt ((w1.alloc (.cells (row zs) 26)).setRow w1.heap.size (row DA)).heap.size ((w1.alloc (.cells (row zs) 26)).setRow w1.heap.size (row DA)) p1 (ins la)) := Lib.hid (hT1.past (below_setRow ((Below.refl _ _).alloc (Nat.le_refl _) _) (Nat.le_refl _) _) (by simp [World.setRow]))
  have g3 := Lib.hid (g2.out _ ((hEb'.out.past hK2.out.bel).mono (by simpa [World.setRow] using Nat.le_succ_of_le hB1.size)) ((hK2.out.bel.block _ (lt_of_some h2'.out)).trans h2'.out))
  rw [hv1]
  clear ho1 hT1 g1 g2 hv1 hB1
  go_wp2_with (with_reducible refine wpList_store_row rfl 26 (.tmp 8) (.tmp 15) rfl _ (row DA) rfl rfl 26 _ (hK1.out.at 0 rfl) (row26 _ hfa.out) (row_eq _ _ zs_len hfa.out) (row_one _) ?_)
  refine g3.out.mono ?_
  rintro r w2 ⟨v2, rfl, ho2, hB2⟩
  obtain ⟨p2, c2, hv2, hT3⟩ := own_texts ho2
  have hK3 := Lib.hid ((hK2.out.past hB2).new (.cells (row zs) 26))
  have hK4 := Lib.hid (hK3.out.row 0 rfl (hK2.out.past hB2).size (row DB))
  have hTa : Hid (TxAt ((w2.alloc (.cells (row zs) 26)).setRow w2.heap.size (row DB)).heap.size ((w2.alloc (.cells (row zs) 26)).setRow w2.heap.size (row DB)) p1 (ins la)) := Lib.hid ((hT2.out.past hB2 hB2.size).past (below_setRow ((Below.refl _ _).alloc (Nat.le_refl _) _) (Nat.le_refl _) _) (by simp [World.setRow]))
  have hTb : Hid (TxAt ((w2.alloc (.cells (row zs) 26)).setRow w2.heap.size (row DB)).heap.size ((w2.alloc (.cells (row zs) 26)).setRow w2.heap.size (row DB)) p2 (ins lb)) := Lib.hid (hT3.past (below_setRow ((Below.refl _ _).alloc (Nat.le_refl _) _) (Nat.le_refl _) _) (by simp [World.setRow]))
  rw [hv2]
  have hia := ins_len la
  have hib := ins_len lb
  have ap := Lib.hid (apart_any (ins la) (ins lb) (by omega) (by omega) p1 p2 c1 c2 _ hTa hTb)
  have eq := Lib.hid (eql_dig DA DB hfa.out hfb.out)
  clear ho2 hT3 hT2 g3 hv2 hB2 hia hib
  by_cases he : DA = DB
  · have hc : Hid (colR la lb = apR (ins la) (ins lb)) := Lib.hid (by unfold colR; rw [hDA.out, hDB.out, if_pos he])
    have eq' : Hid (∀ v, (Op.equalIn 10000 26 (.agg (row DA)) (.agg (row DB))).run Try.prog v = .ok true v) := Lib.hid (fun v => by rw [eq.out v, he]; simp)
    clear he eq
    go_wp2_with (first
      | (with_reducible refine wpList_store_row rfl 26 (.tmp 10) (.tmp 20) rfl _ (row DB) rfl rfl 26 _ (hK3.out.at 0 rfl) (row26 _ hfb.out) (row_eq _ _ zs_len hfb.out) (row_one _) ?_)
      | (with_reducible refine wpList_load_row rfl 26 (.tmp 8) rfl _ rfl 26 (row DA) _ (hK4.out.at 1 rfl) Try.underlying26 rfl (row26 _ hfa.out) ?_)
      | (with_reducible refine wpList_load_row rfl 26 (.tmp 10) rfl _ rfl 26 (row DB) _ (hK4.out.at 0 rfl) Try.underlying26 rfl (row26 _ hfb.out) ?_)
      | (with_reducible refine wpList_dne rfl 26 26 (.tmp 21) (.tmp 22) rfl (row DA) (row DB) rfl rfl (by kernel_rfl) true eq'.out ?_))
    refine ap.out.mono ?_
    rintro r w3 ⟨rfl, hB3⟩
    obtain ⟨x, y, z, hR⟩ := apR_shape (ins la) (ins lb)
    rw [hR]
    go_wp2_with fail
    go_ret3
    exact ⟨by rw [hc.out, hR]; rfl, (hK4.out.past hB3).bel⟩
  · have hc : Hid (colR la lb = .tuple #[.string ⟨#[]⟩, .string ⟨#[]⟩, .bool false]) := Lib.hid (by unfold colR; rw [hDA.out, hDB.out, if_neg he])
    have eq' : Hid (∀ v, (Op.equalIn 10000 26 (.agg (row DA)) (.agg (row DB))).run Try.prog v = .ok false v) := Lib.hid (fun v => by rw [eq.out v]; simp [he])
    clear he eq ap
    go_wp2_with (first
      | (with_reducible refine wpList_store_row rfl 26 (.tmp 10) (.tmp 20) rfl _ (row DB) rfl rfl 26 _ (hK3.out.at 0 rfl) (row26 _ hfb.out) (row_eq _ _ zs_len hfb.out) (row_one _) ?_)
      | (with_reducible refine wpList_load_row rfl 26 (.tmp 8) rfl _ rfl 26 (row DA) _ (hK4.out.at 1 rfl) Try.underlying26 rfl (row26 _ hfa.out) ?_)
      | (with_reducible refine wpList_load_row rfl 26 (.tmp 10) rfl _ rfl 26 (row DB) _ (hK4.out.at 0 rfl) Try.underlying26 rfl (row26 _ hfb.out) ?_)
      | (with_reducible refine wpList_dne rfl 26 26 (.tmp 21) (.tmp 22) rfl (row DA) (row DB) rfl rfl (by kernel_rfl) false eq'.out ?_))
    go_ret3
    exact ⟨by rw [hc.out]; rfl, hK4.out.bel⟩
theorem colR_shape (a b : List Ev) : ∃ x y z, colR a b = .tuple #[.string x, .string y, .bool z] := by
  unfold colR
  split
  · exact apR_shape _ _
  · exact ⟨_, _, _, rfl⟩

set_option maxRecDepth 100000 in
set_option maxHeartbeats 1000000 in
theorem collide_any (la lb : List Ev) (ha : Fit la) (hb : Fit lb) (hna : la.length ≤ 1000) (hnb : lb.length ≤ 1000) (pa pb : Option Addr) (ca cb : Nat) (w : World) (hEa : EvsAt w.heap.size w pa la) (hEb : EvsAt w.heap.size w pb lb) :
    Calls Try.prog 11 #[.slice pa la.length ca, .slice pb lb.length cb] w fun r w' => r = .returned (colR la lb) ∧ Below w.heap.size w w' := by
  have c1 := Lib.hid (fun v => links_any pa la.length ca v)
  have c2 := Lib.hid (fun v => links_any pb lb.length cb v)
  have hB : Hid (Below w.heap.size w ((w.alloc (.cells #[.slice pa la.length ca] 22)).alloc (.cells #[.slice pb lb.length cb] 22))) := Lib.hid (((Below.refl _ _).alloc (Nat.le_refl _) _).alloc (by simp) _)
  have c3 := Lib.hid (collision_any la lb ha hb hna hnb pa pb ca cb w.heap.size (w.heap.size + 1) ((w.alloc (.cells #[.slice pa la.length ca] 22)).alloc (.cells #[.slice pb lb.length cb] 22)) ((hEa.past hB.out).mono hB.out.size) ((hEb.past hB.out).mono hB.out.size)
    (by rw [heap_alloc_if, if_neg (by simp), heap_alloc_if, if_pos rfl]) (by rw [heap_alloc_if, if_pos (by simp)]))
  obtain ⟨x, y, z, hR⟩ := colR_shape la lb
  have hR' := Lib.hid hR
  clear hEa hEb ha hb hR
  go_enter Try.func11, Try.ntmps11
  go_wp2_with fail
  refine (c1.out _).mono ?_
  rintro r u ⟨rfl, rfl⟩
  go_wp2_with fail
  refine (c2.out _).mono ?_
  rintro r u ⟨rfl, rfl⟩
  go_wp2_with fail
  refine c3.out.mono ?_
  rintro r u ⟨rfl, hu⟩
  rw [hR'.out]
  go_wp2_with fail
  go_ret3
  exact ⟨by rw [hR'.out]; rfl, hB.out.trans (hu.mono hB.out.size)⟩
end Go.Proofs.Ytfilolmbppjbjaa

