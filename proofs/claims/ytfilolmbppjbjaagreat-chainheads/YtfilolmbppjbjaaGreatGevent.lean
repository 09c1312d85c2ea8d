/-
  Parts · PartsB · Tail · Events · Evs · Facts · PartsC · Joined · Keeps · EValid · EPut: merged.
-/
import Derived.Test.YtfilolmbppjbjaaGreatGwire
import Derived.Test.YtfilolmbppjbjaaGreatGname
import Derived.Handy
import Derived.StillTail
import Derived.Test.YtfilolmbppjbjaaGreatShelf
import Derived.Lib.OthersKept
namespace Go.Proofs.YtfilolmbppjbjaaGreat
open Go Go.RowKit

def wi (n a b : Int) : Bool := decide (a ≤ n) && decide (n ≤ b)

set_option maxRecDepth 100000 in
set_option maxHeartbeats 400000 in
theorem within_any (n a b : Int) (w : World) :
    Calls Tryz.prog 99 #[.int .i64 n, .int .i64 a, .int .i64 b] w fun e w' => e = .returned (.bool (wi n a b)) ∧ w = w' := by
  by_cases h1 : a ≤ n
  · by_cases h2 : n ≤ b
    · have t1 : decide (a ≤ n) = true := by simp [h1]
      have t2 : decide (n ≤ b) = true := by simp [h2]
      have e : Hid (wi n a b = true) := by show _ = _; unfold wi; rw [t1, t2]; rfl
      clear h1 h2
      go_enter Tryz.func99, Tryz.ntmps99
      go_wp2_with fail
      go_ret
      exact ⟨by rw [e.out]; rfl, rfl⟩
    · have t1 : decide (a ≤ n) = true := by simp [h1]
      have t2 : decide (n ≤ b) = false := by simp; omega
      have e : Hid (wi n a b = false) := by show _ = _; unfold wi; rw [t1, t2]; rfl
      clear h1 h2
      go_enter Tryz.func99, Tryz.ntmps99
      go_wp2_with fail
      go_ret
      exact ⟨by rw [e.out]; rfl, rfl⟩
  · have t1 : decide (a ≤ n) = false := by simp; omega
    have e : Hid (wi n a b = false) := by show _ = _; unfold wi; rw [t1]; rfl
    clear h1
    go_enter Tryz.func99, Tryz.ntmps99
    go_wp2_with fail
    go_ret
    exact ⟨by rw [e.out]; rfl, rfl⟩

set_option maxRecDepth 100000 in
set_option maxHeartbeats 400000 in
theorem kind_valid (n : Int) (w : World) :
    Calls Tryz.prog 97 #[.int .i64 n] w fun e w' => e = .returned (.bool (wi n 0 7)) ∧ w = w' := by
  have c := Lib.hid (fun v => within_any n 0 7 v)
  go_enter Tryz.func97, Tryz.ntmps97
  go_wp2_with fail
  refine (c.out _).mono ?_
  rintro e v ⟨rfl, rfl⟩
  go_wp2_with fail
  go_ret
  exact ⟨rfl, rfl⟩

set_option maxRecDepth 100000 in
set_option maxHeartbeats 400000 in
theorem id_valid (n : Int) (w : World) :
    Calls Tryz.prog 127 #[.int .i64 n] w fun e w' => e = .returned (.bool (wi n 1 1099511627776)) ∧ w = w' := by
  have c := Lib.hid (fun v => within_any n 1 1099511627776 v)
  go_enter Tryz.func127, Tryz.ntmps127
  go_wp2_with fail
  refine (c.out _).mono ?_
  rintro e v ⟨rfl, rfl⟩
  go_wp2_with fail
  go_ret
  exact ⟨rfl, rfl⟩

set_option maxRecDepth 100000 in
set_option maxHeartbeats 400000 in
theorem moment_valid (n : Int) (w : World) :
    Calls Tryz.prog 114 #[.int .i64 n] w fun e w' => e = .returned (.bool (wi n 0 1099511627776)) ∧ w = w' := by
  have c := Lib.hid (fun v => within_any n 0 1099511627776 v)
  go_enter Tryz.func114, Tryz.ntmps114
  go_wp2_with fail
  refine (c.out _).mono ?_
  rintro e v ⟨rfl, rfl⟩
  go_wp2_with fail
  go_ret
  exact ⟨rfl, rfl⟩

set_option maxRecDepth 100000 in
set_option maxHeartbeats 400000 in
theorem added_valid (n : Int) (w : World) :
    Calls Tryz.prog 110 #[.int .i64 n] w fun e w' => e = .returned (.bool (wi n 1 600)) ∧ w = w' := by
  have c := Lib.hid (fun v => within_any n 1 600 v)
  go_enter Tryz.func110, Tryz.ntmps110
  go_wp2_with fail
  refine (c.out _).mono ?_
  rintro e v ⟨rfl, rfl⟩
  go_wp2_with fail
  go_ret
  exact ⟨rfl, rfl⟩

set_option maxRecDepth 100000 in
set_option maxHeartbeats 400000 in
theorem length_valid (n : Int) (w : World) :
    Calls Tryz.prog 118 #[.int .i64 n] w fun e w' => e = .returned (.bool (wi n 0 600)) ∧ w = w' := by
  have c := Lib.hid (fun v => within_any n 0 600 v)
  go_enter Tryz.func118, Tryz.ntmps118
  go_wp2_with fail
  refine (c.out _).mono ?_
  rintro e v ⟨rfl, rfl⟩
  go_wp2_with fail
  go_ret
  exact ⟨rfl, rfl⟩

set_option maxRecDepth 100000 in
set_option maxHeartbeats 400000 in
theorem kind_put (n : Int) (hlo : -9223372036854775808 ≤ n) (hhi : n ≤ 9223372036854775807) (w : World) :
    Calls Tryz.prog 95 #[.int .i64 n] w fun e w' => e = .returned (.string ⟨(num (clI n)).toArray⟩) ∧ Below w.heap.size w w' := by
  have c := Lib.hid (fun v => num_any n hlo hhi v)
  go_enter Tryz.func95, Tryz.ntmps95
  go_wp2_with fail
  refine (c.out _).mono ?_
  rintro e v ⟨rfl, hb⟩
  go_wp2_with fail
  go_ret
  exact ⟨rfl, hb⟩

set_option maxRecDepth 100000 in
set_option maxHeartbeats 400000 in
theorem id_put (n : Int) (hlo : -9223372036854775808 ≤ n) (hhi : n ≤ 9223372036854775807) (w : World) :
    Calls Tryz.prog 125 #[.int .i64 n] w fun e w' => e = .returned (.string ⟨(num (clI n)).toArray⟩) ∧ Below w.heap.size w w' := by
  have c := Lib.hid (fun v => num_any n hlo hhi v)
  go_enter Tryz.func125, Tryz.ntmps125
  go_wp2_with fail
  refine (c.out _).mono ?_
  rintro e v ⟨rfl, hb⟩
  go_wp2_with fail
  go_ret
  exact ⟨rfl, hb⟩

set_option maxRecDepth 100000 in
set_option maxHeartbeats 400000 in
theorem moment_put (n : Int) (hlo : -9223372036854775808 ≤ n) (hhi : n ≤ 9223372036854775807) (w : World) :
    Calls Tryz.prog 112 #[.int .i64 n] w fun e w' => e = .returned (.string ⟨(num (clI n)).toArray⟩) ∧ Below w.heap.size w w' := by
  have c := Lib.hid (fun v => num_any n hlo hhi v)
  go_enter Tryz.func112, Tryz.ntmps112
  go_wp2_with fail
  refine (c.out _).mono ?_
  rintro e v ⟨rfl, hb⟩
  go_wp2_with fail
  go_ret
  exact ⟨rfl, hb⟩

set_option maxRecDepth 100000 in
set_option maxHeartbeats 400000 in
theorem added_put (n : Int) (hlo : -9223372036854775808 ≤ n) (hhi : n ≤ 9223372036854775807) (w : World) :
    Calls Tryz.prog 108 #[.int .i64 n] w fun e w' => e = .returned (.string ⟨(num (clI n)).toArray⟩) ∧ Below w.heap.size w w' := by
  have c := Lib.hid (fun v => num_any n hlo hhi v)
  go_enter Tryz.func108, Tryz.ntmps108
  go_wp2_with fail
  refine (c.out _).mono ?_
  rintro e v ⟨rfl, hb⟩
  go_wp2_with fail
  go_ret
  exact ⟨rfl, hb⟩

set_option maxRecDepth 100000 in
set_option maxHeartbeats 400000 in
theorem length_put (n : Int) (hlo : -9223372036854775808 ≤ n) (hhi : n ≤ 9223372036854775807) (w : World) :
    Calls Tryz.prog 116 #[.int .i64 n] w fun e w' => e = .returned (.string ⟨(num (clI n)).toArray⟩) ∧ Below w.heap.size w w' := by
  have c := Lib.hid (fun v => num_any n hlo hhi v)
  go_enter Tryz.func116, Tryz.ntmps116
  go_wp2_with fail
  refine (c.out _).mono ?_
  rintro e v ⟨rfl, hb⟩
  go_wp2_with fail
  go_ret
  exact ⟨rfl, hb⟩

set_option maxRecDepth 100000 in
set_option maxHeartbeats 400000 in
theorem label_valid (s : ByteArray) (hs : s.size ≤ 1099511627776) (w : World) :
    Calls Tryz.prog 103 #[.string s] w fun e w' => e = .returned (.bool (nm.vld (nm.li s))) ∧ Below w.heap.size w w' := by
  have c := Lib.hid (fun v => nm.valid_any s hs v)
  go_enter Tryz.func103, Tryz.ntmps103
  go_wp2_with fail
  refine (c.out _).mono ?_
  rintro e v ⟨rfl, hb⟩
  go_wp2_with fail
  go_ret
  exact ⟨rfl, hb⟩

end Go.Proofs.YtfilolmbppjbjaaGreat

namespace Go.Proofs.YtfilolmbppjbjaaGreat
open Go Go.RowKit

set_option maxRecDepth 100000 in
set_option maxHeartbeats 400000 in
theorem label_put (s : ByteArray) (hs : s.size ≤ 9223372036854775000) (w : World) :
    Calls Tryz.prog 101 #[.string s] w fun e w' => e = .returned (.string (mk (text (li s)))) ∧ Below w.heap.size w w' := by
  have c := Lib.hid (fun v => text_any s hs v)
  go_enter Tryz.func101, Tryz.ntmps101
  go_wp2_with fail
  refine (c.out _).mono ?_
  rintro e v ⟨rfl, hb⟩
  go_wp2_with fail
  go_ret
  exact ⟨rfl, hb⟩

set_option maxRecDepth 100000 in
set_option maxHeartbeats 400000 in
theorem sum_valid (d : List UInt8) (w : World) :
    Calls Tryz.prog 122 #[.agg (row d)] w fun e w' => e = .returned (.bool true) ∧ Below w.heap.size w w' := by
  go_enter Tryz.func122, Tryz.ntmps122
  go_wp2_with fail
  go_ret
  exact ⟨rfl, by go_grown⟩

end Go.Proofs.YtfilolmbppjbjaaGreat

namespace Go.Proofs.YtfilolmbppjbjaaGreat
open Go Go.RowKit
variable {P : Program} {ops : Array Oper} {md : Region.Mode} {C : World → Prop}

/-- The head in whatever order, then L. -/
def anyHead (P : Program) (md : Region.Mode) (ops : Array Oper) (C : World → Prop) (n : Nat) (L : Array Bool → Act → Prop) : Nat → Array Bool → Act → Prop
  | 0, listed, a => L listed a
  | f + 1, listed, a => Region.ready md ops listed ≠ [] ∧ ∀ i ∈ Region.ready md ops listed, i < n ∧ qOp P ops C i (anyHead P md ops C n L f (listed.setIfInBounds i true)) a

theorem any_of_head {n g : Nat} {L : Array Bool → Act → Prop} {Q' : Exit → Act → World → Prop} (hL : ∀ listed a w, C w → L listed a → wpAny P md ops Q' g listed a w) :
    ∀ (f : Nat) (listed : Array Bool) (a : Act) (w : World), C w → anyHead P md ops C n L f listed a → wpAny P md ops Q' (f + g) listed a w
  | 0, listed, a, w, hw, h => by rw [Nat.zero_add]; exact hL _ _ _ hw h
  | f + 1, listed, a, w, hw, h => by
    rw [show f + 1 + g = (f + g) + 1 by omega]
    exact ⟨fun h0 => absurd h0 h.1, fun i hi => wpOp_of_qOp hw (fun a' w' hw' h' => any_of_head hL f _ a' w' hw' h') (h.2 i hi).2⟩

theorem anyHead_first {n i : Nat} {oi : Oper} {v : Value} {L : Array Bool → Act → Prop} (hi : ops[i]? = some oi) (hsel : ∀ (j : Nat) (o : Oper) cs b, ops[j]? = some o → o.op ≠ .select cs b)
    (hs : Region.sinkB md ops n = true) (hc : Region.chainB md ops n = true) (hn : n < ops.size) (hin : i < n)
    (hdone : ∀ listed a, L listed a → ∀ j ∈ Region.ready md ops listed, n ≤ j) :
    ∀ (f : Nat) (listed : Array Bool) (a : Act), HeadInv md ops n listed →
      (∀ j oj, ops[j]? = some oj → j ≠ i → listed.getD j true = false → (∀ e ∈ oj.after, Region.binds md e = true → e.on ≠ i) → oi.apart ops oj = true) →
      i ∈ Region.ready md ops listed → YieldsIn P ops C oi v a →
      anyHead P md ops C n L f (listed.setIfInBounds i true) (a.put oi.dst v) → anyHead P md ops C n L (f + 1) listed a := by
  intro f
  induction f with
  | zero =>
    intro listed a inv _ hr hy H
    refine ⟨fun h => (by rw [h] at hr; cases hr), fun j hj => ?_⟩
    have hjn : j < n := by
      rcases Nat.lt_or_ge j n with h | h
      · exact h
      · exact absurd hj (tail_waits hs hc hn inv _ i rfl hin (mem_ready.1 hr).1 j h)
    refine ⟨hjn, ?_⟩
    by_cases e : j = i
    · subst e; exact hy.qOp hi H
    · have := hdone _ _ H j (ready_mono hj e)
      omega
  | succ f ih =>
    intro listed a inv hfree hr hy H
    refine ⟨fun h => (by rw [h] at hr; cases hr), fun j hj => ?_⟩
    have hun := (mem_ready.1 hr).1
    have hjn : j < n := by
      rcases Nat.lt_or_ge j n with h | h
      · exact h
      · exact absurd hj (tail_waits hs hc hn inv _ i rfl hin hun j h)
    refine ⟨hjn, ?_⟩
    by_cases e : j = i
    · subst e; exact hy.qOp hi H
    · have h1 := (H.2 j (ready_mono hj e)).2
      obtain ⟨hjun, oj, hoj, hall⟩ := mem_ready.1 hj
      have hnot : ∀ x ∈ oj.after, Region.binds md x = true → x.on ≠ i := fun x hx hb he => by
        have h2 := hall x hx hb
        rw [he, getD_both hun] at h2
        cases h2
      have h2 := qOp_put hoj (hfree j oj hoj e hjun hnot) (fun cs b => hsel i oi cs b hi) (fun cs b => hsel j oj cs b hoj) hy h1
      refine qOp_mono (fun a' h3 => ih (listed.setIfInBounds j true) a' (inv.set hj hjn) ?_ (ready_mono hr (Ne.symm e)) h3.1 ?_) h2
      · intro k ok hk hki hkun hno
        refine hfree k ok hk hki ?_ hno
        by_cases hjk : j = k
        · subst hjk; exact hjun
        · rw [getD_set_ne true hjk] at hkun; exact hkun
      · rw [Array.setIfInBounds_comm _ _ e]
        exact h3.2

theorem anyHead_lex {n g : Nat} {Lq : Act → Prop} (hsel : Region.noSelect ops = true) (hs : Region.sinkB md ops n = true) (hc : Region.chainB md ops n = true) (hn : n < ops.size) :
    ∀ (l : List Oper) (k : Nat) (listed : Array Bool) (a : Act), (∀ j, j < l.length → l[j]? = ops[k + j]?) → k + l.length = n → HeadInv md ops n listed →
    Region.lexHead md ops g l.length k listed = true → wpQuiet P ops C Lq l a →
    anyHead P md ops C n (fun listed' a' => Region.seqB md ops g n listed' = true ∧ Lq a') l.length listed a
  | [], k, listed, a, _, hk, _, hB, h => by
    have : k = n := by simpa using hk
    subst this
    exact ⟨by simpa [Region.lexHead] using hB, h⟩
  | o :: l, k, listed, a, hl, hk, inv, hB, h => by
    have h0 : ops[k]? = some o := by simpa using (hl 0 (by simp)).symm
    simp only [List.length_cons, Region.lexHead, Bool.and_eq_true] at hB
    obtain ⟨⟨hr, hf⟩, hB'⟩ := hB
    have hkn : k < n := by simp only [List.length_cons] at hk; omega
    have hr' : k ∈ Region.ready md ops listed := by simpa using hr
    have hst : qOp P ops C k (wpQuiet P ops C Lq l) a := by unfold qOp; simp only [h0]; exact h
    obtain ⟨v, hy, hK⟩ := yieldsIn_of_qOp h0 hst
    exact anyHead_first h0 (Region.noSelect_spec hsel) hs hc hn hkn (fun listed' a' hL => seqB_ready hL.1) l.length listed a inv (Region.free_spec h0 hf) hr' hy
      (anyHead_lex hsel hs hc hn l (k + 1) _ _ (fun j hj => by have := hl (j + 1) (by simp; omega); simpa [Nat.add_assoc, Nat.add_comm 1 j] using this) (by simp only [List.length_cons] at hk; omega) (inv.set hr' hkn) hB' hK)

/-- The head in a class of worlds, the tail as it stands, from every world of the class. -/
theorem wp_region_class_tail {id : Nat} {Q : Exit → Act → World → Prop} {a : Act} {w : World} {l : List Oper} (n : Nat) (C : World → Prop) (hm : P.follows .mixedOrders = true) (hB : Region.lexTailB .any l.toArray n = true) (hC : C w.drew)
    (h : wpQuiet P l.toArray C (fun a' => ∀ w', C w' → wpList P l.toArray Q (l.drop n) a' w') (l.take n) a) : (Code.region id l.toArray true).wp P Q a w := by
  simp only [Region.lexTailB, Bool.and_eq_true, decide_eq_true_eq] at hB
  obtain ⟨⟨⟨⟨hsel, hn⟩, hs⟩, hc⟩, hlex⟩ := hB
  have htl : (l.take n).length = n := by
    have : n < l.length := by simpa using hn
    simp; omega
  have hdl : (l.drop n).length = l.toArray.size - n := by simp
  have inv0 : HeadInv .any l.toArray n (Array.replicate l.toArray.size false) :=
    ⟨by simp, fun j oj _ hl => (by rw [getD_replicate_false] at hl; cases hl), fun t _ ht => getD_in (by simpa using ht) (getD_replicate_false _ _)⟩
  have H := anyHead_lex (md := .any) (C := C) (g := l.toArray.size - n) hsel hs hc hn (l.take n) 0 _ a (fun j hj => by
    have hj' : j < n := by rw [htl] at hj; exact hj
    simp [hj']) (by simpa using htl) inv0 (by rw [htl]; exact hlex) h
  refine wp_region_any hm ?_
  have := any_of_head (Q' := Q) (g := l.toArray.size - n) (fun listed a' w' hw' hL => by
    have := wpAny_of_seq (md := .any) (Q' := Q) (l.drop n) n listed a' w' (fun j => by simp [List.getElem?_drop]) (by rw [hdl]; exact hL.1) (hL.2 w' hw')
    rwa [hdl] at this) _ _ _ w.drew hC H
  rw [htl, show n + (l.toArray.size - n) = l.toArray.size by omega] at this
  exact this
end Go.Proofs.YtfilolmbppjbjaaGreat

namespace Go.Proofs.YtfilolmbppjbjaaGreat

/-- An event. -/
structure Ev where
  kind : Int
  id : Int
  name : List UInt8
  time : Int
  len : Int
  sum : List UInt8
def zs : List UInt8 := List.replicate 32 0
def tI (k : Int) : Bool := !(k == 7)
def tN (k : Int) : Bool := k == 0 || k == 4 || k == 5
def tT (k : Int) : Bool := k == 2 || k == 3 || k == 7
def tL (k : Int) : Bool := k == 1 || k == 2
def tS (k : Int) : Bool := k == 2
def least (k : Int) : Int := if k = 1 then 1 else 0
def vI (k i : Int) : Bool := if tI k then decide (1 ≤ i ∧ i ≤ 1099511627776) else i == 0
def vN (vn : List UInt8 → Bool) (k : Int) (n : List UInt8) : Bool := if tN k then vn n else n == []
def vT (k t : Int) : Bool := if tT k then decide (0 ≤ t ∧ t ≤ 1099511627776) else t == 0
def vL (k l : Int) : Bool := if tL k then decide (least k ≤ l ∧ l ≤ 600) else l == 0
def vS (k : Int) (s : List UInt8) : Bool := tS k || s == zs
def ok (vn : List UInt8 → Bool) (e : Ev) : Bool := decide (0 ≤ e.kind ∧ e.kind ≤ 7) && vI e.kind e.id && vN vn e.kind e.name && vT e.kind e.time && vL e.kind e.len && vS e.kind e.sum
/-- What is told, or not. -/
def wh (b : Bool) (l : List UInt8) : List UInt8 := if b then l else []
def put (e : Ev) : List UInt8 :=
  num e.kind.toNat ++ (wh (tI e.kind) (num e.id.toNat) ++ (wh (tN e.kind) (text e.name) ++ (wh (tT e.kind) (num e.time.toNat) ++ (wh (tL e.kind) (num e.len.toNat) ++ wh (tS e.kind) e.sum))))
def pn (b : Bool) (l : List UInt8) : Option (Nat × List UInt8) := if b then gn l else some (0, l)
def pt (b : Bool) (l : List UInt8) : Option (List UInt8 × List UInt8) := if b then gt l 100 else some ([], l)
def ps (b : Bool) (l : List UInt8) : Option (List UInt8 × List UInt8) := if b then gs l else some (zs, l)
/-- What is read of the bytes of a kind's event, whether it may be or not. -/
def rdE (k : Nat) (l : List UInt8) : Option (Ev × List UInt8) :=
  (pn (tI k) l).bind fun a => (pt (tN k) a.2).bind fun b => (pn (tT k) b.2).bind fun c => (pn (tL k) c.2).bind fun d => (ps (tS k) d.2).bind fun s =>
    some (⟨k, a.1, b.1, c.1, d.1, s.1⟩, s.2)
def get (vn : List UInt8 → Bool) (l : List UInt8) : Option (Ev × List UInt8) :=
  (gn l).bind fun a => if 7 < a.1 then none else (rdE a.1 a.2).bind fun q => if ok vn q.1 then some q else none

theorem pn_put (b : Bool) (n : Int) (h : if b then 0 ≤ n ∧ n ≤ 1099511627776 else n = 0) (r : List UInt8) : pn b (wh b (num n.toNat) ++ r) = some (n.toNat, r) := by
  unfold pn wh
  cases b with
  | true => simp only [if_true] at *; exact gn_num (by unfold big; omega) r
  | false =>
    have h0 : n = 0 := by simpa using h
    rw [h0]; rfl
theorem pn_some {b : Bool} {l r : List UInt8} {n : Nat} (h : pn b l = some (n, r)) : l = wh b (num n) ++ r := by
  unfold pn at h
  unfold wh
  cases b with
  | true => exact (gn_some h).2
  | false => simp at h; rw [h.2]; rfl
theorem pn_zero {l r : List UInt8} {n : Nat} (h : pn false l = some (n, r)) : n = 0 := by
  unfold pn at h; simp at h; exact h.1.symm
theorem pt_put (b : Bool) (n : List UInt8) (h : if b then n.length ≤ 100 else n = []) (r : List UInt8) : pt b (wh b (text n) ++ r) = some (n, r) := by
  unfold pt wh
  cases b with
  | true => simp only [if_true] at *; exact gt_text (by unfold big; omega) (by omega) r
  | false =>
    have h0 : n = [] := by simpa using h
    rw [h0]; rfl
theorem pt_some {b : Bool} {l n r : List UInt8} (h : pt b l = some (n, r)) : l = wh b (text n) ++ r ∧ (b = false → n = []) := by
  unfold pt at h
  unfold wh
  cases b with
  | true => exact ⟨(gt_some h).1, fun k => by cases k⟩
  | false => simp at h; rw [h.2]; exact ⟨rfl, fun _ => h.1⟩
theorem ps_put (b : Bool) (s : List UInt8) (hl : s.length = 32) (h : b = false → s = zs) (r : List UInt8) : ps b (wh b s ++ r) = some (s, r) := by
  unfold ps wh
  cases b with
  | true =>
    show gs (s ++ r) = _
    unfold gs
    rw [if_pos (by rw [List.length_append]; omega), List.take_left' hl, List.drop_left' hl]
  | false => rw [h rfl]; rfl
theorem ps_some {b : Bool} {l s r : List UInt8} (h : ps b l = some (s, r)) : l = wh b s ++ r ∧ s.length = 32 ∧ (b = false → s = zs) := by
  unfold ps at h
  unfold wh
  cases b with
  | true =>
    have h' : gs l = some (s, r) := h
    unfold gs at h'
    split at h'
    · rename_i hl
      cases h'
      refine ⟨by simp, by rw [List.length_take]; omega, fun k => by cases k⟩
    · cases h'
  | false =>
    simp at h
    obtain ⟨h1, h2⟩ := h
    subst h1 h2
    exact ⟨rfl, rfl, fun _ => rfl⟩

/-- What may be, field by field. -/
structure Ok (vn : List UInt8 → Bool) (e : Ev) : Prop where
  k0 : 0 ≤ e.kind
  k7 : e.kind ≤ 7
  i : vI e.kind e.id = true
  n : vN vn e.kind e.name = true
  t : vT e.kind e.time = true
  l : vL e.kind e.len = true
  s : vS e.kind e.sum = true
theorem ok_iff (vn : List UInt8 → Bool) (e : Ev) : ok vn e = true ↔ Ok vn e := by
  unfold ok
  simp only [Bool.and_eq_true, decide_eq_true_eq]
  constructor
  · rintro ⟨⟨⟨⟨⟨⟨h1, h2⟩, h3⟩, h4⟩, h5⟩, h6⟩, h7⟩; exact ⟨h1, h2, h3, h4, h5, h6, h7⟩
  · rintro ⟨h1, h2, h3, h4, h5, h6, h7⟩; exact ⟨⟨⟨⟨⟨⟨h1, h2⟩, h3⟩, h4⟩, h5⟩, h6⟩, h7⟩
theorem vI_num {k i : Int} (h : vI k i = true) : if tI k then 0 ≤ i ∧ i ≤ 1099511627776 else i = 0 := by
  unfold vI at h
  split at h
  · rename_i b; rw [if_pos b]; rw [decide_eq_true_eq] at h; omega
  · rename_i b; rw [if_neg b]; simpa using h
theorem vT_num {k i : Int} (h : vT k i = true) : if tT k then 0 ≤ i ∧ i ≤ 1099511627776 else i = 0 := by
  unfold vT at h
  split at h
  · rename_i b; rw [if_pos b]; rw [decide_eq_true_eq] at h; omega
  · rename_i b; rw [if_neg b]; simpa using h
theorem vL_num {k i : Int} (h : vL k i = true) : if tL k then 0 ≤ i ∧ i ≤ 1099511627776 else i = 0 := by
  unfold vL least at h
  split at h
  · rename_i b; rw [if_pos b]; rw [decide_eq_true_eq] at h; split at h <;> omega
  · rename_i b; rw [if_neg b]; simpa using h
theorem vN_len {vn : List UInt8 → Bool} (hvn : ∀ l, vn l = true → l.length ≤ 100) {k : Int} {n : List UInt8} (h : vN vn k n = true) : if tN k then n.length ≤ 100 else n = [] := by
  unfold vN at h
  split at h
  · rename_i b; rw [if_pos b]; exact hvn n h
  · rename_i b; rw [if_neg b]; simpa using h
theorem vS_zs {k : Int} {s : List UInt8} (h : vS k s = true) : tS k = false → s = zs := by
  intro b
  unfold vS at h
  rw [b] at h
  simpa using h
theorem nn {b : Bool} {n : Int} (h : if b then 0 ≤ n ∧ n ≤ 1099511627776 else n = 0) : 0 ≤ n := by
  cases b with
  | true => simp only [if_true] at h; omega
  | false => have : n = 0 := by simpa using h
             omega

theorem rdE_put {vn : List UInt8 → Bool} (hvn : ∀ l, vn l = true → l.length ≤ 100) {e : Ev} (h : Ok vn e) (hs : e.sum.length = 32) (r : List UInt8) :
    rdE e.kind.toNat (wh (tI e.kind) (num e.id.toNat) ++ (wh (tN e.kind) (text e.name) ++ (wh (tT e.kind) (num e.time.toNat) ++ (wh (tL e.kind) (num e.len.toNat) ++ (wh (tS e.kind) e.sum ++ r))))) = some (e, r) := by
  unfold rdE
  have hk : ((e.kind.toNat : Nat) : Int) = e.kind := Int.toNat_of_nonneg h.k0
  rw [hk, pn_put _ _ (vI_num h.i)]
  simp only [Option.bind_some]
  rw [pt_put _ _ (vN_len hvn h.n)]
  simp only [Option.bind_some]
  rw [pn_put _ _ (vT_num h.t)]
  simp only [Option.bind_some]
  rw [pn_put _ _ (vL_num h.l)]
  simp only [Option.bind_some]
  rw [ps_put _ _ hs (vS_zs h.s)]
  simp only [Option.bind_some]
  rw [Int.toNat_of_nonneg (nn (vI_num h.i)), Int.toNat_of_nonneg (nn (vT_num h.t)), Int.toNat_of_nonneg (nn (vL_num h.l))]
theorem rdE_some {k : Nat} {l r : List UInt8} {e : Ev} (h : rdE k l = some (e, r)) : e.kind = k ∧ e.sum.length = 32 ∧
    l = wh (tI e.kind) (num e.id.toNat) ++ (wh (tN e.kind) (text e.name) ++ (wh (tT e.kind) (num e.time.toNat) ++ (wh (tL e.kind) (num e.len.toNat) ++ (wh (tS e.kind) e.sum ++ r)))) := by
  unfold rdE at h
  simp only [Option.bind_eq_some_iff] at h
  obtain ⟨⟨a1, a2⟩, ha, ⟨b1, b2⟩, hb, ⟨c1, c2⟩, hc, ⟨d1, d2⟩, hd, ⟨s1, s2⟩, hs, he⟩ := h
  simp only [Option.some.injEq, Prod.mk.injEq] at he
  obtain ⟨rfl, rfl⟩ := he
  obtain ⟨h1, h2, _⟩ := ps_some hs
  refine ⟨rfl, h2, ?_⟩
  simp only [Int.toNat_natCast]
  have e1 := pn_some ha
  have e2 := (pt_some hb).1
  have e3 := pn_some hc
  have e4 := pn_some hd
  simp only at e1 e2 e3 e4 h1
  rw [e1, e2, e3, e4, h1]
theorem get_put {vn : List UInt8 → Bool} (hvn : ∀ l, vn l = true → l.length ≤ 100) {e : Ev} (h : ok vn e = true) (hs : e.sum.length = 32) (r : List UInt8) : get vn (put e ++ r) = some (e, r) := by
  have ho := (ok_iff vn e).1 h
  have k0 := ho.k0
  have k7 := ho.k7
  unfold get put
  simp only [List.append_assoc]
  rw [gn_num (by unfold big; omega)]
  simp only [Option.bind_some]
  rw [if_neg (by omega), rdE_put hvn ho hs]
  simp only [Option.bind_some]
  rw [if_pos h]
theorem get_some {vn : List UInt8 → Bool} {l r : List UInt8} {e : Ev} (h : get vn l = some (e, r)) : ok vn e = true ∧ e.sum.length = 32 ∧ l = put e ++ r := by
  unfold get at h
  simp only [Option.bind_eq_some_iff] at h
  obtain ⟨⟨k, m⟩, hk, h⟩ := h
  simp only at h
  split at h
  · cases h
  rename_i h7
  rw [Option.bind_eq_some_iff] at h
  obtain ⟨⟨e', r'⟩, h1, h2⟩ := h
  simp only at h2
  split at h2
  · rename_i hok
    simp only [Option.some.injEq, Prod.mk.injEq] at h2
    obtain ⟨rfl, rfl⟩ := h2
    obtain ⟨g1, g2, g3⟩ := rdE_some h1
    refine ⟨hok, g2, ?_⟩
    have g4 := (gn_some hk).2
    rw [g4, g3]
    unfold put
    rw [g1]
    simp only [Int.toNat_natCast, List.append_assoc]
  · cases h2
theorem get_none {vn : List UInt8 → Bool} {l : List UInt8} (h : ∀ e r, ok vn e = true → e.sum.length = 32 → l ≠ put e ++ r) : get vn l = none := by
  cases hg : get vn l with
  | none => rfl
  | some q =>
    obtain ⟨e, r⟩ := q
    obtain ⟨h1, h2, h3⟩ := get_some hg
    exact absurd h3 (h e r h1 h2)
/-- None is the beginning of another one. -/
theorem put_apart {vn : List UInt8 → Bool} (hvn : ∀ l, vn l = true → l.length ≤ 100) {a b : Ev} (ha : ok vn a = true) (hb : ok vn b = true) (sa : a.sum.length = 32) (sb : b.sum.length = 32) {r : List UInt8} (h : put b = put a ++ r) : a = b ∧ r = [] := by
  have h1 := get_put hvn ha sa r
  have h2 := get_put hvn hb sb []
  rw [List.append_nil, h, h1] at h2
  cases h2
  exact ⟨rfl, rfl⟩
theorem num_small {n : Nat} (h : n < 128) : num n = [UInt8.ofNat n] := numF_low 7 n h
theorem numF_mono (f n : Nat) (j : Nat) (h : n < 128 ^ (j + 1)) (hj : j ≤ f) : (numF f n).length ≤ j + 1 := by
  induction j generalizing f n with
  | zero => rw [numF_low f n (by simpa using h)]; simp
  | succ j ih =>
    by_cases hn : n < 128
    · rw [numF_low f n hn]; simp
    · obtain ⟨g, rfl⟩ : ∃ g, f = g + 1 := ⟨f - 1, by omega⟩
      rw [numF_high g n (by omega), List.length_cons]
      have := ih g (n / 128) (Nat.div_lt_of_lt_mul (by rw [Nat.mul_comm]; exact h)) (by omega)
      omega
theorem wh_len (b : Bool) (l : List UInt8) (m : Nat) (h : b = true → l.length ≤ m) : (wh b l).length ≤ m := by
  unfold wh; cases b with
  | true => exact h rfl
  | false => exact Nat.zero_le _
theorem put_long {vn : List UInt8 → Bool} (hvn : ∀ l, vn l = true → l.length ≤ 96) {e : Ev} (h : ok vn e = true) (hs : e.sum.length = 32) : 2 ≤ (put e).length ∧ (put e).length ≤ 110 := by
  have ho := (ok_iff vn e).1 h
  have k0 := ho.k0
  have k7 := ho.k7
  have p6 : (128 : Nat) ^ 6 = 4398046511104 := by decide
  have n1 : ∀ n : Nat, n ≤ 1099511627776 → (num n).length ≤ 6 := fun n hn => numF_mono 7 n 5 (by rw [p6]; omega) (by omega)
  have hI := vI_num ho.i
  have hT := vT_num ho.t
  have hL := vL_num ho.l
  have l0 : (num e.kind.toNat).length = 1 := by rw [num_small (by omega)]; rfl
  have l1 := wh_len (tI e.kind) (num e.id.toNat) 6 (fun b => n1 _ (by rw [if_pos b] at hI; omega))
  have l3 := wh_len (tT e.kind) (num e.time.toNat) 6 (fun b => n1 _ (by rw [if_pos b] at hT; omega))
  have l4 := wh_len (tL e.kind) (num e.len.toNat) 6 (fun b => n1 _ (by rw [if_pos b] at hL; omega))
  have l5 := wh_len (tS e.kind) e.sum 32 (fun _ => by omega)
  have l2 : (wh (tN e.kind) (text e.name)).length ≤ 97 := wh_len _ _ _ (fun b => by
    have := ho.n
    unfold vN at this
    rw [if_pos b] at this
    have hl := hvn _ this
    unfold text
    rw [List.length_append, cl_id (by unfold big; omega), num_small (by omega), List.length_singleton]
    omega)
  have m1 : tI e.kind = true ∨ tT e.kind = true := by
    unfold tI tT
    by_cases k : e.kind = 7
    · right; simp [k]
    · left; simpa using k
  have g1 : ∀ (b : Bool) (n : Nat), b = true → 1 ≤ (wh b (num n)).length := fun b n hb => by
    unfold wh; rw [if_pos hb]; exact (num_len n).1
  have x1 : tN e.kind = true → tT e.kind = false ∧ tL e.kind = false ∧ tS e.kind = false := by
    unfold tN tT tL tS
    intro k
    simp only [Bool.or_eq_true, beq_iff_eq] at k
    rcases k with (k | k) | k <;> rw [k] <;> decide
  unfold put
  simp only [List.length_append]
  constructor
  · rcases m1 with b | b
    · have := g1 _ e.id.toNat b; omega
    · have := g1 _ e.time.toNat b; omega
  · cases hb : tN e.kind with
    | true =>
      obtain ⟨y1, y2, y3⟩ := x1 hb
      rw [hb] at l2
      rw [y1, y2, y3]
      simp only [wh, Bool.false_eq_true, if_false, List.length_nil, if_true] at l2 ⊢
      simp only [wh] at l1
      omega
    | false =>
      simp only [wh, Bool.false_eq_true, if_false, List.length_nil] at l2 l1 l3 l4 l5 ⊢
      omega
theorem put_first {vn : List UInt8 → Bool} {e : Ev} (h : ok vn e = true) : ∃ r, put e = UInt8.ofNat e.kind.toNat :: r := by
  have ho := (ok_iff vn e).1 h
  have k0 := ho.k0
  have k7 := ho.k7
  unfold put
  rw [num_small (by omega)]
  exact ⟨_, rfl⟩
end Go.Proofs.YtfilolmbppjbjaaGreat

namespace Go.Proofs.YtfilolmbppjbjaaGreat
open Go Go.RowKit

/-- The cells of an event. -/
def evr (e : Ev) : Array Value := #[.int .i64 e.kind, .int .i64 e.id, .string ⟨e.name.toArray⟩, .int .i64 e.time, .int .i64 e.len] ++ row e.sum

/-- A part of an event. -/
inductive Pt where
  | kind (n : Int)
  | id (n : Int)
  | label (l : List UInt8)
  | moment (n : Int)
  | added (n : Int)
  | length (n : Int)
  | sum (d : List UInt8)
def Pt.enc : Pt → Value
  | .kind n => .iface 98 (.int .i64 n)
  | .id n => .iface 115 (.int .i64 n)
  | .label l => .iface 100 (.string ⟨l.toArray⟩)
  | .moment n => .iface 102 (.int .i64 n)
  | .added n => .iface 101 (.int .i64 n)
  | .length n => .iface 103 (.int .i64 n)
  | .sum d => .iface 104 (.agg (row d))
def aboutP (e : Ev) : Pt := if e.kind = 7 then .moment e.time else .id e.id

theorem cell_new (w : World) (c : Array Value) (t : TypeId) (j : Nat) (v : Value) (h : c[j]? = some v) : (w.alloc (.cells c t)).cell? ⟨w.heap.size, j, none⟩ = some v := by
  have hh := heap_alloc_if w (.cells c t) w.heap.size
  rw [if_pos rfl] at hh
  simp only [World.cell?, hh]
  exact h
theorem evr0 (e : Ev) : (evr e)[0]? = some (.int .i64 e.kind) := by unfold evr; rw [Array.getElem?_append_left (by simp)]; rfl
theorem evr1 (e : Ev) : (evr e)[1]? = some (.int .i64 e.id) := by unfold evr; rw [Array.getElem?_append_left (by simp)]; rfl
theorem evr2 (e : Ev) : (evr e)[2]? = some (.string ⟨e.name.toArray⟩) := by unfold evr; rw [Array.getElem?_append_left (by simp)]; rfl
theorem evr3 (e : Ev) : (evr e)[3]? = some (.int .i64 e.time) := by unfold evr; rw [Array.getElem?_append_left (by simp)]; rfl
theorem evr4 (e : Ev) : (evr e)[4]? = some (.int .i64 e.len) := by unfold evr; rw [Array.getElem?_append_left (by simp)]; rfl
theorem evr_size (e : Ev) : (evr e).size = 5 + e.sum.length := by simp [evr, row_size]

set_option maxRecDepth 100000 in
set_option maxHeartbeats 400000 in
theorem about_any (e : Ev) (w : World) :
    Calls Tryz.prog 61 #[.agg (evr e)] w fun r w' => r = .returned (aboutP e).enc ∧ Below w.heap.size w w' := by
  have hb : Hid (Below w.heap.size w (w.alloc (.cells (evr e) 34))) := Lib.hid ((Below.refl _ _).alloc (Nat.le_refl _) _)
  have h0 := cell_new w _ 34 0 _ (evr0 e)
  by_cases h : e.kind = 7
  · have hd : (e.kind == 7) = true := by simpa using h
    have h3 := cell_new w _ 34 3 _ (evr3 e)
    have he : Hid ((aboutP e).enc = .iface 102 (.int .i64 e.time)) := Lib.hid (by unfold aboutP; rw [if_pos h]; rfl)
    clear h
    generalize evr e = c at *
    go_enter Tryz.func61, Tryz.ntmps61
    go_wp2_with fail
    go_ret
    exact ⟨by rw [he.out]; rfl, hb.out⟩
  · have hd : (e.kind == 7) = false := by simpa using h
    have h1 := cell_new w _ 34 1 _ (evr1 e)
    have he : Hid ((aboutP e).enc = .iface 115 (.int .i64 e.id)) := Lib.hid (by unfold aboutP; rw [if_neg h]; rfl)
    clear h
    generalize evr e = c at *
    go_enter Tryz.func61, Tryz.ntmps61
    go_wp2_with fail
    go_ret
    exact ⟨by rw [he.out]; rfl, hb.out⟩
end Go.Proofs.YtfilolmbppjbjaaGreat

namespace Go.Proofs.YtfilolmbppjbjaaGreat
open Go Go.RowKit

/-- What is known of a slot. -/
def lk : List (Nat × Value) → Nat → Option Value
  | [], _ => none
  | p :: L, n => bif p.1 == n then some p.2 else lk L n
/-- A frame of N slots, of which these are known. -/
structure Fr (N : Nat) (L : List (Nat × Value)) (a : Act) : Prop where
  size : a.tmps.size = N
  none : a.defers = []
  has : ∀ t v, lk L t = some v → a.tmps.getD t undef = v
def HasAll (a : Act) : List (Nat × Value) → Prop
  | [] => True
  | p :: L => a.tmps.getD p.1 undef = p.2 ∧ HasAll a L
theorem HasAll.has {a : Act} : ∀ {L : List (Nat × Value)}, HasAll a L → ∀ t v, lk L t = some v → a.tmps.getD t undef = v
  | [], _, t, v, h => by cases h
  | p :: L, hh, t, v, h => by
    unfold lk at h
    by_cases e : p.1 = t
    · subst e; simp at h; rw [← h]; exact hh.1
    · rw [show (p.1 == t) = false by simpa using e] at h
      exact HasAll.has hh.2 t v h
theorem Fr.of {a : Act} {N : Nat} {L : List (Nat × Value)} (h1 : a.tmps.size = N) (h2 : a.defers = []) (h : HasAll a L) : Fr N L a := ⟨h1, h2, h.has⟩
theorem Fr.put {N : Nat} {L : List (Nat × Value)} {a : Act} (h : Fr N L a) (d : Nat) (hd : d < N) (v : Value) : Fr N ((d, v) :: L) (a.put (some d) v) := by
  refine ⟨?_, h.none, ?_⟩
  · show (a.tmps.setIfInBounds d v).size = N; rw [Array.size_setIfInBounds]; exact h.size
  · intro t u hu
    unfold lk at hu
    show (a.tmps.setIfInBounds d v).getD t undef = u
    by_cases e : d = t
    · subst e
      simp at hu
      rw [← hu]
      simp [h.size, hd]
    · have e' : (d == t) = false := by simpa using e
      simp only [e', cond_false] at hu
      rw [← h.has t u hu]
      simp [Array.getElem?_setIfInBounds_ne e]
/-- What an operand is. -/
def rd (L : List (Nat × Value)) : Operand → Option Value
  | .tmp t => lk L t
  | .const v => some v
  | .func f => some (.func (.func f) #[] #[])
  | .global g => some (.pointer (some ⟨g, 0, none⟩))
theorem Fr.rd {N : Nat} {L : List (Nat × Value)} {a : Act} (h : Fr N L a) (x : Operand) (v : Value) (hx : rd L x = some v) : a.eval x = v := by
  cases x with
  | tmp t => exact h.has t v hx
  | const u => exact Option.some.inj hx
  | func f => exact Option.some.inj hx
  | global g => exact Option.some.inj hx

variable {P : Program} {ops : Array Oper} {C : World → Prop} {Q : Act → Prop} {o : Oper} {rest : List Oper} {L : List (Nat × Value)} {N : Nat}

/-- An operation that is to be done. -/
def Want (ops : Array Oper) (o : Oper) (L : List (Nat × Value)) : Prop :=
  o.guard = none ∨ ∃ (j d : Nat) (b : Bool), o.guard = some (j, b) ∧ (ops[j]?).bind (·.dst) = some d ∧ lk L d = some (.bool b)
theorem Want.free (h : o.guard = none) : Want ops o L := .inl h
theorem Want.on (j d : Nat) (b : Bool) (hg : o.guard = some (j, b)) (hd : (ops[j]?).bind (·.dst) = some d) (hl : lk L d = some (.bool b)) : Want ops o L := .inr ⟨j, d, b, hg, hd, hl⟩
/-- An operation that is left out. -/
def Off (ops : Array Oper) (o : Oper) (L : List (Nat × Value)) : Prop :=
  ∃ (j d : Nat) (b : Bool), o.guard = some (j, b) ∧ (ops[j]?).bind (·.dst) = some d ∧ (lk L d = some (.bool (!b)) ∨ lk L d = some undef)
theorem Off.no (j d : Nat) (b : Bool) (hg : o.guard = some (j, b)) (hd : (ops[j]?).bind (·.dst) = some d) (hl : lk L d = some (.bool (!b))) : Off ops o L := ⟨j, d, b, hg, hd, .inl hl⟩
theorem Off.un (j d : Nat) (b : Bool) (hg : o.guard = some (j, b)) (hd : (ops[j]?).bind (·.dst) = some d) (hl : lk L d = some undef) : Off ops o L := ⟨j, d, b, hg, hd, .inr hl⟩
theorem yielded_at {a : Act} (h : Fr N L a) {j d : Nat} {b : Bool} (hd : (ops[j]?).bind (·.dst) = some d) (hl : lk L d = some (.bool b)) : yielded ops a.tmps j = some b := by
  have := h.has d _ hl
  unfold yielded
  rw [hd]
  by_cases e : d < a.tmps.size
  · simp only [Option.bind_some]
    rw [Array.getElem?_eq_getElem e]
    have k : a.tmps[d] = .bool b := by simpa [e] using this
    rw [k]
  · rw [Array.getD_eq_getD_getElem?, Array.getElem?_eq_none (by omega)] at this
    cases this
theorem yielded_un {a : Act} (h : Fr N L a) {j d : Nat} (hd : (ops[j]?).bind (·.dst) = some d) (hl : lk L d = some undef) : yielded ops a.tmps j = none := by
  have := h.has d _ hl
  unfold yielded
  rw [hd]
  by_cases e : d < a.tmps.size
  · simp only [Option.bind_some]
    rw [Array.getElem?_eq_getElem e]
    have k : a.tmps[d] = undef := by simpa [e] using this
    rw [k]; rfl
  · simp only [Option.bind_some]
    rw [Array.getElem?_eq_none (by omega)]
theorem Want.yes {a : Act} (hw : Want ops o L) (h : Fr N L a) : Region.wanted o (yielded ops a.tmps) = true := by
  unfold Region.wanted
  rcases hw with hg | ⟨j, d, b, hg, hd, hl⟩
  · rw [hg]
  · rw [hg]; simp only; rw [yielded_at h hd hl]; simp
theorem Off.no' {a : Act} (hw : Off ops o L) (h : Fr N L a) : Region.wanted o (yielded ops a.tmps) = false := by
  unfold Region.wanted
  obtain ⟨j, d, b, hg, hd, hl | hl⟩ := hw
  · rw [hg]; simp only; rw [yielded_at h hd hl]; cases b <;> rfl
  · rw [hg]; simp only; rw [yielded_un h hd hl]; rfl

/-- The walk from here on, in whatever frame these slots are known. -/
def WQ (P : Program) (ops : Array Oper) (C : World → Prop) (Q : Act → Prop) (N : Nat) (rest : List Oper) (L : List (Nat × Value)) : Prop := ∀ a, Fr N L a → wpQuiet P ops C Q rest a
theorem wq_nil (h : ∀ a, Fr N L a → Q a) : WQ P ops C Q N [] L := fun a ha => wpQuiet_nil (h a ha)
theorem wq_off (hw : Off ops o L) (d : Nat) (hd : o.dst = some d) (hN : d < N) (h : WQ P ops C Q N rest ((d, undef) :: L)) : WQ P ops C Q N (o :: rest) L := fun a ha => by
  unfold wpQuiet
  rw [if_neg (by rw [hw.no' ha]; simp), hd]
  exact h _ (ha.put d hN _)
theorem wq_val (hw : Want ops o L) (d : Nat) (hd : o.dst = some d) (hN : d < N) (v : Value) (hv : ∀ a, Fr N L a → ∀ w, C w → (execOp a.eval o).run P w = .ok (.value v) w) (h : WQ P ops C Q N rest ((d, v) :: L)) : WQ P ops C Q N (o :: rest) L := fun a ha =>
  wpQuiet_val (hw.yes ha) v (hv a ha) (by rw [hd]; exact h _ (ha.put d hN v))
/-- What is known may be forgotten: the first stays, the next k go. -/
theorem lk_drop : ∀ {k : Nat} {M : List (Nat × Value)}, (M.take k).all (fun q => (M.drop k).all fun r => !(r.1 == q.1)) = true → ∀ t v, lk (M.drop k) t = some v → lk M t = some v := by
  intro k M
  induction k generalizing M with
  | zero => intro _ t v h; exact h
  | succ k ih =>
    cases M with
    | nil => intro _ t v h; cases h
    | cons q M =>
      intro hall t v h
      rw [List.take_succ_cons, List.drop_succ_cons, List.all_cons, Bool.and_eq_true] at hall
      rw [List.drop_succ_cons] at h
      have h2 := ih hall.2 t v h
      unfold lk
      by_cases e : q.1 = t
      · exfalso
        have key : ∀ R : List (Nat × Value), (R.all fun r => !(r.1 == q.1)) = true → lk R t = none := by
          intro R
          induction R with
          | nil => intro _; rfl
          | cons r R ihr =>
            intro hr
            rw [List.all_cons, Bool.and_eq_true] at hr
            unfold lk
            have : (r.1 == t) = false := by rw [← e]; simpa using hr.1
            rw [this]
            exact ihr hr.2
        rw [key _ hall.1] at h
        cases h
      · rw [show (q.1 == t) = false by simpa using e]
        exact h2
theorem Fr.drop {p : Nat × Value} {M : List (Nat × Value)} {a : Act} (k : Nat) (hk : (M.take k).all (fun q => (M.drop k).all fun r => !(r.1 == q.1)) = true) (h : Fr N (p :: M) a) : Fr N (p :: M.drop k) a := by
  refine ⟨h.size, h.none, fun t v hv => h.has t v ?_⟩
  unfold lk at hv ⊢
  cases e : p.1 == t with
  | true => rw [e] at hv; exact hv
  | false => rw [e] at hv; exact lk_drop hk t v hv
theorem wq_drop {p : Nat × Value} {M : List (Nat × Value)} (k : Nat) (hk : (M.take k).all (fun q => (M.drop k).all fun r => !(r.1 == q.1)) = true) (h : WQ P ops C Q N rest (p :: M.drop k)) : WQ P ops C Q N rest (p :: M) := fun a ha => h a (ha.drop k hk)

/-- Two ways that come to the same. -/
theorem wq_join (k : Nat) (L1 : List (Nat × Value)) (h1 : WQ P ops C Q N (rest.drop k) L1) (h2 : WQ P ops C Q N (rest.drop k) L1 → WQ P ops C Q N rest L) : WQ P ops C Q N rest L := h2 h1
theorem wq_move (hw : Want ops o L) (d : Nat) (hd : o.dst = some d) (hN : d < N) (x : Operand) (ho : o.op = .move x ∨ o.op = .assign x) (v : Value) (hx : rd L x = some v) (h : WQ P ops C Q N rest ((d, v) :: L)) : WQ P ops C Q N (o :: rest) L :=
  wq_val hw d hd hN v (fun a ha w _ => by
    have e := ha.rd x v hx
    unfold execOp; rcases ho with ho | ho <;> simp only [ho, e, Sem.run_pure]) h
theorem wq_not (hw : Want ops o L) (d : Nat) (hd : o.dst = some d) (hN : d < N) (t : TypeId) (x : Operand) (ho : o.op = .unOp .not t x) (b : Bool) (hx : rd L x = some (.bool b)) (r : Bool) (hr : (!b) = r) (h : WQ P ops C Q N rest ((d, .bool r) :: L)) : WQ P ops C Q N (o :: rest) L :=
  wq_val hw d hd hN _ (fun a ha w _ => by unfold execOp; simp only [ho, ha.rd x _ hx]; subst hr; simp [Op.unary, go_sem]) h
theorem wq_pick (hw : Want ops o L) (d : Nat) (hd : o.dst = some d) (hN : d < N) (c x y : Operand) (ho : o.op = .pick c x y) (b : Bool) (hc : rd L c = some (.bool b)) (v : Value) (hx : (bif b then rd L x else rd L y) = some v) (h : WQ P ops C Q N rest ((d, v) :: L)) : WQ P ops C Q N (o :: rest) L :=
  wq_val hw d hd hN v (fun a ha w _ => by
    have h1 := ha.rd c _ hc
    cases b with
    | true => have h2 := ha.rd x v hx; unfold execOp; simp [ho, h1, h2, asBool]
    | false => have h2 := ha.rd y v hx; unfold execOp; simp [ho, h1, h2, asBool]) h
theorem wq_seq (hw : Want ops o L) (d : Nat) (hd : o.dst = some d) (hN : d < N) (t t' : TypeId) (x y : Operand) (ho : o.op = .binOp .eql t x y t') (s1 s2 : ByteArray) (hx : rd L x = some (.string s1)) (hy : rd L y = some (.string s2)) (r : Bool) (hr : (li s1 == li s2) = r)
    (h : WQ P ops C Q N rest ((d, .bool r) :: L)) : WQ P ops C Q N (o :: rest) L :=
  wq_val hw d hd hN _ (fun a ha w _ => by
    have e : (s1.toList == s2.toList) = r := by rw [← hr, toList_li, toList_li]
    unfold execOp; simp only [ho, ha.rd x _ hx, ha.rd y _ hy]; simp [eqGuard, go_sem, e]) h
theorem wq_sne (hw : Want ops o L) (d : Nat) (hd : o.dst = some d) (hN : d < N) (t t' : TypeId) (x y : Operand) (ho : o.op = .binOp .neq t x y t') (s1 s2 : ByteArray) (hx : rd L x = some (.string s1)) (hy : rd L y = some (.string s2)) (r : Bool) (hr : (!(li s1 == li s2)) = r)
    (h : WQ P ops C Q N rest ((d, .bool r) :: L)) : WQ P ops C Q N (o :: rest) L :=
  wq_val hw d hd hN _ (fun a ha w _ => by
    have e : (!(s1.toList == s2.toList)) = r := by rw [← hr, toList_li, toList_li]
    unfold execOp; simp only [ho, ha.rd x _ hx, ha.rd y _ hy, binOp_string_neq]; rw [e]; simp [eqGuard, go_sem]) h
theorem wq_cat (hw : Want ops o L) (d : Nat) (hd : o.dst = some d) (hN : d < N) (t t' : TypeId) (x y : Operand) (ho : o.op = .binOp .add t x y t') (s1 s2 : ByteArray) (hx : rd L x = some (.string s1)) (hy : rd L y = some (.string s2)) (hz : s1.size + s2.size ≤ 9223372036854775807)
    (h : WQ P ops C Q N rest ((d, .string (s1 ++ s2)) :: L)) : WQ P ops C Q N (o :: rest) L :=
  wq_val hw d hd hN _ (fun a ha w _ => by unfold execOp; simp only [ho, ha.rd x _ hx, ha.rd y _ hy]; simp [eqGuard, binOp, go_sem, hz]) h
theorem wq_ieq (hw : Want ops o L) (d : Nat) (hd : o.dst = some d) (hN : d < N) (t t' : TypeId) (x y : Operand) (ho : o.op = .binOp .eql t x y t') (k : IntKind) (m n : Int) (hx : rd L x = some (.int k m)) (hy : rd L y = some (.int k n)) (r : Bool) (hr : (m == n) = r)
    (h : WQ P ops C Q N rest ((d, .bool r) :: L)) : WQ P ops C Q N (o :: rest) L :=
  wq_val hw d hd hN _ (fun a ha w _ => by unfold execOp; simp only [ho, ha.rd x _ hx, ha.rd y _ hy]; simp [eqGuard, binOp, Op.intCmp, go_sem, hr]) h
theorem wq_icmp (hw : Want ops o L) (d : Nat) (hd : o.dst = some d) (hN : d < N) (op : BinOp) (t t' : TypeId) (x y : Operand) (ho : o.op = .binOp op t x y t') (k : IntKind) (m n : Int) (hx : rd L x = some (.int k m)) (hy : rd L y = some (.int k n)) (r : Bool)
    (hr : (match op with | .lss => decide (m < n) | .leq => decide (m ≤ n) | .gtr => decide (n < m) | .geq => decide (n ≤ m) | .eql => m == n | .neq => m != n | _ => !r) = r)
    (h : WQ P ops C Q N rest ((d, .bool r) :: L)) : WQ P ops C Q N (o :: rest) L :=
  wq_val hw d hd hN _ (fun a ha w _ => by
    unfold execOp
    simp only [ho, ha.rd x _ hx, ha.rd y _ hy]
    cases op <;> simp only at hr <;> first | (cases r <;> cases hr; done) | (subst hr; simp [eqGuard, binOp, Op.intCmp, go_sem])) h
theorem wq_beq (hw : Want ops o L) (d : Nat) (hd : o.dst = some d) (hN : d < N) (t t' : TypeId) (x y : Operand) (ho : o.op = .binOp .eql t x y t') (m n : Bool) (hx : rd L x = some (.bool m)) (hy : rd L y = some (.bool n)) (ht : P.underlying t = some .bool) (r : Bool) (hr : (m == n) = r)
    (h : WQ P ops C Q N rest ((d, .bool r) :: L)) : WQ P ops C Q N (o :: rest) L :=
  wq_val hw d hd hN _ (fun a ha w _ => by
    unfold execOp; rw [← hr]; simp only [ho, ha.rd x _ hx, ha.rd y _ hy]; simp [eqGuard, binOp, Op.equal, run_equalIn_bool w 9999 t m n ht, Op.maxDepth, go_sem]) h
theorem wq_deq (hw : Want ops o L) (d : Nat) (hd : o.dst = some d) (hN : d < N) (t t' : TypeId) (x y : Operand) (ho : o.op = .binOp .eql t x y t') (c e : Array Value) (hx : rd L x = some (.agg c)) (hy : rd L y = some (.agg e)) (hp : P.eqGuardType P.depth t = false) (r : Bool) (hr : ∀ w, (Op.equalIn 10000 t (.agg c) (.agg e)).run P w = .ok r w)
    (h : WQ P ops C Q N rest ((d, .bool r) :: L)) : WQ P ops C Q N (o :: rest) L :=
  wq_val hw d hd hN _ (fun a ha w _ => by unfold execOp; simp only [ho, ha.rd x _ hx, ha.rd y _ hy]; simp [eqGuard, hp, run_eql_struct, hr, go_sem]) h
theorem wq_len (hw : Want ops o L) (d : Nat) (hd : o.dst = some d) (hN : d < N) (t : TypeId) (x : Operand) (ho : o.op = .call { callee := .builtin .len, args := #[x], argTypes := #[t] }) (s : ByteArray) (hx : rd L x = some (.string s)) (ht : P.underlying t = some .string)
    (h : WQ P ops C Q N rest ((d, .int .i64 (s.size : Int)) :: L)) : WQ P ops C Q N (o :: rest) L :=
  wq_val hw d hd hN _ (fun a ha w _ => by
    have e := ha.rd x _ hx
    unfold execOp; simp only [ho]; simp only [resolve, List.map_toArray, List.map_cons, List.map_nil, e]; simp [invoke, builtin, Builtin.len_, run_underlying ht, goInt, go_sem]) h
theorem wq_load (hw : Want ops o L) (d : Nat) (hd : o.dst = some d) (hN : d < N) (ty : TypeId) (x : Operand) (ho : o.op = .load ty x) (b : Nat) (hx : rd L x = some (.pointer (some ⟨b, 0, none⟩))) (t : TypeId) (c : Array Value) (ds : TypeDesc)
    (hg : ∀ w, C w → w.heap[b]? = some (.cells c t)) (hu : P.underlying ty = some ds) (hda : (match ds with | .struct _ | .array _ _ => true | _ => false) = true) (hi : (P.info? ty).map (·.size) = some c.size)
    (h : WQ P ops C Q N rest ((d, .agg c) :: L)) : WQ P ops C Q N (o :: rest) L :=
  wq_val hw d hd hN _ (fun a ha w hC => by
    unfold execOp
    simp only [ho, ha.rd x _ hx, Instr.loadAt, Instr.sureAddr, Sem.run_bind, Sem.run_pure, Result.andThen_ok, run_loadVar_row w b t ty c (0, 0) ds (hg w hC) hu hda hi]) h
theorem wq_call (hw : Want ops o L) (d : Nat) (hd : o.dst = some d) (hN : d < N) (f : FuncId) (xs : Array Operand) (ts : Array TypeId) (ho : o.op = .call { callee := .value (.func f), args := xs, argTypes := ts })
    (he : ∀ args w, (callFunc f args).run P w = .ok (.enter f args) w) (vs : List Value) (hx : xs.toList.map (rd L) = vs.map some) (v : Value) (hc : ∀ w, C w → Calls P f vs.toArray w fun e w' => e = .returned v ∧ C w')
    (h : WQ P ops C Q N rest ((d, v) :: L)) : WQ P ops C Q N (o :: rest) L := fun a ha =>
  wpQuiet_call (hw.yes ha) f xs ts ho he vs.toArray (by
    have key : ∀ (l : List Operand) (us : List Value), l.map (rd L) = us.map some → l.map a.eval = us := fun l => by
      induction l with
      | nil => intro us h; cases us with
        | nil => rfl
        | cons u us => cases h
      | cons x l ih => intro us h; cases us with
        | nil => cases h
        | cons u us =>
          rw [List.map_cons, List.map_cons] at h
          injection h with h1 h2
          rw [List.map_cons, ih us h2, ha.rd x u h1]
    have := key xs.toList vs hx
    rw [← this]
    cases xs; simp) v hc (by rw [hd]; exact h _ (ha.put d hN v))
/-- A walk stops at a region that draws its order. -/
theorem park_region {id : Nat} {Q : Exit → Act → World → Prop} {a : Act} {w : World} (h : ∀ X : Prop, Hid ((Code.region id ops true).wp P Q a w → X) → X) : (Code.region id ops true).wp P Q a w := h _ (fun k => k)
theorem wpList_of_quiet {Q : Exit → Act → World → Prop} : ∀ (l : List Oper) (a : Act) (w : World), C w → wpQuiet P ops C (fun a' => ∀ w', C w' → Q .normal a' w') l a → wpList P ops Q l a w
  | [], a, w, hC, h => h w hC
  | o :: l, a, w, hC, h => by
    unfold wpQuiet at h
    unfold wpList
    split
    · rename_i hw
      rw [if_pos hw] at h
      exact .inl (Oper.wp_of_quiet hC (fun a' w' hC' h' => wpList_of_quiet l a' w' hC' h') h)
    · rename_i hw
      rw [if_neg hw] at h
      exact wpList_of_quiet l _ w hC h
/-- A region that keeps the text's order, in a class of worlds. -/
theorem wp_region_still {id : Nat} {Q : Exit → Act → World → Prop} {a : Act} {w : World} {l : List Oper} (C : World → Prop) (hC : C w)
    (h : wpQuiet P l.toArray C (fun a' => ∀ w', C w' → Q .normal a' w') l a) : (Code.region id l.toArray false).wp P Q a w :=
  wp_region_list (wpList_of_quiet _ a w hC h)
theorem bodyPost_tmp {fn : Func} {R : Ending → World → Prop} {a : Act} {w : World} (t : Tmp) (v : Value) (h : fn.results = #[.tmp t]) (hr : a.tmps.getD t undef = v) (hd : a.defers = []) (hR : R (.returned v) w) : bodyPost P fn R .ret a w :=
  bodyPost_ret (by rw [results_tmp h, hr]) hd hR
/-- The class of worlds in which nothing that was there has turned. -/
theorem below_call {v0 : World} {f : FuncId} {vs : Array Value} {r : Value} (h : ∀ v, Calls P f vs v fun e v' => e = .returned r ∧ Below v.heap.size v v') : ∀ w, Below v0.heap.size v0 w → Calls P f vs w fun e w' => e = .returned r ∧ Below v0.heap.size v0 w' := fun w hw =>
  (h w).mono (by rintro e w' ⟨he, hb⟩; exact ⟨he, hw.trans (hb.mono hw.size)⟩)
theorem below_blk {v0 w : World} {b : Nat} {x : Obj} (h0 : v0.heap[b]? = some x) (h : Below v0.heap.size v0 w) : w.heap[b]? = some x := (h.block _ (lt_of_some h0)).trans h0
end Go.Proofs.YtfilolmbppjbjaaGreat

namespace Go.Proofs.YtfilolmbppjbjaaGreat
open Go Go.RowKit

def partsOf (e : Ev) : List Pt :=
  if e.kind = 0 ∨ e.kind = 4 ∨ e.kind = 5 then [.kind e.kind, aboutP e, .label e.name]
  else if e.kind = 1 then [.kind e.kind, aboutP e, .added e.len]
  else if e.kind = 2 then [.kind e.kind, aboutP e, .moment e.time, .length e.len, .sum e.sum]
  else if e.kind = 3 then [.kind e.kind, aboutP e, .moment e.time]
  else [.kind e.kind, aboutP e]
/-- The parts as they lie. -/
def pts (l : List Pt) : Array Value := (l.map Pt.enc).toArray

section
variable {P : Program} {ops : Array Oper} {C : World → Prop} {Q : Act → Prop} {a : Act} {o : Oper} {rest : List Oper}
theorem wpQuiet_mkI (hw : Region.wanted o (yielded ops a.tmps) = true) (t : TypeId) (x : Operand) (ho : o.op = .makeInterface t x) (v : Value) (hx : a.eval x = v) (ht : P.concrete t = true)
    (h : wpQuiet P ops C Q rest (a.put o.dst (.iface t v))) : wpQuiet P ops C Q (o :: rest) a :=
  wpQuiet_val hw _ (fun w _ => by unfold execOp; simp only [ho, hx]; simp [go_sem, run_makeInterface w t v ht]) h
end
section
variable {ops : Array Oper} {C : World → Prop} {Q : Act → Prop} {a : Act} {o : Oper} {rest : List Oper}
theorem field41 (z k q : Nat) (h : (k, q) = (0, 0) ∨ (k, q) = (1, 1) ∨ (k, q) = (2, 2) ∨ (k, q) = (3, 3) ∨ (k, q) = (4, 4) ∨ (k, q) = (5, 5)) (v : World) :
    (Instr.fieldAt 34 (.pointer (some ⟨z, 0, none⟩)) k).run Tryz.prog v = .ok (.pointer (some ⟨z, q, none⟩)) v := by
  rcases h with h | h | h | h | h | h <;> cases h <;> (unfold Instr.fieldAt; simp [go_sem, run_underlying Tryz.underlying34])
theorem wpQuiet_field (hw : Region.wanted o (yielded ops a.tmps) = true) (k : Nat) (x : Operand) (ho : o.op = .fieldAddr 34 x k) (z : Nat) (hx : a.eval x = .pointer (some ⟨z, 0, none⟩)) (hk : k < 6)
    (h : wpQuiet Tryz.prog ops C Q rest (a.put o.dst (.pointer (some ⟨z, k, none⟩)))) : wpQuiet Tryz.prog ops C Q (o :: rest) a :=
  wpQuiet_val hw _ (fun w _ => by unfold execOp; simp only [ho, hx]; exact run_val (field41 z k k (by simp; omega) w)) h
theorem wpQuiet_cell (hw : Region.wanted o (yielded ops a.tmps) = true) (t : TypeId) (x : Operand) (ho : o.op = .load t x) (z k : Nat) (hx : a.eval x = .pointer (some ⟨z, k, none⟩)) (ha : ∀ w, (isAgg t).run Tryz.prog w = .ok false w) (v : Value)
    (hc : ∀ w, C w → w.cell? ⟨z, k, none⟩ = some v) (h : wpQuiet Tryz.prog ops C Q rest (a.put o.dst v)) : wpQuiet Tryz.prog ops C Q (o :: rest) a :=
  wpQuiet_val hw v (fun w hC => by unfold execOp; simp only [ho, hx]; exact run_val (loadCell t z k w v ha (hc w hC))) h
theorem wpQuiet_mid (hw : Region.wanted o (yielded ops a.tmps) = true) (t : TypeId) (x : Operand) (ho : o.op = .load t x) (z k : Nat) (hx : a.eval x = .pointer (some ⟨z, k, none⟩)) (v : Value)
    (hc : ∀ w, C w → (Instr.loadAt t (.pointer (some ⟨z, k, none⟩))).run Tryz.prog w = .ok v w) (h : wpQuiet Tryz.prog ops C Q rest (a.put o.dst v)) : wpQuiet Tryz.prog ops C Q (o :: rest) a :=
  wpQuiet_val hw v (fun w hC => by unfold execOp; simp only [ho, hx]; exact run_val (hc w hC)) h
end
theorem info41 : (Tryz.prog.info? 34).map (·.size) = some 37 := by kernel_rfl
theorem ent61 : ∀ args w, (callFunc 61 args).run Tryz.prog w = .ok (.enter 61 args) w := enters_of Tryz.func61 (by kernel_rfl) rfl
theorem load_sum (e : Ev) (hs : e.sum.length = 32) (v : World) (g : Nat) (t : TypeId) (h : v.heap[g]? = some (.cells (evr e) t)) : (Instr.loadAt 23 (.pointer (some ⟨g, 5, none⟩))).run Tryz.prog v = .ok (.agg (row e.sum)) v := by
  have := run_loadAt_mid (P := Tryz.prog) v g 5 23 (row e.sum).toList _ (fun j x hx => by
    rw [cell_of_row v g (5 + j) _ _ _ h]
    unfold evr
    rw [Array.getElem?_append_right (by simp), ← Array.getElem?_toList] at *
    simpa using hx) Tryz.underlying23 rfl (by rw [Array.length_toList, row_size, hs]; exact info28)
  simpa using this
theorem about_iface (e : Ev) : ∃ t v, (aboutP e).enc = .iface t v := by
  unfold aboutP; split <;> exact ⟨_, _, rfl⟩
structure PW (w : World) (b : Nat) (c : Array Value) (v : World) : Prop where
  ev : v.heap[b]? = some (.cells c 34)
  bel : Below w.heap.size w v
theorem PW.cell {w : World} {b : Nat} {c : Array Value} {v : World} (h : PW w b c v) {j : Nat} {x : Value} (hx : c[j]? = some x) : v.cell? ⟨b, j, none⟩ = some x := (cell_of_row v b j _ _ _ h.ev).trans hx
theorem PW.step {w : World} {b : Nat} {c : Array Value} {v v' : World} (h : PW w b c v) (hB : Below v.heap.size v v') : PW w b c v' :=
  ⟨(hB.block b (lt_of_some h.ev)).trans h.ev, h.bel.trans (hB.mono h.bel.size)⟩
theorem about_in {w : World} {b : Nat} {e : Ev} : ∀ v, PW w b (evr e) v → Calls Tryz.prog 61 #[.agg (evr e)] v fun r v' => r = .returned (aboutP e).enc ∧ PW w b (evr e) v' :=
  fun v h => (about_any e v).mono fun _ _ k => ⟨k.1, h.step k.2⟩

set_option maxRecDepth 100000 in
set_option maxHeartbeats 400000 in
theorem parts_create (e : Ev) (hs : e.sum.length = 32) (hk : e.kind = 0) (w : World) :
    Calls Tryz.prog 38 #[.agg (evr e)] w fun r w' => ∃ g, r = .returned (.slice (some ⟨g, 0, none⟩) 3 3) ∧ w.heap.size ≤ g ∧ w'.heap[g]? = some (.cells (pts [.kind e.kind, aboutP e, .label e.name]) 72) ∧ Below w.heap.size w w' := by
  have h0 := cell_new w _ 34 0 _ (evr0 e)
  have hd0 : (e.kind == 0) = true := by simpa using hk
  have hW : Hid (PW w w.heap.size (evr e) (w.alloc (.cells (evr e) 34)).drew) := Lib.hid ⟨by show (w.alloc (.cells (evr e) 34)).heap[w.heap.size]? = _; rw [heap_alloc_if, if_pos rfl], ((Below.refl _ _).alloc (Nat.le_refl _) _).drew⟩
  have hi : Hid ((Tryz.prog.info? 34).map (·.size) = some (evr e).size) := Lib.hid (by rw [evr_size, hs]; exact info41)
  have e2 := Lib.hid (evr2 e)
  have e3 := Lib.hid (evr3 e)
  have e4 := Lib.hid (evr4 e)
  have ls := Lib.hid (load_sum e hs)
  have ab := @about_in w w.heap.size e
  obtain ⟨ti, tv, hI⟩ := about_iface e
  have hP : Hid (pts [.kind e.kind, aboutP e, .label e.name] = #[.iface 98 (.int .i64 e.kind), .iface ti tv, .iface 100 (.string ⟨e.name.toArray⟩)]) := Lib.hid (by unfold pts; simp only [List.map_cons, List.map_nil, hI]; rfl)
  rw [hI] at ab
  rw [hP.out]
  clear hI hP hk
  generalize evr e = c at *
  go_enter Tryz.func38, Tryz.ntmps38
  go_wp2_with (refine park_region (fun Pk hX => ?_))
  refine hX.out ?_
  refine wp_region_class_tail 7 (PW w w.heap.size c) (by kernel_rfl) (by kernel_rfl) hW.out ?_
  simp only [List.take_succ_cons, List.take_zero, List.drop_succ_cons, List.drop_zero]
  refine wpQuiet_move (by rfl) _ (.inl rfl) (.int .i64 e.kind) rfl ?_
  refine wpQuiet_mkI (by rfl) 98 _ rfl (.int .i64 e.kind) rfl (by kernel_rfl) ?_
  refine wpQuiet_load (by rfl) 34 (.tmp 1) rfl _ rfl 34 c _ (fun _ h => h.ev) Tryz.underlying34 rfl hi.out ?_
  refine wpQuiet_call1 (by rfl) 61 (.tmp 14) _ rfl ent61 (.agg c) rfl _ ab ?_
  simp only [Act.put, List.setIfInBounds_toArray, List.set_cons_zero, List.set_cons_succ]
  refine wpQuiet_field (by rfl) 2 _ rfl w.heap.size rfl (by decide) ?_
  refine wpQuiet_cell (by rfl) 9 _ rfl w.heap.size 2 rfl Tryz.isAgg9 (.string ⟨e.name.toArray⟩) (fun _ h => h.cell e2.out) ?_
  refine wpQuiet_mkI (by rfl) 100 _ rfl (.string ⟨e.name.toArray⟩) rfl (by kernel_rfl) ?_
  simp only [Act.put, List.setIfInBounds_toArray, List.set_cons_zero, List.set_cons_succ]
  refine wpQuiet_nil ?_
  intro u hu
  go_wp2_with fail
  go_ret
  exact ⟨_, rfl, hu.bel.size, by rw [heap_alloc_if, if_pos rfl], hu.bel.alloc hu.bel.size _⟩
set_option maxRecDepth 100000 in
set_option maxHeartbeats 400000 in
theorem parts_hold (e : Ev) (hs : e.sum.length = 32) (hk : e.kind = 4) (w : World) :
    Calls Tryz.prog 38 #[.agg (evr e)] w fun r w' => ∃ g, r = .returned (.slice (some ⟨g, 0, none⟩) 3 3) ∧ w.heap.size ≤ g ∧ w'.heap[g]? = some (.cells (pts [.kind e.kind, aboutP e, .label e.name]) 72) ∧ Below w.heap.size w w' := by
  have h0 := cell_new w _ 34 0 _ (evr0 e)
  have hd0 : (e.kind == 0) = false := by rw [hk]; rfl
  have hd1 : (e.kind == 4) = true := by simpa using hk
  have hW : Hid (PW w w.heap.size (evr e) (w.alloc (.cells (evr e) 34)).drew) := Lib.hid ⟨by show (w.alloc (.cells (evr e) 34)).heap[w.heap.size]? = _; rw [heap_alloc_if, if_pos rfl], ((Below.refl _ _).alloc (Nat.le_refl _) _).drew⟩
  have hi : Hid ((Tryz.prog.info? 34).map (·.size) = some (evr e).size) := Lib.hid (by rw [evr_size, hs]; exact info41)
  have e2 := Lib.hid (evr2 e)
  have e3 := Lib.hid (evr3 e)
  have e4 := Lib.hid (evr4 e)
  have ls := Lib.hid (load_sum e hs)
  have ab := @about_in w w.heap.size e
  obtain ⟨ti, tv, hI⟩ := about_iface e
  have hP : Hid (pts [.kind e.kind, aboutP e, .label e.name] = #[.iface 98 (.int .i64 e.kind), .iface ti tv, .iface 100 (.string ⟨e.name.toArray⟩)]) := Lib.hid (by unfold pts; simp only [List.map_cons, List.map_nil, hI]; rfl)
  rw [hI] at ab
  rw [hP.out]
  clear hI hP hk
  generalize evr e = c at *
  go_enter Tryz.func38, Tryz.ntmps38
  go_wp2_with (refine park_region (fun Pk hX => ?_))
  refine hX.out ?_
  refine wp_region_class_tail 7 (PW w w.heap.size c) (by kernel_rfl) (by kernel_rfl) hW.out ?_
  simp only [List.take_succ_cons, List.take_zero, List.drop_succ_cons, List.drop_zero]
  refine wpQuiet_move (by rfl) _ (.inl rfl) (.int .i64 e.kind) rfl ?_
  refine wpQuiet_mkI (by rfl) 98 _ rfl (.int .i64 e.kind) rfl (by kernel_rfl) ?_
  refine wpQuiet_load (by rfl) 34 (.tmp 1) rfl _ rfl 34 c _ (fun _ h => h.ev) Tryz.underlying34 rfl hi.out ?_
  refine wpQuiet_call1 (by rfl) 61 (.tmp 14) _ rfl ent61 (.agg c) rfl _ ab ?_
  simp only [Act.put, List.setIfInBounds_toArray, List.set_cons_zero, List.set_cons_succ]
  refine wpQuiet_field (by rfl) 2 _ rfl w.heap.size rfl (by decide) ?_
  refine wpQuiet_cell (by rfl) 9 _ rfl w.heap.size 2 rfl Tryz.isAgg9 (.string ⟨e.name.toArray⟩) (fun _ h => h.cell e2.out) ?_
  refine wpQuiet_mkI (by rfl) 100 _ rfl (.string ⟨e.name.toArray⟩) rfl (by kernel_rfl) ?_
  simp only [Act.put, List.setIfInBounds_toArray, List.set_cons_zero, List.set_cons_succ]
  refine wpQuiet_nil ?_
  intro u hu
  go_wp2_with fail
  go_ret
  exact ⟨_, rfl, hu.bel.size, by rw [heap_alloc_if, if_pos rfl], hu.bel.alloc hu.bel.size _⟩
set_option maxRecDepth 100000 in
set_option maxHeartbeats 400000 in
theorem parts_release (e : Ev) (hs : e.sum.length = 32) (hk : e.kind = 5) (w : World) :
    Calls Tryz.prog 38 #[.agg (evr e)] w fun r w' => ∃ g, r = .returned (.slice (some ⟨g, 0, none⟩) 3 3) ∧ w.heap.size ≤ g ∧ w'.heap[g]? = some (.cells (pts [.kind e.kind, aboutP e, .label e.name]) 72) ∧ Below w.heap.size w w' := by
  have h0 := cell_new w _ 34 0 _ (evr0 e)
  have hd0 : (e.kind == 0) = false := by rw [hk]; rfl
  have hd1 : (e.kind == 4) = false := by rw [hk]; rfl
  have hd2 : (e.kind == 5) = true := by simpa using hk
  have hW : Hid (PW w w.heap.size (evr e) (w.alloc (.cells (evr e) 34)).drew) := Lib.hid ⟨by show (w.alloc (.cells (evr e) 34)).heap[w.heap.size]? = _; rw [heap_alloc_if, if_pos rfl], ((Below.refl _ _).alloc (Nat.le_refl _) _).drew⟩
  have hi : Hid ((Tryz.prog.info? 34).map (·.size) = some (evr e).size) := Lib.hid (by rw [evr_size, hs]; exact info41)
  have e2 := Lib.hid (evr2 e)
  have e3 := Lib.hid (evr3 e)
  have e4 := Lib.hid (evr4 e)
  have ls := Lib.hid (load_sum e hs)
  have ab := @about_in w w.heap.size e
  obtain ⟨ti, tv, hI⟩ := about_iface e
  have hP : Hid (pts [.kind e.kind, aboutP e, .label e.name] = #[.iface 98 (.int .i64 e.kind), .iface ti tv, .iface 100 (.string ⟨e.name.toArray⟩)]) := Lib.hid (by unfold pts; simp only [List.map_cons, List.map_nil, hI]; rfl)
  rw [hI] at ab
  rw [hP.out]
  clear hI hP hk
  generalize evr e = c at *
  go_enter Tryz.func38, Tryz.ntmps38
  go_wp2_with (refine park_region (fun Pk hX => ?_))
  refine hX.out ?_
  refine wp_region_class_tail 7 (PW w w.heap.size c) (by kernel_rfl) (by kernel_rfl) hW.out ?_
  simp only [List.take_succ_cons, List.take_zero, List.drop_succ_cons, List.drop_zero]
  refine wpQuiet_move (by rfl) _ (.inl rfl) (.int .i64 e.kind) rfl ?_
  refine wpQuiet_mkI (by rfl) 98 _ rfl (.int .i64 e.kind) rfl (by kernel_rfl) ?_
  refine wpQuiet_load (by rfl) 34 (.tmp 1) rfl _ rfl 34 c _ (fun _ h => h.ev) Tryz.underlying34 rfl hi.out ?_
  refine wpQuiet_call1 (by rfl) 61 (.tmp 14) _ rfl ent61 (.agg c) rfl _ ab ?_
  simp only [Act.put, List.setIfInBounds_toArray, List.set_cons_zero, List.set_cons_succ]
  refine wpQuiet_field (by rfl) 2 _ rfl w.heap.size rfl (by decide) ?_
  refine wpQuiet_cell (by rfl) 9 _ rfl w.heap.size 2 rfl Tryz.isAgg9 (.string ⟨e.name.toArray⟩) (fun _ h => h.cell e2.out) ?_
  refine wpQuiet_mkI (by rfl) 100 _ rfl (.string ⟨e.name.toArray⟩) rfl (by kernel_rfl) ?_
  simp only [Act.put, List.setIfInBounds_toArray, List.set_cons_zero, List.set_cons_succ]
  refine wpQuiet_nil ?_
  intro u hu
  go_wp2_with fail
  go_ret
  exact ⟨_, rfl, hu.bel.size, by rw [heap_alloc_if, if_pos rfl], hu.bel.alloc hu.bel.size _⟩
set_option maxRecDepth 100000 in
set_option maxHeartbeats 400000 in
theorem parts_append (e : Ev) (hs : e.sum.length = 32) (hk : e.kind = 1) (w : World) :
    Calls Tryz.prog 38 #[.agg (evr e)] w fun r w' => ∃ g, r = .returned (.slice (some ⟨g, 0, none⟩) 3 3) ∧ w.heap.size ≤ g ∧ w'.heap[g]? = some (.cells (pts [.kind e.kind, aboutP e, .added e.len]) 72) ∧ Below w.heap.size w w' := by
  have h0 := cell_new w _ 34 0 _ (evr0 e)
  have hd0 : (e.kind == 0) = false := by rw [hk]; rfl
  have hd1 : (e.kind == 4) = false := by rw [hk]; rfl
  have hd2 : (e.kind == 5) = false := by rw [hk]; rfl
  have hd3 : (e.kind == 1) = true := by simpa using hk
  have hW : Hid (PW w w.heap.size (evr e) (w.alloc (.cells (evr e) 34)).drew) := Lib.hid ⟨by show (w.alloc (.cells (evr e) 34)).heap[w.heap.size]? = _; rw [heap_alloc_if, if_pos rfl], ((Below.refl _ _).alloc (Nat.le_refl _) _).drew⟩
  have hi : Hid ((Tryz.prog.info? 34).map (·.size) = some (evr e).size) := Lib.hid (by rw [evr_size, hs]; exact info41)
  have e2 := Lib.hid (evr2 e)
  have e3 := Lib.hid (evr3 e)
  have e4 := Lib.hid (evr4 e)
  have ls := Lib.hid (load_sum e hs)
  have ab := @about_in w w.heap.size e
  obtain ⟨ti, tv, hI⟩ := about_iface e
  have hP : Hid (pts [.kind e.kind, aboutP e, .added e.len] = #[.iface 98 (.int .i64 e.kind), .iface ti tv, .iface 101 (.int .i64 e.len)]) := Lib.hid (by unfold pts; simp only [List.map_cons, List.map_nil, hI]; rfl)
  rw [hI] at ab
  rw [hP.out]
  clear hI hP hk
  generalize evr e = c at *
  go_enter Tryz.func38, Tryz.ntmps38
  go_wp2_with (refine park_region (fun Pk hX => ?_))
  refine hX.out ?_
  refine wp_region_class_tail 7 (PW w w.heap.size c) (by kernel_rfl) (by kernel_rfl) hW.out ?_
  simp only [List.take_succ_cons, List.take_zero, List.drop_succ_cons, List.drop_zero]
  refine wpQuiet_move (by rfl) _ (.inl rfl) (.int .i64 e.kind) rfl ?_
  refine wpQuiet_mkI (by rfl) 98 _ rfl (.int .i64 e.kind) rfl (by kernel_rfl) ?_
  refine wpQuiet_load (by rfl) 34 (.tmp 1) rfl _ rfl 34 c _ (fun _ h => h.ev) Tryz.underlying34 rfl hi.out ?_
  refine wpQuiet_call1 (by rfl) 61 (.tmp 24) _ rfl ent61 (.agg c) rfl _ ab ?_
  simp only [Act.put, List.setIfInBounds_toArray, List.set_cons_zero, List.set_cons_succ]
  refine wpQuiet_field (by rfl) 4 _ rfl w.heap.size rfl (by decide) ?_
  refine wpQuiet_cell (by rfl) 3 _ rfl w.heap.size 4 rfl Tryz.isAgg3 (.int .i64 e.len) (fun _ h => h.cell e4.out) ?_
  refine wpQuiet_mkI (by rfl) 101 _ rfl (.int .i64 e.len) rfl (by kernel_rfl) ?_
  simp only [Act.put, List.setIfInBounds_toArray, List.set_cons_zero, List.set_cons_succ]
  refine wpQuiet_nil ?_
  intro u hu
  go_wp2_with fail
  go_ret
  exact ⟨_, rfl, hu.bel.size, by rw [heap_alloc_if, if_pos rfl], hu.bel.alloc hu.bel.size _⟩
set_option maxRecDepth 100000 in
set_option maxHeartbeats 400000 in
theorem parts_seal (e : Ev) (hs : e.sum.length = 32) (hk : e.kind = 2) (w : World) :
    Calls Tryz.prog 38 #[.agg (evr e)] w fun r w' => ∃ g, r = .returned (.slice (some ⟨g, 0, none⟩) 5 5) ∧ w.heap.size ≤ g ∧ w'.heap[g]? = some (.cells (pts [.kind e.kind, aboutP e, .moment e.time, .length e.len, .sum e.sum]) 72) ∧ Below w.heap.size w w' := by
  have h0 := cell_new w _ 34 0 _ (evr0 e)
  have hd0 : (e.kind == 0) = false := by rw [hk]; rfl
  have hd1 : (e.kind == 4) = false := by rw [hk]; rfl
  have hd2 : (e.kind == 5) = false := by rw [hk]; rfl
  have hd3 : (e.kind == 1) = false := by rw [hk]; rfl
  have hd4 : (e.kind == 2) = true := by simpa using hk
  have hW : Hid (PW w w.heap.size (evr e) (w.alloc (.cells (evr e) 34)).drew) := Lib.hid ⟨by show (w.alloc (.cells (evr e) 34)).heap[w.heap.size]? = _; rw [heap_alloc_if, if_pos rfl], ((Below.refl _ _).alloc (Nat.le_refl _) _).drew⟩
  have hi : Hid ((Tryz.prog.info? 34).map (·.size) = some (evr e).size) := Lib.hid (by rw [evr_size, hs]; exact info41)
  have e2 := Lib.hid (evr2 e)
  have e3 := Lib.hid (evr3 e)
  have e4 := Lib.hid (evr4 e)
  have ls := Lib.hid (load_sum e hs)
  have ab := @about_in w w.heap.size e
  obtain ⟨ti, tv, hI⟩ := about_iface e
  have hP : Hid (pts [.kind e.kind, aboutP e, .moment e.time, .length e.len, .sum e.sum] = #[.iface 98 (.int .i64 e.kind), .iface ti tv, .iface 102 (.int .i64 e.time), .iface 103 (.int .i64 e.len), .iface 104 (.agg (row e.sum))]) := Lib.hid (by unfold pts; simp only [List.map_cons, List.map_nil, hI]; rfl)
  rw [hI] at ab
  rw [hP.out]
  clear hI hP hk
  generalize evr e = c at *
  go_enter Tryz.func38, Tryz.ntmps38
  go_wp2_with (refine park_region (fun Pk hX => ?_))
  refine hX.out ?_
  refine wp_region_class_tail 13 (PW w w.heap.size c) (by kernel_rfl) (by kernel_rfl) hW.out ?_
  simp only [List.take_succ_cons, List.take_zero, List.drop_succ_cons, List.drop_zero]
  refine wpQuiet_move (by rfl) _ (.inl rfl) (.int .i64 e.kind) rfl ?_
  refine wpQuiet_mkI (by rfl) 98 _ rfl (.int .i64 e.kind) rfl (by kernel_rfl) ?_
  refine wpQuiet_load (by rfl) 34 (.tmp 1) rfl _ rfl 34 c _ (fun _ h => h.ev) Tryz.underlying34 rfl hi.out ?_
  refine wpQuiet_call1 (by rfl) 61 (.tmp 34) _ rfl ent61 (.agg c) rfl _ ab ?_
  simp only [Act.put, List.setIfInBounds_toArray, List.set_cons_zero, List.set_cons_succ]
  refine wpQuiet_field (by rfl) 3 _ rfl w.heap.size rfl (by decide) ?_
  refine wpQuiet_cell (by rfl) 3 _ rfl w.heap.size 3 rfl Tryz.isAgg3 (.int .i64 e.time) (fun _ h => h.cell e3.out) ?_
  refine wpQuiet_mkI (by rfl) 102 _ rfl (.int .i64 e.time) rfl (by kernel_rfl) ?_
  simp only [Act.put, List.setIfInBounds_toArray, List.set_cons_zero, List.set_cons_succ]
  refine wpQuiet_field (by rfl) 4 _ rfl w.heap.size rfl (by decide) ?_
  refine wpQuiet_cell (by rfl) 3 _ rfl w.heap.size 4 rfl Tryz.isAgg3 (.int .i64 e.len) (fun _ h => h.cell e4.out) ?_
  refine wpQuiet_mkI (by rfl) 103 _ rfl (.int .i64 e.len) rfl (by kernel_rfl) ?_
  simp only [Act.put, List.setIfInBounds_toArray, List.set_cons_zero, List.set_cons_succ]
  refine wpQuiet_field (by rfl) 5 _ rfl w.heap.size rfl (by decide) ?_
  refine wpQuiet_mid (by rfl) 23 _ rfl w.heap.size 5 rfl (.agg (row e.sum)) (fun v h => ls.out v w.heap.size 34 h.ev) ?_
  refine wpQuiet_mkI (by rfl) 104 _ rfl (.agg (row e.sum)) rfl (by kernel_rfl) ?_
  simp only [Act.put, List.setIfInBounds_toArray, List.set_cons_zero, List.set_cons_succ]
  refine wpQuiet_nil ?_
  intro u hu
  go_wp2_with fail
  go_ret
  exact ⟨_, rfl, hu.bel.size, by rw [heap_alloc_if, if_pos rfl], hu.bel.alloc hu.bel.size _⟩
set_option maxRecDepth 100000 in
set_option maxHeartbeats 400000 in
theorem parts_extend (e : Ev) (hs : e.sum.length = 32) (hk : e.kind = 3) (w : World) :
    Calls Tryz.prog 38 #[.agg (evr e)] w fun r w' => ∃ g, r = .returned (.slice (some ⟨g, 0, none⟩) 3 3) ∧ w.heap.size ≤ g ∧ w'.heap[g]? = some (.cells (pts [.kind e.kind, aboutP e, .moment e.time]) 72) ∧ Below w.heap.size w w' := by
  have h0 := cell_new w _ 34 0 _ (evr0 e)
  have hd0 : (e.kind == 0) = false := by rw [hk]; rfl
  have hd1 : (e.kind == 4) = false := by rw [hk]; rfl
  have hd2 : (e.kind == 5) = false := by rw [hk]; rfl
  have hd3 : (e.kind == 1) = false := by rw [hk]; rfl
  have hd4 : (e.kind == 2) = false := by rw [hk]; rfl
  have hd5 : (e.kind == 3) = true := by simpa using hk
  have hW : Hid (PW w w.heap.size (evr e) (w.alloc (.cells (evr e) 34)).drew) := Lib.hid ⟨by show (w.alloc (.cells (evr e) 34)).heap[w.heap.size]? = _; rw [heap_alloc_if, if_pos rfl], ((Below.refl _ _).alloc (Nat.le_refl _) _).drew⟩
  have hi : Hid ((Tryz.prog.info? 34).map (·.size) = some (evr e).size) := Lib.hid (by rw [evr_size, hs]; exact info41)
  have e2 := Lib.hid (evr2 e)
  have e3 := Lib.hid (evr3 e)
  have e4 := Lib.hid (evr4 e)
  have ls := Lib.hid (load_sum e hs)
  have ab := @about_in w w.heap.size e
  obtain ⟨ti, tv, hI⟩ := about_iface e
  have hP : Hid (pts [.kind e.kind, aboutP e, .moment e.time] = #[.iface 98 (.int .i64 e.kind), .iface ti tv, .iface 102 (.int .i64 e.time)]) := Lib.hid (by unfold pts; simp only [List.map_cons, List.map_nil, hI]; rfl)
  rw [hI] at ab
  rw [hP.out]
  clear hI hP hk
  generalize evr e = c at *
  go_enter Tryz.func38, Tryz.ntmps38
  go_wp2_with (refine park_region (fun Pk hX => ?_))
  refine hX.out ?_
  refine wp_region_class_tail 7 (PW w w.heap.size c) (by kernel_rfl) (by kernel_rfl) hW.out ?_
  simp only [List.take_succ_cons, List.take_zero, List.drop_succ_cons, List.drop_zero]
  refine wpQuiet_move (by rfl) _ (.inl rfl) (.int .i64 e.kind) rfl ?_
  refine wpQuiet_mkI (by rfl) 98 _ rfl (.int .i64 e.kind) rfl (by kernel_rfl) ?_
  refine wpQuiet_load (by rfl) 34 (.tmp 1) rfl _ rfl 34 c _ (fun _ h => h.ev) Tryz.underlying34 rfl hi.out ?_
  refine wpQuiet_call1 (by rfl) 61 (.tmp 50) _ rfl ent61 (.agg c) rfl _ ab ?_
  simp only [Act.put, List.setIfInBounds_toArray, List.set_cons_zero, List.set_cons_succ]
  refine wpQuiet_field (by rfl) 3 _ rfl w.heap.size rfl (by decide) ?_
  refine wpQuiet_cell (by rfl) 3 _ rfl w.heap.size 3 rfl Tryz.isAgg3 (.int .i64 e.time) (fun _ h => h.cell e3.out) ?_
  refine wpQuiet_mkI (by rfl) 102 _ rfl (.int .i64 e.time) rfl (by kernel_rfl) ?_
  simp only [Act.put, List.setIfInBounds_toArray, List.set_cons_zero, List.set_cons_succ]
  refine wpQuiet_nil ?_
  intro u hu
  go_wp2_with fail
  go_ret
  exact ⟨_, rfl, hu.bel.size, by rw [heap_alloc_if, if_pos rfl], hu.bel.alloc hu.bel.size _⟩
set_option maxRecDepth 100000 in
set_option maxHeartbeats 400000 in
theorem parts_other (e : Ev) (hs : e.sum.length = 32) (hk : e.kind ≠ 0 ∧ e.kind ≠ 1 ∧ e.kind ≠ 2 ∧ e.kind ≠ 3 ∧ e.kind ≠ 4 ∧ e.kind ≠ 5) (w : World) :
    Calls Tryz.prog 38 #[.agg (evr e)] w fun r w' => ∃ g, r = .returned (.slice (some ⟨g, 0, none⟩) 2 2) ∧ w.heap.size ≤ g ∧ w'.heap[g]? = some (.cells (pts [.kind e.kind, aboutP e]) 72) ∧ Below w.heap.size w w' := by
  have h0 := cell_new w _ 34 0 _ (evr0 e)
  have hd0 : (e.kind == 0) = false := by simp; omega
  have hd1 : (e.kind == 4) = false := by simp; omega
  have hd2 : (e.kind == 5) = false := by simp; omega
  have hd3 : (e.kind == 1) = false := by simp; omega
  have hd4 : (e.kind == 2) = false := by simp; omega
  have hd5 : (e.kind == 3) = false := by simp; omega
  have hW : Hid (PW w w.heap.size (evr e) (w.alloc (.cells (evr e) 34))) := Lib.hid ⟨by show (w.alloc (.cells (evr e) 34)).heap[w.heap.size]? = _; rw [heap_alloc_if, if_pos rfl], ((Below.refl _ _).alloc (Nat.le_refl _) _)⟩
  have hi : Hid ((Tryz.prog.info? 34).map (·.size) = some (evr e).size) := Lib.hid (by rw [evr_size, hs]; exact info41)
  have e2 := Lib.hid (evr2 e)
  have e3 := Lib.hid (evr3 e)
  have e4 := Lib.hid (evr4 e)
  have ls := Lib.hid (load_sum e hs)
  have ab := @about_in w w.heap.size e
  obtain ⟨ti, tv, hI⟩ := about_iface e
  have hP : Hid (pts [.kind e.kind, aboutP e] = #[.iface 98 (.int .i64 e.kind), .iface ti tv]) := Lib.hid (by unfold pts; simp only [List.map_cons, List.map_nil, hI]; rfl)
  rw [hI] at ab
  rw [hP.out]
  clear hI hP hk
  generalize evr e = c at *
  go_enter Tryz.func38, Tryz.ntmps38
  go_wp2_with (with_reducible refine wpList_load_row rfl 34 (.tmp 1) rfl _ rfl 34 c _ hW.out.ev Tryz.underlying34 rfl hi.out ?_)
  refine (ab _ hW.out).mono ?_
  rintro r u ⟨rfl, hu⟩
  go_wp2_with fail
  go_ret
  exact ⟨_, rfl, hu.bel.size, by rw [heap_alloc_if, if_pos rfl], hu.bel.alloc hu.bel.size _⟩
theorem parts_any (e : Ev) (hs : e.sum.length = 32) (w : World) :
    Calls Tryz.prog 38 #[.agg (evr e)] w fun r w' => ∃ g, r = .returned (.slice (some ⟨g, 0, none⟩) (partsOf e).length (partsOf e).length) ∧ w.heap.size ≤ g ∧ w'.heap[g]? = some (.cells (pts (partsOf e)) 72) ∧ Below w.heap.size w w' := by
  by_cases h0 : e.kind = 0
  · have : partsOf e = [.kind e.kind, aboutP e, .label e.name] := by unfold partsOf; rw [if_pos (.inl h0)]
    rw [this]; exact parts_create e hs h0 w
  by_cases h4 : e.kind = 4
  · have : partsOf e = [.kind e.kind, aboutP e, .label e.name] := by unfold partsOf; rw [if_pos (.inr (.inl h4))]
    rw [this]; exact parts_hold e hs h4 w
  by_cases h5 : e.kind = 5
  · have : partsOf e = [.kind e.kind, aboutP e, .label e.name] := by unfold partsOf; rw [if_pos (.inr (.inr h5))]
    rw [this]; exact parts_release e hs h5 w
  have hn : ¬ (e.kind = 0 ∨ e.kind = 4 ∨ e.kind = 5) := by omega
  by_cases h1 : e.kind = 1
  · have : partsOf e = [.kind e.kind, aboutP e, .added e.len] := by unfold partsOf; rw [if_neg hn, if_pos h1]
    rw [this]; exact parts_append e hs h1 w
  by_cases h2 : e.kind = 2
  · have : partsOf e = [.kind e.kind, aboutP e, .moment e.time, .length e.len, .sum e.sum] := by unfold partsOf; rw [if_neg hn, if_neg h1, if_pos h2]
    rw [this]; exact parts_seal e hs h2 w
  by_cases h3 : e.kind = 3
  · have : partsOf e = [.kind e.kind, aboutP e, .moment e.time] := by unfold partsOf; rw [if_neg hn, if_neg h1, if_neg h2, if_pos h3]
    rw [this]; exact parts_extend e hs h3 w
  · have : partsOf e = [.kind e.kind, aboutP e] := by unfold partsOf; rw [if_neg hn, if_neg h1, if_neg h2, if_neg h3]
    rw [this]; exact parts_other e hs ⟨h0, h1, h2, h3, h4, h5⟩ w
end Go.Proofs.YtfilolmbppjbjaaGreat

namespace Go.Proofs.YtfilolmbppjbjaaGreat
open Go Go.RowKit

def zeroE : Ev := ⟨0, 0, [], 0, 0, zs⟩
def jOne (e : Ev) : Pt → Ev
  | .kind n => { e with kind := n }
  | .id n => { e with id := n }
  | .label l => { e with name := l }
  | .moment n => { e with time := n }
  | .added n => { e with len := n }
  | .length n => { e with len := n }
  | .sum d => { e with sum := d }
def jn (l : List Pt) : Ev := l.foldl jOne zeroE
theorem jn_snoc (l : List Pt) (p : Pt) : jn (l ++ [p]) = jOne (jn l) p := by unfold jn; rw [List.foldl_append]; rfl
/-- A sum has 32 bytes. -/
def Pt.fine : Pt → Prop
  | .sum d => d.length = 32
  | _ => True
theorem jOne_sum (e : Ev) (h : e.sum.length = 32) (p : Pt) (hp : p.fine) : (jOne e p).sum.length = 32 := by
  cases p <;> first | exact h | exact hp
theorem jn_sum (l : List Pt) (h : ∀ p ∈ l, p.fine) : (jn l).sum.length = 32 := by
  unfold jn
  have : ∀ (l : List Pt) (e : Ev), e.sum.length = 32 → (∀ p ∈ l, p.fine) → (l.foldl jOne e).sum.length = 32 := by
    intro l
    induction l with
    | nil => intro e h _; exact h
    | cons p l ih => intro e h hl; exact ih _ (jOne_sum e h p (hl p (by simp))) (fun q hq => hl q (by simp [hq]))
  exact this l zeroE rfl h
theorem pts_at (l : List Pt) (k : Nat) (h : k < l.length) : (pts l)[k]? = some (l[k]).enc := by simp [pts, h]

theorem evr_list (e : Ev) : evr e = (Value.int .i64 e.kind :: .int .i64 e.id :: .string ⟨e.name.toArray⟩ :: .int .i64 e.time :: .int .i64 e.len :: byteL e.sum).toArray := by
  unfold evr row byteL; simp
theorem evr_kind (e : Ev) (n : Int) : (evr e).setIfInBounds 0 (.int .i64 n) = evr { e with kind := n } := by rw [evr_list, evr_list]; simp
theorem evr_id (e : Ev) (n : Int) : (evr e).setIfInBounds 1 (.int .i64 n) = evr { e with id := n } := by rw [evr_list, evr_list]; simp
theorem evr_name (e : Ev) (l : List UInt8) : (evr e).setIfInBounds 2 (.string ⟨l.toArray⟩) = evr { e with name := l } := by rw [evr_list, evr_list]; simp
theorem evr_time (e : Ev) (n : Int) : (evr e).setIfInBounds 3 (.int .i64 n) = evr { e with time := n } := by rw [evr_list, evr_list]; simp
theorem evr_len (e : Ev) (n : Int) : (evr e).setIfInBounds 4 (.int .i64 n) = evr { e with len := n } := by rw [evr_list, evr_list]; simp
theorem evr_sum (e : Ev) (h : e.sum.length = 32) (d : List UInt8) (hd : d.length = 32) : ((evr e).toList.take 5 ++ (row d).toList ++ (evr e).toList.drop (5 + (row d).toList.length)).toArray = evr { e with sum := d } := by
  rw [evr_list, evr_list]
  have h1 : (row d).toList.length = 32 := by simp [row, hd]
  rw [h1]
  simp [row, byteL, h]
theorem zero41 : evr zeroE = #[Value.int .i64 0, .int .i64 0, .string ⟨#[]⟩, .int .i64 0, .int .i64 0, .int .u8 0, .int .u8 0, .int .u8 0, .int .u8 0, .int .u8 0, .int .u8 0, .int .u8 0, .int .u8 0, .int .u8 0, .int .u8 0, .int .u8 0, .int .u8 0, .int .u8 0, .int .u8 0, .int .u8 0, .int .u8 0, .int .u8 0, .int .u8 0, .int .u8 0, .int .u8 0, .int .u8 0, .int .u8 0, .int .u8 0, .int .u8 0, .int .u8 0, .int .u8 0, .int .u8 0, .int .u8 0, .int .u8 0, .int .u8 0, .int .u8 0, .int .u8 0] := rfl
theorem evr_one (e : Ev) : (evr e).all (·.oneCell') = true := by
  rw [evr_list, Array.all_eq_true_iff_forall_mem]
  intro v hv
  rw [List.mem_toArray] at hv
  simp only [List.mem_cons] at hv
  rcases hv with rfl | rfl | rfl | rfl | rfl | h
  · rfl
  · rfl
  · rfl
  · rfl
  · rfl
  · exact byteL_one _ _ h

/-- A whole array stored into the middle of a row. -/
theorem wpList_store_part {P : Program} {ops : Array Oper} {rest : List Oper} {op : Oper} {a : Act} {w : World} {Q : Exit → Act → World → Prop} (hgd : op.guard = none) (ty : TypeId) (x y : Operand) (ho : op.op = .store ty x y)
    (b o : Nat) (cells : Array Value) (hx : a.eval x = .pointer (some ⟨b, o, none⟩)) (hy : a.eval y = .agg cells) (t : TypeId) (old new : Array Value)
    (hg : w.heap[b]? = some (.cells old t)) (hi : (P.info? ty).map (·.size) = some cells.size) (hs : o + cells.size ≤ old.size) (h1 : cells.all (·.oneCell') = true)
    (hn : (old.toList.take o ++ cells.toList ++ old.toList.drop (o + cells.toList.length)).toArray = new)
    (h : wpList P ops Q rest (a.put op.dst undef) (w.setRow b new)) : wpList P ops Q (op :: rest) a w :=
  wpList_plain hgd fun _ hK => by
    have hr := run_storeCells_at P b o t cells.toList 0 old w hg (by simpa using hs) (fun v hv => (Array.all_eq_true_iff_forall_mem.1 h1) v (by simpa using hv))
    simp only [Nat.add_zero] at hr
    rw [hn] at hr
    have hv : (storeVar ty ⟨b, o, none⟩ (.agg cells)).run P w = .ok () (w.setRow b new) := by
      cases hq : P.info? ty with
      | none => simp [hq] at hi
      | some i =>
        have hz : cells.size = i.size := by simp [hq] at hi; omega
        simp [storeVar, sizeOf, typeInfo, hq, Value.cells, hz, hr]
    unfold Oper.wp execOp
    simp only [ho, hx, hy, Instr.storeAt, Instr.sureAddr, Sem.run_bind, Sem.run_pure, Result.andThen_ok, hv]
    exact hK _ _ h

structure JW (w : World) (r x : Nat) (c : Array Value) (v : World) : Prop where
  bel : Below w.heap.size w v
  res : v.heap[r]? = some (.cells (evr zeroE) 34)
  ev : v.heap[x]? = some (.cells c 34)
  lr : w.heap.size ≤ r
  lx : w.heap.size ≤ x
  ne : r ≠ x
theorem JW.row {w : World} {r x : Nat} {c : Array Value} {v : World} (h : JW w r x c v) (c' : Array Value) : JW w r x c' (v.setRow x c') :=
  { h with bel := below_setRow h.bel h.lx _, res := by rw [setRow_other _ _ _ _ h.ne]; exact h.res, ev := setRow_heap _ _ _ _ _ _ h.ev }
theorem JW.set {w : World} {r x : Nat} {c : Array Value} {v : World} (h : JW w r x c v) (j : Nat) (y : Value) : JW w r x (c.setIfInBounds j y) (v.setCell ⟨x, j, none⟩ y) := by
  rw [setCell_eq_setRow _ _ _ _ _ _ _ h.ev]; exact h.row _
theorem JW.past {w : World} {r x : Nat} {c : Array Value} {v v' : World} (h : JW w r x c v) (hb : Below v.heap.size v v') : JW w r x c v' :=
  { h with bel := h.bel.trans (hb.mono h.bel.size), res := (hb.block _ (lt_of_some h.res)).trans h.res, ev := (hb.block _ (lt_of_some h.ev)).trans h.ev }
theorem JW.at {w : World} {r x : Nat} {c : Array Value} {v : World} (h : JW w r x c v) (j : Nat) {y : Value} (hy : c[j]? = some y) : v.cell? ⟨x, j, none⟩ = some y ∧ v.frozen? ⟨x, j, none⟩ = false :=
  ⟨(cell_of_row v x j _ _ _ h.ev).trans hy, frozen_row h.ev j⟩

theorem info99 : (Tryz.prog.info? 104).map (·.size) = some 32 := by kernel_rfl
theorem zero99 (w : World) : (zeroValue 104).run Tryz.prog w = .ok (.agg (row zs)) w := (Tryz.zeroValue104 w).trans rfl

/-- Which type an interface's value has, asked for two answers. -/
theorem wpList_is {P : Program} {ops : Array Oper} {rest : List Oper} {op : Oper} {a : Act} {w : World} {Q : Exit → Act → World → Prop} (hgd : op.guard = none) (x : Operand) (it T : TypeId) (ho : op.op = .typeAssert x it T true)
    (t : TypeId) (v : Value) (hx : a.eval x = .iface t v) (r : Value) (hr : (Instr.typeAssert (.iface t v) it T true).run P w = .ok r w) (h : wpList P ops Q rest (a.put op.dst r) w) : wpList P ops Q (op :: rest) a w :=
  wpList_plain hgd fun _ hK => by
    unfold Oper.wp execOp
    simp only [ho, hx, Sem.run_bind, hr, Result.andThen_ok, Sem.run_pure]
    exact hK _ _ h
theorem is_yes (P : Program) (T it : TypeId) (d : TypeDesc) (hu : P.underlying T = some d) (hd : (match d with | .interface _ => true | _ => false) = false) (v : Value) (w : World) : (Instr.typeAssert (.iface T v) it T true).run P w = .ok (.tuple #[v, .bool true]) w := by
  unfold Instr.typeAssert
  cases d <;> first | (cases hd; done) | simp [run_underlying hu, go_sem]
theorem is_no (P : Program) (T it : TypeId) (d : TypeDesc) (hu : P.underlying T = some d) (hd : (match d with | .interface _ => true | _ => false) = false) (t : TypeId) (ht : t ≠ T) (v z : Value) (w : World) (hz : (zeroValue T).run P w = .ok z w) :
    (Instr.typeAssert (.iface t v) it T true).run P w = .ok (.tuple #[z, .bool false]) w := by
  unfold Instr.typeAssert
  cases d <;> first | (cases hd; done) | simp [run_underlying hu, ht, hz, go_sem]
theorem yes67 (v : Value) (w : World) : (Instr.typeAssert (.iface 98 v) 72 98 true).run Tryz.prog w = .ok (.tuple #[v, .bool true]) w := is_yes _ 98 72 _ Tryz.underlying98 rfl v w
theorem no67 (t : TypeId) (ht : t ≠ 98) (v : Value) (w : World) : (Instr.typeAssert (.iface t v) 72 98 true).run Tryz.prog w = .ok (.tuple #[.int .i64 0, .bool false]) w := is_no _ 98 72 _ Tryz.underlying98 rfl t ht v _ w (Tryz.zeroValue98 w)
theorem yes100 (v : Value) (w : World) : (Instr.typeAssert (.iface 115 v) 72 115 true).run Tryz.prog w = .ok (.tuple #[v, .bool true]) w := is_yes _ 115 72 _ Tryz.underlying115 rfl v w
theorem no100 (t : TypeId) (ht : t ≠ 115) (v : Value) (w : World) : (Instr.typeAssert (.iface t v) 72 115 true).run Tryz.prog w = .ok (.tuple #[.int .i64 0, .bool false]) w := is_no _ 115 72 _ Tryz.underlying115 rfl t ht v _ w (Tryz.zeroValue115 w)
theorem yes95 (v : Value) (w : World) : (Instr.typeAssert (.iface 100 v) 72 100 true).run Tryz.prog w = .ok (.tuple #[v, .bool true]) w := is_yes _ 100 72 _ Tryz.underlying100 rfl v w
theorem no95 (t : TypeId) (ht : t ≠ 100) (v : Value) (w : World) : (Instr.typeAssert (.iface t v) 72 100 true).run Tryz.prog w = .ok (.tuple #[.string ⟨#[]⟩, .bool false]) w := is_no _ 100 72 _ Tryz.underlying100 rfl t ht v _ w (Tryz.zeroValue100 w)
theorem yes97 (v : Value) (w : World) : (Instr.typeAssert (.iface 102 v) 72 102 true).run Tryz.prog w = .ok (.tuple #[v, .bool true]) w := is_yes _ 102 72 _ Tryz.underlying102 rfl v w
theorem no97 (t : TypeId) (ht : t ≠ 102) (v : Value) (w : World) : (Instr.typeAssert (.iface t v) 72 102 true).run Tryz.prog w = .ok (.tuple #[.int .i64 0, .bool false]) w := is_no _ 102 72 _ Tryz.underlying102 rfl t ht v _ w (Tryz.zeroValue102 w)
theorem yes96 (v : Value) (w : World) : (Instr.typeAssert (.iface 101 v) 72 101 true).run Tryz.prog w = .ok (.tuple #[v, .bool true]) w := is_yes _ 101 72 _ Tryz.underlying101 rfl v w
theorem no96 (t : TypeId) (ht : t ≠ 101) (v : Value) (w : World) : (Instr.typeAssert (.iface t v) 72 101 true).run Tryz.prog w = .ok (.tuple #[.int .i64 0, .bool false]) w := is_no _ 101 72 _ Tryz.underlying101 rfl t ht v _ w (Tryz.zeroValue101 w)
theorem yes98 (v : Value) (w : World) : (Instr.typeAssert (.iface 103 v) 72 103 true).run Tryz.prog w = .ok (.tuple #[v, .bool true]) w := is_yes _ 103 72 _ Tryz.underlying103 rfl v w
theorem no98 (t : TypeId) (ht : t ≠ 103) (v : Value) (w : World) : (Instr.typeAssert (.iface t v) 72 103 true).run Tryz.prog w = .ok (.tuple #[.int .i64 0, .bool false]) w := is_no _ 103 72 _ Tryz.underlying103 rfl t ht v _ w (Tryz.zeroValue103 w)
theorem yes99 (v : Value) (w : World) : (Instr.typeAssert (.iface 104 v) 72 104 true).run Tryz.prog w = .ok (.tuple #[v, .bool true]) w := is_yes _ 104 72 _ Tryz.underlying104 rfl v w
theorem no99 (t : TypeId) (ht : t ≠ 104) (v : Value) (w : World) : (Instr.typeAssert (.iface t v) 72 104 true).run Tryz.prog w = .ok (.tuple #[.agg (row zs), .bool false]) w := is_no _ 104 72 _ Tryz.underlying104 rfl t ht v _ w (zero99 w)

set_option maxRecDepth 100000 in
set_option maxHeartbeats 1000000 in
theorem joined_any (l : List Pt) (hl : ∀ p ∈ l, p.fine) (hn : l.length ≤ 115) (w : World) (g : Nat) (hg : w.heap[g]? = some (.cells (pts l) 72)) :
    Calls Tryz.prog 60 #[.slice (some ⟨g, 0, none⟩) l.length l.length] w fun e w' => e = .returned (.agg (evr (jn l))) ∧ Below w.heap.size w w' := by
  have hgl := lt_of_some hg
  have hcell : Hid (∀ v, Below w.heap.size w v → ∀ k (h : k < l.length), v.cell? ⟨g, k, none⟩ = some (l[k]).enc) := Lib.hid (fun v hb k h => by
    rw [hb.cell (p := ⟨g, k, none⟩) hgl, cell_of_row w g k _ _ _ hg]; exact pts_at l k h)
  have hs := Lib.hid (fun k => jn_sum (l.take k) (fun p hp => hl p (List.mem_of_mem_take hp)))
  have hz := zero41
  have h0 : Hid (JW w w.heap.size (w.heap.size + 1) (evr (jn (l.take 0))) ((w.alloc (.cells (evr zeroE) 34)).alloc (.cells (evr zeroE) 34))) := Lib.hid {
    bel := ((Below.refl _ _).alloc (Nat.le_refl _) _).alloc (by simp) _
    res := by rw [heap_alloc_if, if_neg (by simp), heap_alloc_if, if_pos rfl]
    ev := by rw [heap_alloc_if, if_pos (by simp)]; rfl
    lr := Nat.le_refl _
    lx := by omega
    ne := by omega }
  have hfine := Lib.hid hl
  rw [hz] at h0
  clear hg hgl hl hz
  go_enter Tryz.func60, Tryz.ntmps60
  go_wp2_with fail
  go_loopw [15] (fun i wr => ∃ k : Nat, k ≤ l.length ∧ i = .int .i64 (k : Int) ∧ Hid (JW w w.heap.size (w.heap.size + 1) (evr (jn (l.take k))) wr)) (fun i _ => l.length - (intOf i).toNat)
  case atStart => exact ⟨0, Nat.zero_le _, rfl, h0⟩
  case round =>
    obtain ⟨k, hk, rfl, hJ⟩ := hrel
    by_cases hlt : k < l.length
    · have hb : (k : Int) < (l.length : Int) := by omega
      have hc := hcell.out wr hJ.out.bel k hlt
      have hts := Lib.hid (List.take_succ_eq_append_getElem hlt)
      cases hp : l[k] with
      | kind n =>
        rw [hp] at hc
        simp only [Pt.enc] at hc
        have hj : Hid (jn (l.take (k + 1)) = jOne (jn (l.take k)) (.kind n)) := Lib.hid (by rw [hts.out, jn_snoc, hp])
        have he := Lib.hid (evr_kind (jn (l.take k)) n)
        obtain ⟨hf1, hf2⟩ := hJ.out.at 0 (evr0 _)
        clear hp hts
        go_wp2_with (first
          | (with_reducible refine wpList_is rfl (.tmp 19) 72 98 rfl 98 _ rfl _ (yes67 _ _) ?_))
        go_roundw
        case rel => exact ⟨k + 1, by omega, by go_num, Lib.hid (by rw [hj.out]; unfold jOne; rw [← he.out]; exact hJ.out.set 0 _)⟩
        case measure => simp [intOf]; omega
      | id n =>
        rw [hp] at hc
        simp only [Pt.enc] at hc
        have hj : Hid (jn (l.take (k + 1)) = jOne (jn (l.take k)) (.id n)) := Lib.hid (by rw [hts.out, jn_snoc, hp])
        have he := Lib.hid (evr_id (jn (l.take k)) n)
        obtain ⟨hf1, hf2⟩ := hJ.out.at 1 (evr1 _)
        clear hp hts
        go_wp2_with (first
          | (with_reducible refine wpList_is rfl (.tmp 19) 72 98 rfl 115 _ rfl _ (no67 115 (by decide) _ _) ?_)
          | (with_reducible refine wpList_is rfl (.tmp 19) 72 115 rfl 115 _ rfl _ (yes100 _ _) ?_))
        go_roundw
        case rel => exact ⟨k + 1, by omega, by go_num, Lib.hid (by rw [hj.out]; unfold jOne; rw [← he.out]; exact hJ.out.set 1 _)⟩
        case measure => simp [intOf]; omega
      | label t =>
        rw [hp] at hc
        simp only [Pt.enc] at hc
        have hj : Hid (jn (l.take (k + 1)) = jOne (jn (l.take k)) (.label t)) := Lib.hid (by rw [hts.out, jn_snoc, hp])
        have he := Lib.hid (evr_name (jn (l.take k)) t)
        obtain ⟨hf1, hf2⟩ := hJ.out.at 2 (evr2 _)
        clear hp hts
        go_wp2_with (first
          | (with_reducible refine wpList_is rfl (.tmp 19) 72 98 rfl 100 _ rfl _ (no67 100 (by decide) _ _) ?_)
          | (with_reducible refine wpList_is rfl (.tmp 19) 72 115 rfl 100 _ rfl _ (no100 100 (by decide) _ _) ?_)
          | (with_reducible refine wpList_is rfl (.tmp 19) 72 100 rfl 100 _ rfl _ (yes95 _ _) ?_))
        go_roundw
        case rel => exact ⟨k + 1, by omega, by go_num, Lib.hid (by rw [hj.out]; unfold jOne; rw [← he.out]; exact hJ.out.set 2 _)⟩
        case measure => simp [intOf]; omega
      | moment n =>
        rw [hp] at hc
        simp only [Pt.enc] at hc
        have hj : Hid (jn (l.take (k + 1)) = jOne (jn (l.take k)) (.moment n)) := Lib.hid (by rw [hts.out, jn_snoc, hp])
        have he := Lib.hid (evr_time (jn (l.take k)) n)
        obtain ⟨hf1, hf2⟩ := hJ.out.at 3 (evr3 _)
        clear hp hts
        go_wp2_with (first
          | (with_reducible refine wpList_is rfl (.tmp 19) 72 98 rfl 102 _ rfl _ (no67 102 (by decide) _ _) ?_)
          | (with_reducible refine wpList_is rfl (.tmp 19) 72 115 rfl 102 _ rfl _ (no100 102 (by decide) _ _) ?_)
          | (with_reducible refine wpList_is rfl (.tmp 19) 72 100 rfl 102 _ rfl _ (no95 102 (by decide) _ _) ?_)
          | (with_reducible refine wpList_is rfl (.tmp 19) 72 102 rfl 102 _ rfl _ (yes97 _ _) ?_))
        go_roundw
        case rel => exact ⟨k + 1, by omega, by go_num, Lib.hid (by rw [hj.out]; unfold jOne; rw [← he.out]; exact hJ.out.set 3 _)⟩
        case measure => simp [intOf]; omega
      | added n =>
        rw [hp] at hc
        simp only [Pt.enc] at hc
        have hj : Hid (jn (l.take (k + 1)) = jOne (jn (l.take k)) (.added n)) := Lib.hid (by rw [hts.out, jn_snoc, hp])
        have he := Lib.hid (evr_len (jn (l.take k)) n)
        obtain ⟨hf1, hf2⟩ := hJ.out.at 4 (evr4 _)
        clear hp hts
        go_wp2_with (first
          | (with_reducible refine wpList_is rfl (.tmp 19) 72 98 rfl 101 _ rfl _ (no67 101 (by decide) _ _) ?_)
          | (with_reducible refine wpList_is rfl (.tmp 19) 72 115 rfl 101 _ rfl _ (no100 101 (by decide) _ _) ?_)
          | (with_reducible refine wpList_is rfl (.tmp 19) 72 100 rfl 101 _ rfl _ (no95 101 (by decide) _ _) ?_)
          | (with_reducible refine wpList_is rfl (.tmp 19) 72 102 rfl 101 _ rfl _ (no97 101 (by decide) _ _) ?_)
          | (with_reducible refine wpList_is rfl (.tmp 19) 72 101 rfl 101 _ rfl _ (yes96 _ _) ?_))
        go_roundw
        case rel => exact ⟨k + 1, by omega, by go_num, Lib.hid (by rw [hj.out]; unfold jOne; rw [← he.out]; exact hJ.out.set 4 _)⟩
        case measure => simp [intOf]; omega
      | length n =>
        rw [hp] at hc
        simp only [Pt.enc] at hc
        have hj : Hid (jn (l.take (k + 1)) = jOne (jn (l.take k)) (.length n)) := Lib.hid (by rw [hts.out, jn_snoc, hp])
        have he := Lib.hid (evr_len (jn (l.take k)) n)
        obtain ⟨hf1, hf2⟩ := hJ.out.at 4 (evr4 _)
        clear hp hts
        go_wp2_with (first
          | (with_reducible refine wpList_is rfl (.tmp 19) 72 98 rfl 103 _ rfl _ (no67 103 (by decide) _ _) ?_)
          | (with_reducible refine wpList_is rfl (.tmp 19) 72 115 rfl 103 _ rfl _ (no100 103 (by decide) _ _) ?_)
          | (with_reducible refine wpList_is rfl (.tmp 19) 72 100 rfl 103 _ rfl _ (no95 103 (by decide) _ _) ?_)
          | (with_reducible refine wpList_is rfl (.tmp 19) 72 102 rfl 103 _ rfl _ (no97 103 (by decide) _ _) ?_)
          | (with_reducible refine wpList_is rfl (.tmp 19) 72 101 rfl 103 _ rfl _ (no96 103 (by decide) _ _) ?_)
          | (with_reducible refine wpList_is rfl (.tmp 19) 72 103 rfl 103 _ rfl _ (yes98 _ _) ?_))
        go_roundw
        case rel => exact ⟨k + 1, by omega, by go_num, Lib.hid (by rw [hj.out]; unfold jOne; rw [← he.out]; exact hJ.out.set 4 _)⟩
        case measure => simp [intOf]; omega
      | sum d =>
        rw [hp] at hc
        simp only [Pt.enc] at hc
        have hd : Hid (d.length = 32) := Lib.hid (by have := hfine.out _ (List.getElem_mem hlt); rw [hp] at this; exact this)
        have hj : Hid (jn (l.take (k + 1)) = jOne (jn (l.take k)) (.sum d)) := Lib.hid (by rw [hts.out, jn_snoc, hp])
        have he := Lib.hid (evr_sum (jn (l.take k)) (hs.out k) d hd.out)
        have hi99 : Hid ((Tryz.prog.info? 104).map (·.size) = some (row d).size) := Lib.hid (by rw [row_size, hd.out]; exact info99)
        have hi26 : Hid ((Tryz.prog.info? 23).map (·.size) = some (row d).size) := Lib.hid (by rw [row_size, hd.out]; exact info28)
        have hA : Hid ((wr.alloc (.cells (row zs) 104)).heap[wr.heap.size]? = some (.cells (row zs) 104)) := Lib.hid (by rw [heap_alloc_if, if_pos rfl])
        have hB : Hid (((wr.alloc (.cells (row zs) 104)).setRow wr.heap.size (row d)).heap[wr.heap.size]? = some (.cells (row d) 104)) := Lib.hid (setRow_heap _ _ _ _ _ _ hA.out)
        have hJ2 : Hid (JW w w.heap.size (w.heap.size + 1) (evr (jn (l.take k))) ((wr.alloc (.cells (row zs) 104)).setRow wr.heap.size (row d))) := Lib.hid (hJ.out.past (below_setRow ((Below.refl _ _).alloc (Nat.le_refl _) _) (Nat.le_refl _) _))
        have hsz : Hid ((row zs).size = (row d).size) := Lib.hid (by rw [row_size, row_size, hd.out]; rfl)
        have hsz2 : Hid (5 + (row d).size ≤ (evr (jn (l.take k))).size) := Lib.hid (by rw [row_size, hd.out, evr_size, hs.out k]; omega)
        have hro := Lib.hid (row_one d)
        have z99 := zero99
        clear hp hts
        generalize row d = D at *
        go_wp2_with (first
          | (with_reducible refine wpList_is rfl (.tmp 19) 72 98 rfl 104 _ rfl _ (no67 104 (by decide) _ _) ?_)
          | (with_reducible refine wpList_is rfl (.tmp 19) 72 115 rfl 104 _ rfl _ (no100 104 (by decide) _ _) ?_)
          | (with_reducible refine wpList_is rfl (.tmp 19) 72 100 rfl 104 _ rfl _ (no95 104 (by decide) _ _) ?_)
          | (with_reducible refine wpList_is rfl (.tmp 19) 72 102 rfl 104 _ rfl _ (no97 104 (by decide) _ _) ?_)
          | (with_reducible refine wpList_is rfl (.tmp 19) 72 101 rfl 104 _ rfl _ (no96 104 (by decide) _ _) ?_)
          | (with_reducible refine wpList_is rfl (.tmp 19) 72 103 rfl 104 _ rfl _ (no98 104 (by decide) _ _) ?_)
          | (with_reducible refine wpList_is rfl (.tmp 19) 72 104 rfl 104 _ rfl _ (yes99 _ _) ?_)
          | (with_reducible refine wpList_store_row rfl 104 (.tmp 12) (.tmp 52) rfl _ D rfl rfl 104 _ hA.out hi99.out hsz.out hro.out ?_)
          | (with_reducible refine wpList_load_row rfl 104 (.tmp 12) rfl _ rfl 104 D _ hB.out Tryz.underlying104 rfl hi99.out ?_)
          | (with_reducible refine wpList_store_part rfl 23 (.tmp 54) (.tmp 53) rfl (w.heap.size + 1) 5 D rfl rfl 34 _ _ hJ2.out.ev hi26.out hsz2.out hro.out he.out ?_))
        go_roundw
        case rel => exact ⟨k + 1, by omega, by go_num, Lib.hid (by rw [hj.out]; exact hJ2.out.row _)⟩
        case measure => simp [intOf]; omega
    · obtain rfl : k = l.length := by omega
      have hb : ¬ (l.length : Int) < (l.length : Int) := by omega
      have hJ' : Hid (JW w w.heap.size (w.heap.size + 1) (evr (jn l)) wr) := Lib.hid (by have := hJ.out; rwa [List.take_length] at this)
      have hs' : Hid ((jn l).sum.length = 32) := Lib.hid (by have := hs.out l.length; rwa [List.take_length] at this)
      have hi41 : Hid ((Tryz.prog.info? 34).map (·.size) = some (evr (jn l)).size) := Lib.hid (by rw [evr_size, hs'.out]; exact info41)
      have hsz : Hid ((evr zeroE).size = (evr (jn l)).size) := Lib.hid (by rw [evr_size, evr_size, hs'.out]; rfl)
      have hro := Lib.hid (evr_one (jn l))
      clear hJ hs
      go_wp2_with (first
        | (with_reducible refine wpList_load_row rfl 34 (.tmp 3) rfl _ rfl 34 (evr (jn l)) _ hJ'.out.ev Tryz.underlying34 rfl hi41.out ?_)
        | (with_reducible refine wpList_store_row rfl 34 (.tmp 2) (.tmp 56) rfl _ (evr (jn l)) rfl rfl 34 _ hJ'.out.res hi41.out hsz.out hro.out ?_))
      exact bodyPost_row 2 34 rfl _ rfl 34 (evr (jn l)) _ (setRow_heap _ _ _ _ _ _ hJ'.out.res) Tryz.underlying34 rfl hi41.out rfl ⟨rfl, below_setRow hJ'.out.bel hJ'.out.lr _⟩
end Go.Proofs.YtfilolmbppjbjaaGreat

namespace Go.Proofs.YtfilolmbppjbjaaGreat
open Go Go.RowKit

/-- What lay below B is as it was in w, and these blocks are known. -/
structure KW (B : Nat) (w : World) (L : List (Nat × Obj)) (v : World) : Prop where
  le : B ≤ w.heap.size
  bel : Below B w v
  has : ∀ x ∈ L, v.heap[x.1]? = some x.2
  nd : (L.map Prod.fst).Nodup
theorem KW.at {B : Nat} {w v : World} {L : List (Nat × Obj)} (h : KW B w L v) (i : Nat) {b : Nat} {o : Obj} (hi : L[i]? = some (b, o)) : v.heap[b]? = some o := h.has (b, o) (List.mem_of_getElem? hi)
theorem KW.size {B : Nat} {w v : World} {L : List (Nat × Obj)} (h : KW B w L v) : B ≤ v.heap.size := Nat.le_trans h.le h.bel.size
theorem KW.lt {B : Nat} {w v : World} {L : List (Nat × Obj)} (h : KW B w L v) (i : Nat) {b : Nat} {o : Obj} (hi : L[i]? = some (b, o)) : b < v.heap.size := lt_of_some (h.at i hi)
theorem KW.start (w : World) : KW w.heap.size w [] w := ⟨Nat.le_refl _, Below.refl _ _, fun _ h => (by cases h), List.nodup_nil⟩
theorem KW.past {B : Nat} {w v v' : World} {L : List (Nat × Obj)} (h : KW B w L v) (hb : Below v.heap.size v v') : KW B w L v' :=
  ⟨h.le, h.bel.trans (hb.mono h.size), fun x hx => (hb.block _ (lt_of_some (h.has x hx))).trans (h.has x hx), h.nd⟩
theorem KW.drew {B : Nat} {w v : World} {L : List (Nat × Obj)} (h : KW B w L v) : KW B w L v.drew := ⟨h.le, h.bel.drew, h.has, h.nd⟩
theorem KW.drop {B : Nat} {w v : World} {L : List (Nat × Obj)} {x : Nat × Obj} (h : KW B w (x :: L) v) : KW B w L v :=
  ⟨h.le, h.bel, fun y hy => h.has y (List.mem_cons_of_mem _ hy), (List.nodup_cons.1 h.nd).2⟩
theorem KW.new {B : Nat} {w v : World} {L : List (Nat × Obj)} (h : KW B w L v) (o : Obj) : KW B w ((v.heap.size, o) :: L) (v.alloc o) :=
  ⟨h.le, h.bel.alloc h.size _, fun x hx => by
    rcases List.mem_cons.1 hx with rfl | hx
    · rw [heap_alloc_if, if_pos rfl]
    · have := h.has x hx
      rw [heap_alloc_if, if_neg (Nat.ne_of_lt (lt_of_some this))]; exact this,
   List.nodup_cons.2 ⟨fun hm => by
      obtain ⟨x, hx, e⟩ := List.mem_map.1 hm
      have := lt_of_some (h.has x hx); omega, h.nd⟩⟩
/-- A block that is known because it lay there before. -/
theorem KW.know {B : Nat} {w v : World} {L : List (Nat × Obj)} (h : KW B w L v) (b : Nat) (o : Obj) (hb : v.heap[b]? = some o) (hn : b ∉ L.map Prod.fst) : KW B w ((b, o) :: L) v :=
  ⟨h.le, h.bel, fun x hx => by
    rcases List.mem_cons.1 hx with rfl | hx
    · exact hb
    · exact h.has x hx, List.nodup_cons.2 ⟨hn, h.nd⟩⟩
theorem KW.row {B : Nat} {w v : World} {L : List (Nat × Obj)} (h : KW B w L v) (i : Nat) {b : Nat} {c : Array Value} {t : TypeId} (hi : L[i]? = some (b, .cells c t)) (hb : B ≤ b) (c' : Array Value) : KW B w (L.set i (b, .cells c' t)) (v.setRow b c') := by
  have hil : i < L.length := (List.getElem?_eq_some_iff.1 hi).1
  have hLi : L[i] = (b, .cells c t) := (List.getElem?_eq_some_iff.1 hi).2
  have hmap : (L.set i (b, .cells c' t)).map Prod.fst = L.map Prod.fst := by
    rw [List.map_set]
    apply List.ext_getElem (by simp)
    intro j h1 h2
    rw [List.getElem_set]
    split
    · rename_i e; subst e; simp [hLi]
    · rfl
  refine ⟨h.le, below_setRow h.bel hb _, fun x hx => ?_, by rw [hmap]; exact h.nd⟩
  obtain ⟨j, hj, rfl⟩ := List.getElem_of_mem hx
  have hjl : j < L.length := by simpa using hj
  rw [List.getElem_set]
  split
  · exact setRow_heap _ _ _ _ _ _ (h.at i hi)
  · rename_i e
    have hne : L[j].1 ≠ b := by
      intro q
      have hp := List.pairwise_iff_getElem.1 h.nd
      rcases Nat.lt_or_ge i j with hij | hij
      · exact hp i j (by simpa using hil) (by simpa using hjl) hij (by simp [hLi, q])
      · exact hp j i (by simpa using hjl) (by simpa using hil) (by omega) (by simp [hLi, q])
    rw [setRow_other _ _ _ _ hne]
    exact h.has _ (List.getElem_mem hjl)
theorem KW.set {B : Nat} {w v : World} {L : List (Nat × Obj)} (h : KW B w L v) (i : Nat) {b : Nat} {c : Array Value} {t : TypeId} (hi : L[i]? = some (b, .cells c t)) (hb : B ≤ b) (j : Nat) (y : Value) : KW B w (L.set i (b, .cells (c.setIfInBounds j y) t)) (v.setCell ⟨b, j, none⟩ y) := by
  rw [setCell_eq_setRow _ _ _ _ _ _ _ (h.at i hi)]; exact h.row i hi hb _
theorem KW.cell {B : Nat} {w v : World} {L : List (Nat × Obj)} (h : KW B w L v) (i : Nat) {b : Nat} {c : Array Value} {t : TypeId} (hi : L[i]? = some (b, .cells c t)) (j : Nat) {y : Value} (hy : c[j]? = some y) : v.cell? ⟨b, j, none⟩ = some y := (cell_of_row v b j _ _ _ (h.at i hi)).trans hy
theorem KW.frozen {B : Nat} {w v : World} {L : List (Nat × Obj)} (h : KW B w L v) (i : Nat) {b : Nat} {c : Array Value} {t : TypeId} (hi : L[i]? = some (b, .cells c t)) (j : Nat) : v.frozen? ⟨b, j, none⟩ = false := frozen_row (h.at i hi) j

theorem eql_digd (d : Nat) (x y : List UInt8) (hx : x.length = 32) (hy : y.length = 32) (w : World) : (Op.equalIn (d + 2) 23 (.agg (row x)) (.agg (row y))).run Tryz.prog w = .ok (x == y) w := by
  obtain ⟨i, hi⟩ := info_of_underlying (P := Tryz.prog) Tryz.underlying5
  rw [run_equalIn_array (P := Tryz.prog) w (d + 1) (row x) (row y) Tryz.underlying23 hi]
  have e : Tryz.prog.cellsOf 5 = 1 := by kernel_rfl
  rw [e, items5 d x y w _ (fun i hi => by have := List.mem_range.1 hi; omega), all_eq x y hx hy]
def evB (a b : Ev) : Bool := a.kind == b.kind && (a.id == b.id && (a.name == b.name && (a.time == b.time && (a.len == b.len && a.sum == b.sum))))
theorem evB_iff (a b : Ev) : evB a b = true ↔ a = b := by
  cases a; cases b
  simp [evB]
theorem fields41 : (Tryz.prog.fieldsOf 34).toList.map (fun f => (f.name != "_", f.type, f.offset)) = [(true, 32, 0), (true, 3, 1), (true, 9, 2), (true, 3, 3), (true, 3, 4), (true, 23, 5)] := by kernel_rfl
theorem part_one (t : TypeId) (c : Array Value) (i : Nat) (v : Value) (ha : ∀ w, (isAgg t).run Tryz.prog w = .ok false w) (h : c[i]? = some v) (w : World) : (part t c i).run Tryz.prog w = .ok v w := by
  unfold part
  simp only [Sem.run_bind, ha, Result.andThen_ok]
  rw [h]; rfl
theorem eqf_step {P : Program} {d : Nat} {xs ys : Array Value} {f : Field} {fs : List Field} {a b : Value} {r q : Bool} {w : World} (hn : (f.name != "_") = true) (ha : (part f.type xs f.offset).run P w = .ok a w) (hb : (part f.type ys f.offset).run P w = .ok b w)
    (hr : (Op.equalIn d f.type a b).run P w = .ok r w) (hq : (Op.eqFields d xs ys fs).run P w = .ok q w) : (Op.eqFields d xs ys (f :: fs)).run P w = .ok (r && q) w := by
  have hn' : f.name ≠ "_" := by simpa using hn
  unfold Op.eqFields
  rw [if_pos hn']
  simp only [Sem.run_bind, ha, hb, hr, Result.andThen_ok]
  cases r
  · rfl
  · simpa using hq
theorem part_sum (e : Ev) (hs : e.sum.length = 32) (w : World) : (part 23 (evr e) 5).run Tryz.prog w = .ok (.agg (row e.sum)) w := by
  unfold part
  have h1 : (isAgg 23).run Tryz.prog w = .ok true w := Tryz.isAgg23 w
  have h2 : (sizeOf 23).run Tryz.prog w = .ok 32 w := Tryz.sizeOf23 w
  simp only [Sem.run_bind, h1, Result.andThen_ok, if_true, h2, Sem.run_pure]
  have : (evr e).extract 5 (5 + 32) = row e.sum := by
    rw [evr_list]
    simp [row, byteL, hs, List.take_of_length_le]
  rw [this]
theorem name_beq (a b : List UInt8) : ((⟨a.toArray⟩ : ByteArray).toList == (⟨b.toArray⟩ : ByteArray).toList) = (a == b) := by rw [toList_li, toList_li, li_mk, li_mk]
theorem eql_ev (a b : Ev) (ha : a.sum.length = 32) (hb : b.sum.length = 32) (w : World) : (Op.equalIn 10000 34 (.agg (evr a)) (.agg (evr b))).run Tryz.prog w = .ok (evB a b) w := by
  rw [run_equalIn_struct (P := Tryz.prog) w 9999 34 (evr a) (evr b) (by kernel_rfl) (by kernel_rfl)]
  have hF := fields41
  generalize (Tryz.prog.fieldsOf 34).toList = L at hF ⊢
  rcases L with _ | ⟨f0, _ | ⟨f1, _ | ⟨f2, _ | ⟨f3, _ | ⟨f4, _ | ⟨f5, _ | ⟨f6, L⟩⟩⟩⟩⟩⟩⟩
  rotate_left 6
  · simp only [List.map_cons, List.map_nil, List.cons.injEq, Prod.mk.injEq, and_true] at hF
    obtain ⟨⟨n0, t0, o0⟩, ⟨n1, t1, o1⟩, ⟨n2, t2, o2⟩, ⟨n3, t3, o3⟩, ⟨n4, t4, o4⟩, ⟨n5, t5, o5⟩⟩ := hF
    unfold evB
    refine eqf_step n0 (a := .int .i64 a.kind) (b := .int .i64 b.kind) (by rw [t0, o0]; exact part_one 32 _ 0 _ Tryz.isAgg32 (evr0 a) w) (by rw [t0, o0]; exact part_one 32 _ 0 _ Tryz.isAgg32 (evr0 b) w) (by rw [t0]; exact run_equalIn_int (P := Tryz.prog) w 9998 32 .i64 _ _ _ Tryz.underlying32) ?_
    refine eqf_step n1 (a := .int .i64 a.id) (b := .int .i64 b.id) (by rw [t1, o1]; exact part_one 3 _ 1 _ Tryz.isAgg3 (evr1 a) w) (by rw [t1, o1]; exact part_one 3 _ 1 _ Tryz.isAgg3 (evr1 b) w) (by rw [t1]; exact run_equalIn_int (P := Tryz.prog) w 9998 3 .i64 _ _ _ Tryz.underlying3) ?_
    refine eqf_step n2 (a := .string ⟨a.name.toArray⟩) (b := .string ⟨b.name.toArray⟩) (by rw [t2, o2]; exact part_one 9 _ 2 _ Tryz.isAgg9 (evr2 a) w) (by rw [t2, o2]; exact part_one 9 _ 2 _ Tryz.isAgg9 (evr2 b) w) (by rw [t2, run_equalIn_string (P := Tryz.prog) w 9998 9 _ _ Tryz.underlying9, name_beq]) ?_
    refine eqf_step n3 (a := .int .i64 a.time) (b := .int .i64 b.time) (by rw [t3, o3]; exact part_one 3 _ 3 _ Tryz.isAgg3 (evr3 a) w) (by rw [t3, o3]; exact part_one 3 _ 3 _ Tryz.isAgg3 (evr3 b) w) (by rw [t3]; exact run_equalIn_int (P := Tryz.prog) w 9998 3 .i64 _ _ _ Tryz.underlying3) ?_
    refine eqf_step n4 (a := .int .i64 a.len) (b := .int .i64 b.len) (by rw [t4, o4]; exact part_one 3 _ 4 _ Tryz.isAgg3 (evr4 a) w) (by rw [t4, o4]; exact part_one 3 _ 4 _ Tryz.isAgg3 (evr4 b) w) (by rw [t4]; exact run_equalIn_int (P := Tryz.prog) w 9998 3 .i64 _ _ _ Tryz.underlying3) ?_
    have hd := eql_digd 9997 a.sum b.sum ha hb w
    have := eqf_step (P := Tryz.prog) (fs := []) (q := true) n5 (by rw [t5, o5]; exact part_sum a ha w) (by rw [t5, o5]; exact part_sum b hb w) (by rw [t5]; exact hd) rfl
    rw [Bool.and_true] at this
    exact this
  all_goals simp at hF
end Go.Proofs.YtfilolmbppjbjaaGreat

namespace Go.Proofs.YtfilolmbppjbjaaGreat
open Go Go.RowKit

def validP : Pt → Bool
  | .kind n => wi n 0 7
  | .id n => wi n 1 1099511627776
  | .label l => nm.vld l
  | .moment n => wi n 0 1099511627776
  | .added n => wi n 1 600
  | .length n => wi n 0 600
  | .sum _ => true
/-- Names are not too long to be walked. -/
def Pt.short : Pt → Prop
  | .label l => l.length ≤ 1099511627776
  | _ => True
def okP (e : Ev) : Bool := (partsOf e).all validP && evB (jn (partsOf e)) e
theorem partsOf_fine (e : Ev) (hs : e.sum.length = 32) : ∀ p ∈ partsOf e, p.fine := by
  have h : (aboutP e).fine := by unfold aboutP; split <;> trivial
  unfold partsOf
  intro p hp
  repeat' split at hp
  all_goals (simp only [List.mem_cons, List.not_mem_nil, or_false] at hp; rcases hp with rfl | rfl | rfl | rfl | rfl) <;> first | trivial | exact h | exact hs
theorem partsOf_short (e : Ev) (hs : e.name.length ≤ 1099511627776) : ∀ p ∈ partsOf e, p.short := by
  have h : (aboutP e).short := by unfold aboutP; split <;> trivial
  unfold partsOf
  intro p hp
  repeat' split at hp
  all_goals (simp only [List.mem_cons, List.not_mem_nil, or_false] at hp; rcases hp with rfl | rfl | rfl | rfl | rfl) <;> first | trivial | exact h | exact hs
theorem partsOf_len (e : Ev) : (partsOf e).length ≤ 5 := by
  unfold partsOf
  repeat' split
  all_goals simp

theorem ent60 : ∀ args w, (callFunc 60 args).run Tryz.prog w = .ok (.enter 60 args) w := enters_of Tryz.func60 (by kernel_rfl) rfl
theorem li_label (l : List UInt8) : nm.li ⟨l.toArray⟩ = l := by simp [nm.li]

set_option maxRecDepth 100000 in
set_option maxHeartbeats 1000000 in
theorem evalid_any (e : Ev) (hs : e.sum.length = 32) (hn : e.name.length ≤ 1099511627776) (w : World) :
    Calls Tryz.prog 37 #[.agg (evr e)] w fun r w' => r = .returned (.bool (okP e)) ∧ Below w.heap.size w w' := by
  have hi : Hid ((Tryz.prog.info? 34).map (·.size) = some (evr e).size) := Lib.hid (by rw [evr_size, hs]; exact info41)
  have hK0 : Hid (KW w.heap.size w [(w.heap.size, .cells (evr e) 34)] (w.alloc (.cells (evr e) 34))) := Lib.hid ((KW.start w).new _)
  have cp := Lib.hid (fun v => parts_any e hs v)
  have hpf := Lib.hid (partsOf_fine e hs)
  have hps := Lib.hid (partsOf_short e hn)
  have hpl := partsOf_len e
  have hok : Hid (okP e = ((partsOf e).all validP && evB (jn (partsOf e)) e)) := Lib.hid rfl
  have hes := Lib.hid hs
  obtain ⟨l, hl⟩ : ∃ l, partsOf e = l := ⟨_, rfl⟩
  rw [hl] at cp hpf hps hpl hok
  clear hl hs hn
  go_enter Tryz.func37, Tryz.ntmps37
  go_wp2_with (with_reducible refine wpList_load_row rfl 34 (.tmp 1) rfl _ rfl 34 (evr e) _ (hK0.out.at 0 rfl) Tryz.underlying34 rfl hi.out ?_)
  refine (cp.out _).mono ?_
  rintro r v ⟨g, rfl, hg0, hg, hB⟩
  have hK1 : Hid (KW w.heap.size w [(g, .cells (pts l) 72), (w.heap.size, .cells (evr e) 34)] v) := Lib.hid ((hK0.out.past hB).know g _ hg (by simp at hg0 ⊢; omega))
  have hll : (l.length : Int) ≤ 5 := by omega
  clear hg0 hg hB hK0
  go_wp2_with fail
  go_loopw [10] (fun i wr => ∃ k : Nat, k ≤ l.length ∧ i = .int .i64 (k : Int) ∧ Hid ((l.take k).all validP = true) ∧ Hid (KW w.heap.size w [(g, .cells (pts l) 72), (w.heap.size, .cells (evr e) 34)] wr)) (fun i _ => l.length - (intOf i).toNat)
  case atStart => exact ⟨0, Nat.zero_le _, rfl, Lib.hid rfl, hK1⟩
  case round =>
    obtain ⟨k, hk, rfl, hall, hK⟩ := hrel
    by_cases hlt : k < l.length
    · have hb : (k : Int) < (l.length : Int) := by omega
      have hc := hK.out.cell 0 rfl k (pts_at l k hlt)
      have hts : Hid ((l.take (k + 1)).all validP = validP l[k]) := Lib.hid (by rw [List.take_succ_eq_append_getElem hlt, List.all_append, hall.out]; simp)
      have hno : Hid (validP l[k] = false → l.all validP = false) := Lib.hid (fun h => by rw [List.all_eq_false]; exact ⟨_, List.getElem_mem hlt, by rw [h]; decide⟩)
      cases hp : l[k] with
      | kind n =>
        rw [hp] at hc hts hno
        simp only [Pt.enc] at hc
        have cc := Lib.hid (fun v => kind_valid n v)
        have hv : Hid (validP (.kind n) = wi n 0 7) := Lib.hid rfl
        rw [hv.out] at hts hno
        clear hp hv
        generalize wi n 0 7 = bb at *
        go_wp2_with fail
        refine (cc.out _).mono ?_
        rintro r u ⟨rfl, rfl⟩
        cases bb
        · have hq := Lib.hid (hno.out rfl)
          clear hno hts
          go_wp2_with fail
          go_ret
          exact ⟨by rw [hok.out, hq.out]; rfl, hK.out.bel⟩
        · clear hno
          go_wp2_with fail
          go_roundw
          case rel => exact ⟨k + 1, by omega, by go_num, hts, hK⟩
          case measure => simp [intOf]; omega
      | id n =>
        rw [hp] at hc hts hno
        simp only [Pt.enc] at hc
        have cc := Lib.hid (fun v => id_valid n v)
        have hv : Hid (validP (.id n) = wi n 1 1099511627776) := Lib.hid rfl
        rw [hv.out] at hts hno
        clear hp hv
        generalize wi n 1 1099511627776 = bb at *
        go_wp2_with fail
        refine (cc.out _).mono ?_
        rintro r u ⟨rfl, rfl⟩
        cases bb
        · have hq := Lib.hid (hno.out rfl)
          clear hno hts
          go_wp2_with fail
          go_ret
          exact ⟨by rw [hok.out, hq.out]; rfl, hK.out.bel⟩
        · clear hno
          go_wp2_with fail
          go_roundw
          case rel => exact ⟨k + 1, by omega, by go_num, hts, hK⟩
          case measure => simp [intOf]; omega
      | label t =>
        rw [hp] at hc hts hno
        simp only [Pt.enc] at hc
        have hsz : Hid ((⟨t.toArray⟩ : ByteArray).size ≤ 1099511627776) := Lib.hid (by have := hps.out _ (List.getElem_mem hlt); rw [hp] at this; rw [mk_size]; exact this)
        have cc := Lib.hid (fun v => label_valid ⟨t.toArray⟩ hsz.out v)
        have hv : Hid (validP (.label t) = nm.vld t) := Lib.hid rfl
        rw [hv.out] at hts hno
        rw [li_label] at cc
        clear hp hv
        generalize nm.vld t = bb at *
        go_wp2_with fail
        refine (cc.out _).mono ?_
        rintro r u ⟨rfl, hu⟩
        have hK2 := Lib.hid (hK.out.past hu)
        clear hu
        cases bb
        · have hq := Lib.hid (hno.out rfl)
          clear hno hts
          go_wp2_with fail
          go_ret
          exact ⟨by rw [hok.out, hq.out]; rfl, hK2.out.bel⟩
        · clear hno
          go_wp2_with fail
          go_roundw
          case rel => exact ⟨k + 1, by omega, by go_num, hts, hK2⟩
          case measure => simp [intOf]; omega
      | moment n =>
        rw [hp] at hc hts hno
        simp only [Pt.enc] at hc
        have cc := Lib.hid (fun v => moment_valid n v)
        have hv : Hid (validP (.moment n) = wi n 0 1099511627776) := Lib.hid rfl
        rw [hv.out] at hts hno
        clear hp hv
        generalize wi n 0 1099511627776 = bb at *
        go_wp2_with fail
        refine (cc.out _).mono ?_
        rintro r u ⟨rfl, rfl⟩
        cases bb
        · have hq := Lib.hid (hno.out rfl)
          clear hno hts
          go_wp2_with fail
          go_ret
          exact ⟨by rw [hok.out, hq.out]; rfl, hK.out.bel⟩
        · clear hno
          go_wp2_with fail
          go_roundw
          case rel => exact ⟨k + 1, by omega, by go_num, hts, hK⟩
          case measure => simp [intOf]; omega
      | added n =>
        rw [hp] at hc hts hno
        simp only [Pt.enc] at hc
        have cc := Lib.hid (fun v => added_valid n v)
        have hv : Hid (validP (.added n) = wi n 1 600) := Lib.hid rfl
        rw [hv.out] at hts hno
        clear hp hv
        generalize wi n 1 600 = bb at *
        go_wp2_with fail
        refine (cc.out _).mono ?_
        rintro r u ⟨rfl, rfl⟩
        cases bb
        · have hq := Lib.hid (hno.out rfl)
          clear hno hts
          go_wp2_with fail
          go_ret
          exact ⟨by rw [hok.out, hq.out]; rfl, hK.out.bel⟩
        · clear hno
          go_wp2_with fail
          go_roundw
          case rel => exact ⟨k + 1, by omega, by go_num, hts, hK⟩
          case measure => simp [intOf]; omega
      | length n =>
        rw [hp] at hc hts hno
        simp only [Pt.enc] at hc
        have cc := Lib.hid (fun v => length_valid n v)
        have hv : Hid (validP (.length n) = wi n 0 600) := Lib.hid rfl
        rw [hv.out] at hts hno
        clear hp hv
        generalize wi n 0 600 = bb at *
        go_wp2_with fail
        refine (cc.out _).mono ?_
        rintro r u ⟨rfl, rfl⟩
        cases bb
        · have hq := Lib.hid (hno.out rfl)
          clear hno hts
          go_wp2_with fail
          go_ret
          exact ⟨by rw [hok.out, hq.out]; rfl, hK.out.bel⟩
        · clear hno
          go_wp2_with fail
          go_roundw
          case rel => exact ⟨k + 1, by omega, by go_num, hts, hK⟩
          case measure => simp [intOf]; omega
      | sum d =>
        rw [hp] at hc hts hno
        simp only [Pt.enc] at hc
        have cc := Lib.hid (fun v => sum_valid d v)
        have hv : Hid (validP (.sum d) = true) := Lib.hid rfl
        rw [hv.out] at hts hno
        clear hp hv
        go_wp2_with fail
        refine (cc.out _).mono ?_
        rintro r u ⟨rfl, hu⟩
        have hK2 := Lib.hid (hK.out.past hu)
        clear hu
        clear hno
        go_wp2_with fail
        go_roundw
        case rel => exact ⟨k + 1, by omega, by go_num, hts, hK2⟩
        case measure => simp [intOf]; omega
    · obtain rfl : k = l.length := by omega
      have hb : ¬ (l.length : Int) < (l.length : Int) := by omega
      have hall' : Hid (l.all validP = true) := Lib.hid (by have := hall.out; rwa [List.take_length] at this)
      have hKd := Lib.hid hK.out.drew
      have cj : Hid (∀ v, KW w.heap.size w [(g, .cells (pts l) 72), (w.heap.size, .cells (evr e) 34)] v → Calls Tryz.prog 60 #[.slice (some ⟨g, 0, none⟩) l.length l.length] v fun r v' => r = .returned (.agg (evr (jn l))) ∧ KW w.heap.size w [(g, .cells (pts l) 72), (w.heap.size, .cells (evr e) 34)] v') :=
        Lib.hid (fun v h => (joined_any l hpf.out (by omega) v g (h.at 0 rfl)).mono fun _ _ q => ⟨q.1, h.past q.2⟩)
      have he := Lib.hid (eql_ev (jn l) e (jn_sum l hpf.out) hes.out)
      go_wp2_with (refine park_region (fun Pk hX => ?_))
      refine hX.out ?_
      refine wp_region_class (KW w.heap.size w [(g, .cells (pts l) 72), (w.heap.size, .cells (evr e) 34)]) (by kernel_rfl) (by kernel_rfl) hKd.out ?_
      refine wpQuiet_move (by rfl) _ (.inl rfl) (.slice (some ⟨g, 0, none⟩) l.length l.length) rfl ?_
      refine wpQuiet_call1 (by rfl) 60 (.tmp 18) _ rfl ent60 (.slice (some ⟨g, 0, none⟩) l.length l.length) rfl _ cj.out ?_
      refine wpQuiet_load (by rfl) 34 (.tmp 1) rfl _ rfl 34 (evr e) _ (fun _ h => h.at 1 rfl) Tryz.underlying34 rfl hi.out ?_
      simp only [Act.put, List.setIfInBounds_toArray, List.set_cons_zero, List.set_cons_succ]
      refine wpQuiet_deq (by rfl) _ _ _ _ rfl (evr (jn l)) (evr e) rfl rfl (by kernel_rfl) _ he.out ?_
      refine wpQuiet_move (by rfl) _ (.inr rfl) (.bool (evB (jn l) e)) rfl ?_
      simp only [Act.put, List.setIfInBounds_toArray, List.set_cons_zero, List.set_cons_succ]
      refine wpQuiet_nil ?_
      intro u hu
      go_wp2_with fail
      go_ret
      exact ⟨by rw [hok.out, hall'.out]; rfl, hu.bel⟩
end Go.Proofs.YtfilolmbppjbjaaGreat

namespace Go.Proofs.YtfilolmbppjbjaaGreat
open Go Go.RowKit

def putP : Pt → List UInt8
  | .kind n => num (clI n)
  | .id n => num (clI n)
  | .label l => text l
  | .moment n => num (clI n)
  | .added n => num (clI n)
  | .length n => num (clI n)
  | .sum d => d
def putL (l : List Pt) : List UInt8 := (l.map putP).flatten
theorem putL_snoc (l : List Pt) (p : Pt) : putL (l ++ [p]) = putL l ++ putP p := by simp [putL]

set_option maxRecDepth 100000 in
set_option maxHeartbeats 400000 in
theorem sum_put (d : List UInt8) (hd : d.length = 32) (w : World) :
    Calls Tryz.prog 120 #[.agg (row d)] w fun e w' => e = .returned (.string (mk d)) ∧ Below w.heap.size w w' := by
  have c := Lib.hid (fun v => sum_any d hd v)
  have hg : Hid ((w.alloc (.cells (row d) 104)).heap[w.heap.size]? = some (.cells (row d) 104)) := Lib.hid (by rw [heap_alloc_if, if_pos rfl])
  have hi : Hid ((Tryz.prog.info? 104).map (·.size) = some (row d).size) := Lib.hid (by rw [row_size, hd]; exact info99)
  clear hd
  go_enter Tryz.func120, Tryz.ntmps120
  go_wp2_with (with_reducible refine wpList_load_row rfl 104 (.tmp 1) rfl _ rfl 104 (row d) _ hg.out Tryz.underlying104 rfl hi.out ?_)
  refine (c.out _).mono ?_
  rintro e v ⟨rfl, hb⟩
  go_wp2_with fail
  go_ret
  exact ⟨rfl, ((Below.refl _ _).alloc (Nat.le_refl _) _).trans (hb.mono (by simp))⟩

/-- Worlds with a builder beside what is known. -/
structure BW (w : World) (L : List (Nat × Obj)) (b : Nat) (acc : List UInt8) (v : World) : Prop where
  kw : KW w.heap.size w L v
  bld : Lib.IsBuilderF 68 5 b b (Lib.byteCells acc) v
  lb : w.heap.size ≤ b
  nb : ∀ x ∈ L, x.1 ≠ b
  ty : ∀ x ∈ L, ∀ c fz, x.2 ≠ .cells c 5 fz
theorem bld_below {T e : TypeId} {B b : Nat} {bs : List Value} {v v' : World} (h : Lib.IsBuilderF T e B b bs v) (hb : Below v.heap.size v v') : Lib.IsBuilderF T e B b bs v' := by
  have key : ∀ p, Lib.BuilderAtF T e B b p bs v → Lib.BuilderAtF T e B b p bs v' := by
    rintro p ⟨hB, x, hx, hown, hne⟩
    refine ⟨hB, x, (hb.block _ (Array.getElem?_eq_some_iff.1 hx).1).trans hx, ⟨hown.1, ?_⟩, hne⟩
    rcases hown.2 with hn | ⟨g, cap, cur, fz, hv, hbg, hg, rest⟩
    · exact .inl hn
    · exact .inr ⟨g, cap, cur, fz, hv, hbg, (hb.block _ (Array.getElem?_eq_some_iff.1 hg).1).trans hg, rest⟩
  exact h.elim (fun x => .inl (key _ x)) (fun x => .inr (key _ x))
theorem BW.past {w v v' : World} {L : List (Nat × Obj)} {b : Nat} {acc : List UInt8} (h : BW w L b acc v) (hb : Below v.heap.size v v') : BW w L b acc v' :=
  { h with kw := h.kw.past hb, bld := bld_below h.bld hb }
theorem bld_lt {T e : TypeId} {B b : Nat} {bs : List Value} {v : World} (h : Lib.IsBuilderF T e B b bs v) : b < v.heap.size :=
  h.elim (fun x => x.lt) (fun x => x.lt)
theorem BW.put {w v v' : World} {L : List (Nat × Obj)} {b : Nat} {acc acc' : List UInt8} (h : BW w L b acc v) (h1 : Lib.IsBuilderF 68 5 b b (Lib.byteCells acc') v') (b1 : Below b v v') (k1 : Lib.OthersKept 5 (some b) v v') : BW w L b acc' v' :=
  { h with
    kw := ⟨h.kw.le, h.kw.bel.trans (b1.mono h.lb), fun x hx => k1 _ _ (h.kw.has x hx) (fun e => h.nb x hx (Option.some.inj e)) (h.ty x hx), h.kw.nd⟩
    bld := h1 }
theorem BW.write {w v : World} {L : List (Nat × Obj)} {b : Nat} {acc : List UInt8} (h : BW w L b acc v) (s : List UInt8) (hlen : acc.length + s.length ≤ 140737488355328) :
    Calls Tryz.prog 39 #[.pointer (some ⟨b, 0, none⟩), .string ⟨s.toArray⟩] v fun e v' => e = .returned (.tuple #[.int .i64 s.length, .nilIface]) ∧ BW w L b (acc ++ s) v' := by
  refine (Tryz.Builder_WriteString_k b b _ ⟨s.toArray⟩ v h.bld (by rw [Lib.byteCells_length, mk_size]; exact hlen) (Nat.le_of_lt (bld_lt h.bld))).mono ?_
  rintro e v' ⟨rfl, h1, b1, k1⟩
  refine ⟨by rw [mk_size], h.put (.inr ?_) b1 k1⟩
  have q : Lib.strCells ⟨s.toArray⟩ = Lib.byteCells s := rfl
  have : Lib.byteCells acc ++ Lib.strCells ⟨s.toArray⟩ = Lib.byteCells (acc ++ s) := by rw [q]; simp [Lib.byteCells]
  rw [← this]; exact h1
theorem BW.told {w v : World} {L : List (Nat × Obj)} {b : Nat} {acc : List UInt8} (h : BW w L b acc v) :
    Calls Tryz.prog 40 #[.pointer (some ⟨b, 0, none⟩)] v fun e v' => e = .returned (.string ⟨acc.toArray⟩) ∧ BW w L b acc v' := by
  refine (Tryz.Builder_String_any_k b b acc v h.bld (Nat.le_of_lt (bld_lt h.bld))).mono ?_
  rintro e v' ⟨rfl, h1, b1, k1⟩
  exact ⟨rfl, h.put h1 b1 k1⟩

theorem num_len9 (n : Nat) : (num n).length ≤ 9 := by have := num_len n; omega
theorem putP_len (p : Pt) (hf : p.fine) (hs : p.short) : (putP p).length ≤ 1099511627900 := by
  cases p with
  | label l =>
    have h := text_size l
    have hs' : l.length ≤ 1099511627776 := hs
    show (text l).length ≤ _; omega
  | sum d => have h : d.length = 32 := hf; show d.length ≤ _; omega
  | kind n => have h := num_len9 (clI n); show (num (clI n)).length ≤ _; omega
  | id n => have h := num_len9 (clI n); show (num (clI n)).length ≤ _; omega
  | moment n => have h := num_len9 (clI n); show (num (clI n)).length ≤ _; omega
  | added n => have h := num_len9 (clI n); show (num (clI n)).length ≤ _; omega
  | length n => have h := num_len9 (clI n); show (num (clI n)).length ≤ _; omega
/-- Numbers are int's. -/
def i64 (n : Int) : Prop := -9223372036854775808 ≤ n ∧ n ≤ 9223372036854775807
def Pt.int : Pt → Prop
  | .kind n | .id n | .moment n | .added n | .length n => i64 n
  | _ => True
structure Ev.wf (e : Ev) : Prop where
  k : i64 e.kind
  i : i64 e.id
  t : i64 e.time
  l : i64 e.len
  s : e.sum.length = 32
theorem partsOf_int (e : Ev) (h : e.wf) : ∀ p ∈ partsOf e, p.int := by
  have ha : (aboutP e).int := by unfold aboutP; split; exact h.t; exact h.i
  unfold partsOf
  intro p hp
  repeat' split at hp
  all_goals (simp only [List.mem_cons, List.not_mem_nil, or_false] at hp; rcases hp with rfl | rfl | rfl | rfl | rfl) <;> first | trivial | exact ha | exact h.k | exact h.t | exact h.l

set_option maxRecDepth 100000 in
set_option maxHeartbeats 1000000 in
theorem eput_true (e : Ev) (hw : e.wf) (hn : e.name.length ≤ 1099511627776) (hv : okP e = true) (w : World) :
    Calls Tryz.prog 21 #[.agg (evr e)] w fun r w' => r = .returned (.tuple #[.string ⟨(putL (partsOf e)).toArray⟩, .bool true]) ∧ Below w.heap.size w w' := by
  have hs := hw.s
  have hi : Hid ((Tryz.prog.info? 34).map (·.size) = some (evr e).size) := Lib.hid (by rw [evr_size, hs]; exact info41)
  have hK0 : Hid (KW w.heap.size w [(w.heap.size, .cells (evr e) 34)] (w.alloc (.cells (evr e) 34))) := Lib.hid ((KW.start w).new _)
  have cv := Lib.hid (fun v => evalid_any e hs hn v)
  rw [hv] at cv
  have cp := Lib.hid (fun v => parts_any e hs v)
  have hpf := Lib.hid (partsOf_fine e hs)
  have hps := Lib.hid (partsOf_short e hn)
  have hpi := Lib.hid (partsOf_int e hw)
  have hpl := partsOf_len e
  obtain ⟨l, hl⟩ : ∃ l, partsOf e = l := ⟨_, rfl⟩
  rw [hl] at cp hpf hps hpl hpi ⊢
  clear hl hs hn hv hw
  go_enter Tryz.func21, Tryz.ntmps21
  go_wp2_with (with_reducible refine wpList_load_row rfl 34 (.tmp 1) rfl _ rfl 34 (evr e) _ (hK0.out.at 0 rfl) Tryz.underlying34 rfl hi.out ?_)
  refine (cv.out _).mono ?_
  rintro r v0 ⟨rfl, hB0⟩
  have hK1 : Hid (KW w.heap.size w [(v0.heap.size, .cells #[.pointer none, .slice none 0 0] 68), (w.heap.size, .cells (evr e) 34)] (v0.alloc (.cells #[.pointer none, .slice none 0 0] 68))) := Lib.hid ((hK0.out.past hB0).new _)
  have hf := Lib.hid (Lib.IsBuilderF.of (Lib.fresh_isBuilder 68 5 v0))
  have hlb := Lib.hid (hK0.out.past hB0).size
  have hne := Lib.hid ((hK0.out.past hB0).lt 0 rfl)
  clear hB0 hK0
  go_wp2_with (with_reducible refine wpList_load_row rfl 34 (.tmp 1) rfl _ rfl 34 (evr e) _ (hK1.out.at 1 rfl) Tryz.underlying34 rfl hi.out ?_)
  refine (cp.out _).mono ?_
  rintro r v ⟨g, rfl, hg0, hg, hB⟩
  have hg1 : Hid (v0.heap.size < g) := Lib.hid (by simp at hg0; omega)
  have hKv : Hid (BW w [(g, .cells (pts l) 72), (w.heap.size, .cells (evr e) 34)] v0.heap.size [] v) := Lib.hid {
    kw := (hK1.out.past hB).drop.know g _ hg (by have := hg1.out; have := hne.out; simp; omega)
    bld := bld_below hf.out hB
    lb := hlb.out
    nb := fun x hx => by
      have := hg1.out
      have := hne.out
      simp only [List.mem_cons, List.not_mem_nil, or_false] at hx
      rcases hx with rfl | rfl
      · show g ≠ _; omega
      · show w.heap.size ≠ _; omega
    ty := fun x hx c fz => by
      simp only [List.mem_cons, List.not_mem_nil, or_false] at hx
      rcases hx with rfl | rfl <;> (intro h; cases h) }
  have hll : (l.length : Int) ≤ 5 := by omega
  clear hg0 hg hB hK1 hf hlb hne hg1
  go_wp2_with fail
  go_loopw [13] (fun i wr => ∃ k : Nat, k ≤ l.length ∧ i = .int .i64 (k : Int) ∧ ∃ acc, Hid (acc = putL (l.take k)) ∧ acc.length ≤ k * 1099511627900 ∧ Hid (BW w [(g, .cells (pts l) 72), (w.heap.size, .cells (evr e) 34)] v0.heap.size acc wr)) (fun i _ => l.length - (intOf i).toNat)
  case atStart => exact ⟨0, Nat.zero_le _, rfl, [], Lib.hid rfl, by simp, hKv⟩
  case round =>
    obtain ⟨k, hk, rfl, acc, hacc, hal, hK⟩ := hrel
    have hal' : acc.length ≤ 6597069767400 := by
      have : k * 1099511627900 ≤ 5 * 1099511627900 := Nat.mul_le_mul_right _ (by omega)
      omega
    by_cases hlt : k < l.length
    · have hb : (k : Int) < (l.length : Int) := by omega
      have hc := hK.out.kw.cell 0 rfl k (pts_at l k hlt)
      have hts : Hid (putL (l.take (k + 1)) = putL (l.take k) ++ putP l[k]) := Lib.hid (by rw [List.take_succ_eq_append_getElem hlt, putL_snoc])
      have hpl1 : (putP l[k]).length ≤ 1099511627900 := putP_len _ (hpf.out _ (List.getElem_mem hlt)) (hps.out _ (List.getElem_mem hlt))
      cases hp : l[k] with
      | kind n =>
        rw [hp] at hc hts hpl1
        simp only [Pt.enc] at hc
        have hin : Hid (i64 n) := Lib.hid (by have := hpi.out _ (List.getElem_mem hlt); rw [hp] at this; exact this)
        have cc := Lib.hid (fun v => kind_put n (hin.out).1 (hin.out).2 v)
        obtain ⟨q, hq⟩ : ∃ q, putP (.kind n) = q := ⟨_, rfl⟩
        have cc' : Hid (∀ v, Calls Tryz.prog 95 #[.int .i64 n] v fun e v' => e = .returned (.string ⟨q.toArray⟩) ∧ Below v.heap.size v v') := Lib.hid (by rw [← hq]; exact cc.out)
        rw [hq] at hts hpl1
        clear hp hq cc
        go_wp2_with fail
        refine (cc'.out _).mono ?_
        rintro r u ⟨rfl, hu⟩
        have hK2 := Lib.hid (hK.out.past hu)
        clear hu
        go_wp2_with fail
        refine (hK2.out.write q (by omega)).mono ?_
        rintro r u2 ⟨rfl, hu2⟩
        have hK3 := Lib.hid hu2
        clear hu2
        go_wp2_with fail
        go_roundw
        case rel => exact ⟨k + 1, by omega, by go_num, acc ++ q, Lib.hid (by rw [hts.out, hacc.out]), by rw [List.length_append, Nat.add_mul]; omega, hK3⟩
        case measure => simp [intOf]; omega
      | id n =>
        rw [hp] at hc hts hpl1
        simp only [Pt.enc] at hc
        have hin : Hid (i64 n) := Lib.hid (by have := hpi.out _ (List.getElem_mem hlt); rw [hp] at this; exact this)
        have cc := Lib.hid (fun v => id_put n (hin.out).1 (hin.out).2 v)
        obtain ⟨q, hq⟩ : ∃ q, putP (.id n) = q := ⟨_, rfl⟩
        have cc' : Hid (∀ v, Calls Tryz.prog 125 #[.int .i64 n] v fun e v' => e = .returned (.string ⟨q.toArray⟩) ∧ Below v.heap.size v v') := Lib.hid (by rw [← hq]; exact cc.out)
        rw [hq] at hts hpl1
        clear hp hq cc
        go_wp2_with fail
        refine (cc'.out _).mono ?_
        rintro r u ⟨rfl, hu⟩
        have hK2 := Lib.hid (hK.out.past hu)
        clear hu
        go_wp2_with fail
        refine (hK2.out.write q (by omega)).mono ?_
        rintro r u2 ⟨rfl, hu2⟩
        have hK3 := Lib.hid hu2
        clear hu2
        go_wp2_with fail
        go_roundw
        case rel => exact ⟨k + 1, by omega, by go_num, acc ++ q, Lib.hid (by rw [hts.out, hacc.out]), by rw [List.length_append, Nat.add_mul]; omega, hK3⟩
        case measure => simp [intOf]; omega
      | label t =>
        rw [hp] at hc hts hpl1
        simp only [Pt.enc] at hc
        have hsz : Hid ((⟨t.toArray⟩ : ByteArray).size ≤ 9223372036854775000) := Lib.hid (by have := hps.out _ (List.getElem_mem hlt); rw [hp] at this; have h2 : t.length ≤ 1099511627776 := this; rw [mk_size]; omega)
        have cc := Lib.hid (fun v => label_put ⟨t.toArray⟩ hsz.out v)
        rw [li_mk] at cc
        obtain ⟨q, hq⟩ : ∃ q, putP (.label t) = q := ⟨_, rfl⟩
        have cc' : Hid (∀ v, Calls Tryz.prog 101 #[.string ⟨t.toArray⟩] v fun e v' => e = .returned (.string ⟨q.toArray⟩) ∧ Below v.heap.size v v') := Lib.hid (by rw [← hq]; exact cc.out)
        rw [hq] at hts hpl1
        clear hp hq cc
        go_wp2_with fail
        refine (cc'.out _).mono ?_
        rintro r u ⟨rfl, hu⟩
        have hK2 := Lib.hid (hK.out.past hu)
        clear hu
        go_wp2_with fail
        refine (hK2.out.write q (by omega)).mono ?_
        rintro r u2 ⟨rfl, hu2⟩
        have hK3 := Lib.hid hu2
        clear hu2
        go_wp2_with fail
        go_roundw
        case rel => exact ⟨k + 1, by omega, by go_num, acc ++ q, Lib.hid (by rw [hts.out, hacc.out]), by rw [List.length_append, Nat.add_mul]; omega, hK3⟩
        case measure => simp [intOf]; omega
      | moment n =>
        rw [hp] at hc hts hpl1
        simp only [Pt.enc] at hc
        have hin : Hid (i64 n) := Lib.hid (by have := hpi.out _ (List.getElem_mem hlt); rw [hp] at this; exact this)
        have cc := Lib.hid (fun v => moment_put n (hin.out).1 (hin.out).2 v)
        obtain ⟨q, hq⟩ : ∃ q, putP (.moment n) = q := ⟨_, rfl⟩
        have cc' : Hid (∀ v, Calls Tryz.prog 112 #[.int .i64 n] v fun e v' => e = .returned (.string ⟨q.toArray⟩) ∧ Below v.heap.size v v') := Lib.hid (by rw [← hq]; exact cc.out)
        rw [hq] at hts hpl1
        clear hp hq cc
        go_wp2_with fail
        refine (cc'.out _).mono ?_
        rintro r u ⟨rfl, hu⟩
        have hK2 := Lib.hid (hK.out.past hu)
        clear hu
        go_wp2_with fail
        refine (hK2.out.write q (by omega)).mono ?_
        rintro r u2 ⟨rfl, hu2⟩
        have hK3 := Lib.hid hu2
        clear hu2
        go_wp2_with fail
        go_roundw
        case rel => exact ⟨k + 1, by omega, by go_num, acc ++ q, Lib.hid (by rw [hts.out, hacc.out]), by rw [List.length_append, Nat.add_mul]; omega, hK3⟩
        case measure => simp [intOf]; omega
      | added n =>
        rw [hp] at hc hts hpl1
        simp only [Pt.enc] at hc
        have hin : Hid (i64 n) := Lib.hid (by have := hpi.out _ (List.getElem_mem hlt); rw [hp] at this; exact this)
        have cc := Lib.hid (fun v => added_put n (hin.out).1 (hin.out).2 v)
        obtain ⟨q, hq⟩ : ∃ q, putP (.added n) = q := ⟨_, rfl⟩
        have cc' : Hid (∀ v, Calls Tryz.prog 108 #[.int .i64 n] v fun e v' => e = .returned (.string ⟨q.toArray⟩) ∧ Below v.heap.size v v') := Lib.hid (by rw [← hq]; exact cc.out)
        rw [hq] at hts hpl1
        clear hp hq cc
        go_wp2_with fail
        refine (cc'.out _).mono ?_
        rintro r u ⟨rfl, hu⟩
        have hK2 := Lib.hid (hK.out.past hu)
        clear hu
        go_wp2_with fail
        refine (hK2.out.write q (by omega)).mono ?_
        rintro r u2 ⟨rfl, hu2⟩
        have hK3 := Lib.hid hu2
        clear hu2
        go_wp2_with fail
        go_roundw
        case rel => exact ⟨k + 1, by omega, by go_num, acc ++ q, Lib.hid (by rw [hts.out, hacc.out]), by rw [List.length_append, Nat.add_mul]; omega, hK3⟩
        case measure => simp [intOf]; omega
      | length n =>
        rw [hp] at hc hts hpl1
        simp only [Pt.enc] at hc
        have hin : Hid (i64 n) := Lib.hid (by have := hpi.out _ (List.getElem_mem hlt); rw [hp] at this; exact this)
        have cc := Lib.hid (fun v => length_put n (hin.out).1 (hin.out).2 v)
        obtain ⟨q, hq⟩ : ∃ q, putP (.length n) = q := ⟨_, rfl⟩
        have cc' : Hid (∀ v, Calls Tryz.prog 116 #[.int .i64 n] v fun e v' => e = .returned (.string ⟨q.toArray⟩) ∧ Below v.heap.size v v') := Lib.hid (by rw [← hq]; exact cc.out)
        rw [hq] at hts hpl1
        clear hp hq cc
        go_wp2_with fail
        refine (cc'.out _).mono ?_
        rintro r u ⟨rfl, hu⟩
        have hK2 := Lib.hid (hK.out.past hu)
        clear hu
        go_wp2_with fail
        refine (hK2.out.write q (by omega)).mono ?_
        rintro r u2 ⟨rfl, hu2⟩
        have hK3 := Lib.hid hu2
        clear hu2
        go_wp2_with fail
        go_roundw
        case rel => exact ⟨k + 1, by omega, by go_num, acc ++ q, Lib.hid (by rw [hts.out, hacc.out]), by rw [List.length_append, Nat.add_mul]; omega, hK3⟩
        case measure => simp [intOf]; omega
      | sum d =>
        rw [hp] at hc hts hpl1
        simp only [Pt.enc] at hc
        have hd : Hid (d.length = 32) := Lib.hid (by have := hpf.out _ (List.getElem_mem hlt); rw [hp] at this; exact this)
        have cc := Lib.hid (fun v => sum_put d hd.out v)
        obtain ⟨q, hq⟩ : ∃ q, putP (.sum d) = q := ⟨_, rfl⟩
        have cc' : Hid (∀ v, Calls Tryz.prog 120 #[.agg (row d)] v fun e v' => e = .returned (.string ⟨q.toArray⟩) ∧ Below v.heap.size v v') := Lib.hid (by rw [← hq]; exact cc.out)
        rw [hq] at hts hpl1
        clear hp hq cc
        go_wp2_with fail
        refine (cc'.out _).mono ?_
        rintro r u ⟨rfl, hu⟩
        have hK2 := Lib.hid (hK.out.past hu)
        clear hu
        go_wp2_with fail
        refine (hK2.out.write q (by omega)).mono ?_
        rintro r u2 ⟨rfl, hu2⟩
        have hK3 := Lib.hid hu2
        clear hu2
        go_wp2_with fail
        go_roundw
        case rel => exact ⟨k + 1, by omega, by go_num, acc ++ q, Lib.hid (by rw [hts.out, hacc.out]), by rw [List.length_append, Nat.add_mul]; omega, hK3⟩
        case measure => simp [intOf]; omega
    · obtain rfl : k = l.length := by omega
      have hb : ¬ (l.length : Int) < (l.length : Int) := by omega
      have hacc' : Hid (acc = putL l) := Lib.hid (by have := hacc.out; rwa [List.take_length] at this)
      clear hacc
      go_wp2_with fail
      refine hK.out.told.mono ?_
      rintro r u ⟨rfl, hu⟩
      go_wp2_with fail
      go_ret2
      exact ⟨by rw [hacc'.out]; rfl, hu.kw.bel⟩

set_option maxRecDepth 100000 in
set_option maxHeartbeats 1000000 in
theorem eput_false (e : Ev) (hw : e.wf) (hn : e.name.length ≤ 1099511627776) (hv : okP e = false) (w : World) :
    Calls Tryz.prog 21 #[.agg (evr e)] w fun r w' => r = .returned (.tuple #[.string ⟨#[]⟩, .bool false]) ∧ Below w.heap.size w w' := by
  have hs := hw.s
  have hi : Hid ((Tryz.prog.info? 34).map (·.size) = some (evr e).size) := Lib.hid (by rw [evr_size, hs]; exact info41)
  have hK0 : Hid (KW w.heap.size w [(w.heap.size, .cells (evr e) 34)] (w.alloc (.cells (evr e) 34))) := Lib.hid ((KW.start w).new _)
  have cv := Lib.hid (fun v => evalid_any e hs hn v)
  rw [hv] at cv
  clear hs hn hv hw
  go_enter Tryz.func21, Tryz.ntmps21
  go_wp2_with (with_reducible refine wpList_load_row rfl 34 (.tmp 1) rfl _ rfl 34 (evr e) _ (hK0.out.at 0 rfl) Tryz.underlying34 rfl hi.out ?_)
  refine (cv.out _).mono ?_
  rintro r v0 ⟨rfl, hB0⟩
  have hK1 := Lib.hid (hK0.out.past hB0)
  clear hB0 hK0
  go_wp2_with fail
  go_ret2
  exact ⟨rfl, hK1.out.bel⟩
end Go.Proofs.YtfilolmbppjbjaaGreat
