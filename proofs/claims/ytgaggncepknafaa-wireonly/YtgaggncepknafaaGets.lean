/-
  What number, GetNum, Text, text and GetText of the program return.
-/
import Derived.Test.YtgaggncepknafaaSeeming
import Derived.StillTailTactics
namespace Go.Proofs.Ytgaggncepknafaa
open Go.RowKit

def mk (l : List UInt8) : ByteArray := ⟨l.toArray⟩
theorem li_mk' (l : List UInt8) : li (mk l) = l := li_mk l
theorem mk_li' (s : ByteArray) : mk (li s) = s := mk_li s
/-- What number tells. -/
def nV (l : List UInt8) : Value := match gn l with
  | some (n, r) => rn (n : Int) (mk r) true
  | none => rn 0 em false
theorem nV_some {l r : List UInt8} {n : Nat} (h : gn l = some (n, r)) : nV l = rn (n : Int) (mk r) true := by unfold nV; rw [h]
theorem nV_none {l : List UInt8} (h : gn l = none) : nV l = rn 0 em false := by unfold nV; rw [h]
theorem seem_lt (f : Nat) (l : List UInt8) : seem f l < 128 ^ f := by
  induction f generalizing l with
  | zero => simp [seem]
  | succ f ih =>
    cases l with
    | nil => simp [seem]; exact Nat.pow_pos (by decide)
    | cons b l =>
      have := ih l
      rw [seem, show (128 : Nat) ^ (f + 1) = 128 ^ f * 128 from rfl]
      split <;> omega
theorem gn_miss {l : List UInt8} (h : gn l = none) : (num (cl (seem 8 l))).isPrefixOf l = false := by
  unfold gn at h
  split at h
  · cases h
  · rename_i k; exact Bool.eq_false_iff.2 k

/-- What stays of a block that a call has laid first. -/
theorem first_kept {w w2 : World} {o : Obj} (h2 : Below (w.alloc o).heap.size (w.alloc o) w2) : w2.heap[w.heap.size]? = some o := by
  rw [h2.block _ (by simp), heap_alloc_if, if_pos rfl]
theorem first_below {w w2 : World} {o : Obj} (h2 : Below (w.alloc o).heap.size (w.alloc o) w2) : Below w.heap.size w w2 :=
  ((Below.refl _ _).alloc (Nat.le_refl _) o).trans (h2.mono (by simp))
theorem below_on {w v v' : World} (h : Below w.heap.size w v) (k : Below v.heap.size v v') : Below w.heap.size w v' := h.trans (k.mono h.size)
def rn0 : Array Value := #[.int .i64 0, .string ⟨#[]⟩, .bool false]
theorem rn0_eq : #[Value.int .i64 0, .string ⟨#[]⟩, .bool false] = rn0 := rfl
theorem info46 : (Try.prog.info? 46).map (·.size) = some 3 := by kernel_rfl
theorem info46' (x y z : Value) : (Try.prog.info? 46).map (·.size) = some (#[x, y, z] : Array Value).size := info46
theorem three (a b c x y z : Value) : (#[a, b, c] : Array Value).size = (#[x, y, z] : Array Value).size := rfl
theorem one3n (m : Int) (r : ByteArray) (b : Bool) : (#[.int .i64 m, .string r, .bool b] : Array Value).all (·.oneCell') = true := by simp [Value.oneCell']
theorem one3t (t : ByteArray) (r : ByteArray) (b : Bool) : (#[.string t, .string r, .bool b] : Array Value).all (·.oneCell') = true := by simp [Value.oneCell']
theorem info52 : (Try.prog.info? 52).map (·.size) = some 3 := by kernel_rfl
theorem info52' (x y z : Value) : (Try.prog.info? 52).map (·.size) = some (#[x, y, z] : Array Value).size := info52

set_option maxHeartbeats 400000 in
theorem number_any (s : ByteArray) (hs : s.size ≤ 9223372036854775807) (w : World) :
    Calls Try.prog 28 #[.string s] w fun e w' => e = .returned (nV (li s)) ∧ Below w.heap.size w w' := by
  have hlt : seem 8 (li s) < 72057594037927936 := seem_lt 8 _
  have c1 := Lib.hid (fun v => seeming_any s hs v)
  have c2 := Lib.hid (fun v => num_nat (seem 8 (li s)) (by omega) v)
  have c3 : Hid (∃ (m : Int) (r : ByteArray) (b : Bool), nV (li s) = rn m r b ∧ ∀ v, Calls Try.prog 39 #[.agg #[.int .i64 (seem 8 (li s) : Int), .string s, .bool true], .string (mk (num (cl (seem 8 (li s)))))] v fun e w' => e = .returned (rn m r b) ∧ Below v.heap.size v w') := by
    cases h : gn (li s) with
    | none => exact ⟨0, em, false, nV_none h, fun v => pastn_miss _ s _ (by rw [li_mk']; exact gn_miss h) v⟩
    | some q =>
      obtain ⟨n, r⟩ := q
      obtain ⟨h1, h2⟩ := gn_some h
      have h3 := gn_seem h
      refine ⟨n, mk r, true, nV_some h, fun v => ?_⟩
      rw [h3]
      exact pastn_hit _ s _ (mk r) (by rw [li_mk', li_mk', cl_id h1]; exact h2) v
  obtain ⟨m, r, b, hV, c3⟩ := c3.out
  have hV' := Lib.hid hV
  have c3' := Lib.hid c3
  revert c1 c2 c3'
  generalize seem 8 (li s) = n at *
  intro c1 c2 c3'
  clear hV c3
  go_enter Try.func28, Try.ntmps28
  go_wp2_with fail
  refine (c1.out _).mono ?_
  rintro e w1 ⟨rfl, rfl⟩
  go_wp2_with fail
  refine (c2.out _).mono ?_
  rintro e w2 ⟨rfl, h2⟩
  have k2 := Lib.hid (first_kept h2)
  have b2 := Lib.hid (first_below h2)
  clear h2
  go_wp2_with fail
  refine (c3'.out _).mono ?_
  rintro e w3 ⟨rfl, h3⟩
  have k3 := Lib.hid ((h3.block _ (lt_of_some k2.out)).trans k2.out)
  have b3 := Lib.hid (below_on b2.out h3)
  clear h3 b2 k2
  unfold rn
  go_wp2_with (first
    | (with_reducible refine wpList_store_row rfl 46 (.tmp 2) (.tmp 11) rfl _ #[.int .i64 m, .string r, .bool b] rfl rfl 46 _ k3.out (info46' _ _ _) (three _ _ _ _ _ _) (one3n _ _ _) ?_)
    | fail)
  refine bodyPost_row 2 46 rfl w.heap.size rfl 46 #[.int .i64 m, .string r, .bool b] _ (setRow_heap _ _ _ _ _ _ k3.out) Try.underlying46 rfl info46 rfl ?_
  exact ⟨by rw [hV'.out]; rfl, below_setRow b3.out (Nat.le_refl _) _⟩

/-- What GetNum returns. -/
def nR (l : List UInt8) : Value := match gn l with
  | some (n, r) => .tuple #[.int .i64 (n : Int), .string (mk r), .bool true]
  | none => .tuple #[.int .i64 0, .string em, .bool false]
theorem nR_some {l r : List UInt8} {n : Nat} (h : gn l = some (n, r)) : nR l = .tuple #[.int .i64 (n : Int), .string (mk r), .bool true] := by unfold nR; rw [h]
theorem nR_none {l : List UInt8} (h : gn l = none) : nR l = .tuple #[.int .i64 0, .string em, .bool false] := by unfold nR; rw [h]
theorem nV_nR (l : List UInt8) : ∃ m r b, nV l = rn m r b ∧ nR l = .tuple #[.int .i64 m, .string r, .bool b] := by
  cases h : gn l with
  | none => exact ⟨_, _, _, nV_none h, nR_none h⟩
  | some q => exact ⟨_, _, _, nV_some (n := q.1) (r := q.2) h, nR_some (n := q.1) (r := q.2) h⟩

set_option maxHeartbeats 400000 in
theorem getNum_any (s : ByteArray) (hs : s.size ≤ 9223372036854775807) (w : World) :
    Calls Try.prog 12 #[.string s] w fun e w' => e = .returned (nR (li s)) ∧ Below w.heap.size w w' := by
  obtain ⟨m, r, b, h1, h2⟩ := nV_nR (li s)
  have c1 := Lib.hid (fun v => number_any s hs v)
  rw [h1] at c1
  have c2 := Lib.hid (fun v => toldn_any m r b v)
  unfold rn at c1 c2
  rw [h2]
  clear h1 h2
  go_enter Try.func12, Try.ntmps12
  go_wp2_with fail
  refine (c1.out _).mono ?_
  rintro e w1 ⟨rfl, b1⟩
  go_wp2_with fail
  refine (c2.out _).mono ?_
  rintro e w2 ⟨rfl, b2⟩
  go_wp2_with fail
  go_returns
  exact ⟨rfl, below_on b1 b2⟩

set_option maxHeartbeats 400000 in
theorem text_any (t : ByteArray) (ht : t.size ≤ 9223372036854775000) (w : World) :
    Calls Try.prog 22 #[.string t] w fun e w' => e = .returned (.string (mk (text (li t)))) ∧ Below w.heap.size w w' := by
  have c1 := Lib.hid (fun v => num_nat t.size (by omega) v)
  have hn := num_len (cl t.size)
  have he : Hid (mk (text (li t)) = mk (num (cl t.size)) ++ t) := by
    show _ = _
    apply li_inj
    rw [li_mk', li_app, li_mk']
    unfold text
    rw [li_len]
  have hz : (mk (num (cl t.size))).size ≤ 8 := by rw [size_li, li_mk']; exact hn.2
  rw [he.out]
  clear he hn
  revert c1 hz
  show Hid (∀ v : World, Calls Try.prog 14 #[.int .i64 (t.size : Int)] v fun e w' => e = .returned (.string (mk (num (cl t.size)))) ∧ Below v.heap.size v w') → _
  generalize mk (num (cl t.size)) = N
  intro c1 hz
  go_enter Try.func22, Try.ntmps22
  go_wp2_with fail
  refine (c1.out _).mono ?_
  rintro e w1 ⟨rfl, b1⟩
  go_wp2_with fail
  go_returns
  exact ⟨rfl, b1⟩

/-- What text and GetText tell. -/
def tV (l : List UInt8) (most : Int) : Value := match gt l most with
  | some (t, r) => rt (mk t) (mk r) true
  | none => rt em em false
def tR (l : List UInt8) (most : Int) : Value := match gt l most with
  | some (t, r) => .tuple #[.string (mk t), .string (mk r), .bool true]
  | none => .tuple #[.string em, .string em, .bool false]
theorem tV_some {l t r : List UInt8} {most : Int} (h : gt l most = some (t, r)) : tV l most = rt (mk t) (mk r) true := by unfold tV; rw [h]
theorem tV_none {l : List UInt8} {most : Int} (h : gt l most = none) : tV l most = rt em em false := by unfold tV; rw [h]
theorem tR_some {l t r : List UInt8} {most : Int} (h : gt l most = some (t, r)) : tR l most = .tuple #[.string (mk t), .string (mk r), .bool true] := by unfold tR; rw [h]
theorem tR_none {l : List UInt8} {most : Int} (h : gt l most = none) : tR l most = .tuple #[.string em, .string em, .bool false] := by unfold tR; rw [h]
theorem tV_tR (l : List UInt8) (most : Int) : ∃ t r b, tV l most = rt t r b ∧ tR l most = .tuple #[.string t, .string r, .bool b] := by
  cases h : gt l most with
  | none => exact ⟨_, _, _, tV_none h, tR_none h⟩
  | some q => exact ⟨_, _, _, tV_some (t := q.1) (r := q.2) h, tR_some (t := q.1) (r := q.2) h⟩
theorem gt_no {l : List UInt8} {most : Int} (h : gn l = none) : gt l most = none := by unfold gt; rw [h]
theorem gt_yes {l r : List UInt8} {n : Nat} {most : Int} (h : gn l = some (n, r)) (h1 : (n : Int) ≤ most) (h2 : n ≤ r.length) : gt l most = some (r.take n, r.drop n) := by unfold gt; rw [h]; simp only; rw [if_pos ⟨h1, h2⟩]
theorem gt_not {l r : List UInt8} {n : Nat} {most : Int} (h : gn l = some (n, r)) (h1 : ¬ ((n : Int) ≤ most ∧ n ≤ r.length)) : gt l most = none := by unfold gt; rw [h]; simp only; rw [if_neg h1]
theorem gn_rest {l r : List UInt8} {n : Nat} (h : gn l = some (n, r)) : r.length ≤ l.length := by
  rw [(gn_some h).2]; simp

theorem past_alloc {w1 : World} {o : Obj} {k : Nat} {x : Obj} (h : w1.heap[k]? = some x) : (w1.alloc o).heap[k]? = some x := by
  rw [heap_alloc_if, if_neg (by have := lt_of_some h; omega)]; exact h
set_option maxHeartbeats 1000000 in
theorem gtext_any (s : ByteArray) (hs : s.size ≤ 9223372036854775807) (most : Int) (w : World) :
    Calls Try.prog 30 #[.string s, .int .i64 most] w fun e w' => e = .returned (tV (li s) most) ∧ Below w.heap.size w w' := by
  have c1 := Lib.hid (fun v => number_any s hs v)
  cases h : gn (li s) with
  | none =>
    rw [nV_none h] at c1
    have hV := Lib.hid (tV_none (gt_no (most := most) h))
    rw [hV.out]
    unfold rn at c1
    clear h hV
    go_enter Try.func30, Try.ntmps30
    go_wp2_with fail
    refine (c1.out _).mono ?_
    rintro e w1 ⟨rfl, b1⟩
    have k1 := Lib.hid (past_alloc (o := .cells #[.int .i64 0, .string em, .bool false] 46) (first_kept b1))
    have B1 := Lib.hid (first_below b1)
    clear b1
    go_wp2_with (first
      | (with_reducible refine wpList_store_row rfl 52 (.tmp 4) (.tmp 21) rfl _ #[.string ⟨#[]⟩, .string ⟨#[]⟩, .bool false] rfl rfl 52 _ k1.out (info52' _ _ _) (three _ _ _ _ _ _) (one3t _ _ _) ?_)
      | fail)
    refine bodyPost_row 4 52 rfl w.heap.size rfl 52 #[.string ⟨#[]⟩, .string ⟨#[]⟩, .bool false] _ (setRow_heap _ _ _ _ _ _ k1.out) Try.underlying52 rfl info52 rfl ?_
    exact ⟨rfl, below_setRow (B1.out.alloc B1.out.size _) (Nat.le_refl _) _⟩
  | some q =>
    obtain ⟨n, r⟩ := q
    have hr : (mk r).size ≤ 9223372036854775807 := by
      have := gn_rest h
      rw [li_len] at this
      rw [size_li, li_mk']; omega
    have hnb : n ≤ 1125899906842624 := (gn_some h).1
    rw [nV_some h] at c1
    unfold rn at c1
    by_cases hc : (n : Int) ≤ most ∧ n ≤ r.length
    · have hV := Lib.hid (tV_some (gt_yes h hc.1 hc.2))
      have hR : Hid (tV (li s) most = rt ((mk r).extract 0 n) ((mk r).extract n (mk r).size) true) := by
        show _ = _
        rw [hV.out]
        have e1 : mk (r.take n) = (mk r).extract 0 n := li_inj (by rw [li_mk', li_ext, li_mk']; simp)
        have e2 : mk (r.drop n) = (mk r).extract n (mk r).size := li_inj (by rw [li_mk', li_ext, size_li, li_mk', List.take_of_length_le (Nat.le_refl _)])
        rw [e1, e2]
      rw [hR.out]
      have hn2 : n ≤ (mk r).size := by rw [size_li, li_mk']; exact hc.2
      have hn1 := hc.1
      revert c1 hr hn2
      generalize mk r = R
      intro c1 hr hn2
      clear h hV hR hc
      have i1 : (n : Int) ≤ (R.size : Int) := by omega
      by_cases hm : most ≤ (R.size : Int)
      · have t1 : decide ((R.size : Int) < most) = false := by simp; omega
        have t2 : decide (most < (n : Int)) = false := by simp; omega
        go_enter Try.func30, Try.ntmps30
        go_wp2_with fail
        refine (c1.out _).mono ?_
        rintro e w1 ⟨rfl, b1⟩
        have k1 := Lib.hid (past_alloc (o := .cells #[.int .i64 (n : Int), .string R, .bool true] 46) (first_kept b1))
        have B1 := Lib.hid (first_below b1)
        clear b1
        go_wp2_with fail
        have q0 : (w1.alloc (.cells #[.int .i64 (n : Int), .string R, .bool true] 46)).cell? ⟨w1.heap.size, 0, none⟩ = some (.int .i64 (n : Int)) := World.cell?_alloc_at _ _ _ _ rfl
        have q1 : (w1.alloc (.cells #[.int .i64 (n : Int), .string R, .bool true] 46)).cell? ⟨w1.heap.size, 1, none⟩ = some (.string R) := World.cell?_alloc_at _ _ _ _ rfl
        have BW := Lib.hid (B1.out.alloc B1.out.size (.cells #[.int .i64 (n : Int), .string R, .bool true] 46))
        revert k1 q0 q1 BW
        generalize w1.alloc (.cells #[.int .i64 (n : Int), .string R, .bool true] 46) = W
        intro k1 q0 q1 BW
        go_still_tail 11, (by kernel_rfl)
        change wpList _ _ _ _ _ W.drew
        go_wp2_with (first
          | (with_reducible refine wpList_store_row rfl 52 (.tmp 4) (.tmp 32) rfl _ #[.string (R.extract 0 n), .string (R.extract n R.size), .bool true] rfl rfl 52 _ k1.out (info52' _ _ _) (three _ _ _ _ _ _) (one3t _ _ _) ?_)
          | fail)
        refine bodyPost_row 4 52 rfl w.heap.size rfl 52 #[.string (R.extract 0 n), .string (R.extract n R.size), .bool true] _ (setRow_heap _ _ _ _ _ _ k1.out) Try.underlying52 rfl info52 rfl ?_
        exact ⟨rfl, below_setRow BW.out.drew (Nat.le_refl _) _⟩
      · have t1 : decide ((R.size : Int) < most) = true := by simp; omega
        have t2 : ¬ R.size < n := by omega
        go_enter Try.func30, Try.ntmps30
        go_wp2_with fail
        refine (c1.out _).mono ?_
        rintro e w1 ⟨rfl, b1⟩
        have k1 := Lib.hid (past_alloc (o := .cells #[.int .i64 (n : Int), .string R, .bool true] 46) (first_kept b1))
        have B1 := Lib.hid (first_below b1)
        clear b1
        go_wp2_with fail
        have q0 : (w1.alloc (.cells #[.int .i64 (n : Int), .string R, .bool true] 46)).cell? ⟨w1.heap.size, 0, none⟩ = some (.int .i64 (n : Int)) := World.cell?_alloc_at _ _ _ _ rfl
        have q1 : (w1.alloc (.cells #[.int .i64 (n : Int), .string R, .bool true] 46)).cell? ⟨w1.heap.size, 1, none⟩ = some (.string R) := World.cell?_alloc_at _ _ _ _ rfl
        have BW := Lib.hid (B1.out.alloc B1.out.size (.cells #[.int .i64 (n : Int), .string R, .bool true] 46))
        revert k1 q0 q1 BW
        generalize w1.alloc (.cells #[.int .i64 (n : Int), .string R, .bool true] 46) = W
        intro k1 q0 q1 BW
        go_still_tail 11, (by kernel_rfl)
        change wpList _ _ _ _ _ W.drew
        go_wp2_with (first
          | (with_reducible refine wpList_store_row rfl 52 (.tmp 4) (.tmp 32) rfl _ #[.string (R.extract 0 n), .string (R.extract n R.size), .bool true] rfl rfl 52 _ k1.out (info52' _ _ _) (three _ _ _ _ _ _) (one3t _ _ _) ?_)
          | fail)
        refine bodyPost_row 4 52 rfl w.heap.size rfl 52 #[.string (R.extract 0 n), .string (R.extract n R.size), .bool true] _ (setRow_heap _ _ _ _ _ _ k1.out) Try.underlying52 rfl info52 rfl ?_
        exact ⟨rfl, below_setRow BW.out.drew (Nat.le_refl _) _⟩
    · have hV := Lib.hid (tV_none (gt_not h hc))
      rw [hV.out]
      have hc' : ¬ ((n : Int) ≤ most ∧ n ≤ (mk r).size) := by rw [size_li, li_mk']; exact hc
      revert c1 hr hc'
      generalize mk r = R
      intro c1 hr hc'
      clear h hV hc
      by_cases hm : most ≤ (R.size : Int)
      · have t1 : decide ((R.size : Int) < most) = false := by simp; omega
        have t2 : decide (most < (n : Int)) = true := by simp; omega
        clear hc'
        go_enter Try.func30, Try.ntmps30
        go_wp2_with fail
        refine (c1.out _).mono ?_
        rintro e w1 ⟨rfl, b1⟩
        have k1 := Lib.hid (past_alloc (o := .cells #[.int .i64 (n : Int), .string R, .bool true] 46) (first_kept b1))
        have B1 := Lib.hid (first_below b1)
        clear b1
        go_wp2_with (first
          | (with_reducible refine wpList_store_row rfl 52 (.tmp 4) (.tmp 21) rfl _ #[.string ⟨#[]⟩, .string ⟨#[]⟩, .bool false] rfl rfl 52 _ k1.out (info52' _ _ _) (three _ _ _ _ _ _) (one3t _ _ _) ?_)
          | fail)
        refine bodyPost_row 4 52 rfl w.heap.size rfl 52 #[.string ⟨#[]⟩, .string ⟨#[]⟩, .bool false] _ (setRow_heap _ _ _ _ _ _ k1.out) Try.underlying52 rfl info52 rfl ?_
        exact ⟨rfl, below_setRow (B1.out.alloc B1.out.size _) (Nat.le_refl _) _⟩
      · have t1 : decide ((R.size : Int) < most) = true := by simp; omega
        have t2 : R.size < n := by omega
        clear hc'
        go_enter Try.func30, Try.ntmps30
        go_wp2_with fail
        refine (c1.out _).mono ?_
        rintro e w1 ⟨rfl, b1⟩
        have k1 := Lib.hid (past_alloc (o := .cells #[.int .i64 (n : Int), .string R, .bool true] 46) (first_kept b1))
        have B1 := Lib.hid (first_below b1)
        clear b1
        go_wp2_with (first
          | (with_reducible refine wpList_store_row rfl 52 (.tmp 4) (.tmp 21) rfl _ #[.string ⟨#[]⟩, .string ⟨#[]⟩, .bool false] rfl rfl 52 _ k1.out (info52' _ _ _) (three _ _ _ _ _ _) (one3t _ _ _) ?_)
          | fail)
        refine bodyPost_row 4 52 rfl w.heap.size rfl 52 #[.string ⟨#[]⟩, .string ⟨#[]⟩, .bool false] _ (setRow_heap _ _ _ _ _ _ k1.out) Try.underlying52 rfl info52 rfl ?_
        exact ⟨rfl, below_setRow (B1.out.alloc B1.out.size _) (Nat.le_refl _) _⟩
end Go.Proofs.Ytgaggncepknafaa
