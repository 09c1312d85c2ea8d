/-
  What Rune and digit of the reference return.
-/
import Derived.Test.YtfilolmbppjbjaaGreatGname
namespace Go.Proofs.YtfilolmbppjbjaaGreat.nm
open Go.RowKit

/-- The reference's word for a place: -1 of a broken byte. -/
def rv (p : Nat) : Int := if 1114112 ≤ p then -1 else (p : Int)
def runeR (l : List UInt8) : Ending := .returned (.tuple #[.int .i64 (rv (dec l).1), .int .i64 ((dec l).2 : Nat)])
theorem runeR_broken {l : List UInt8} {x : Nat} (h : dec l = (1114112 + x, 1)) : runeR l = .returned (.tuple #[.int .i64 (-1), .int .i64 1]) := by
  unfold runeR rv; rw [h]; simp only; rw [if_pos (by omega)]; rfl
theorem runeR_rune {l : List UInt8} {v n : Nat} (h : dec l = (v, n)) (k : v < 1114112) : runeR l = .returned (.tuple #[.int .i64 (v : Int), .int .i64 (n : Int)]) := by
  unfold runeR rv; rw [h]; simp only; rw [if_neg (by omega)]

set_option maxHeartbeats 400000 in
set_option maxRecDepth 100000 in
theorem rune_low (s : ByteArray) (h0 : 0 < s.size) (a : UInt8) (ha : s[0]'h0 = a) (w : World) (h : a.toNat < 128) (hd : dec (li s) = (a.toNat, 1)) :
    Calls Tryz.prog 76 #[.string s] w fun e w' => e = runeR (li s) ∧ w = w' := by
  have e := Lib.hid (runeR_rune hd (by omega))
  have t1 : decide ((a.toNat : Int) < 128) = true := by simp; omega
  have za := a.toNat_lt
  clear hd h
  go_enter Tryz.func76, Tryz.ntmps76
  go_wp2_with fail
  go_ret2
  exact ⟨by rw [e.out]; rfl, rfl⟩

set_option maxHeartbeats 400000 in
set_option maxRecDepth 100000 in
theorem rune_none (s : ByteArray) (h0 : 0 < s.size) (a : UInt8) (ha : s[0]'h0 = a) (w : World) (h : 128 ≤ a.toNat) (h2 : a.toNat < 194 ∨ 245 ≤ a.toNat) (hd : dec (li s) = (1114112 + a.toNat, 1)) :
    Calls Tryz.prog 76 #[.string s] w fun e w' => e = runeR (li s) ∧ w = w' := by
  have e := Lib.hid (runeR_broken hd)
  have za := a.toNat_lt
  have t1 : decide ((a.toNat : Int) < 128) = false := by simp; omega
  rcases h2 with h2 | h2
  · have t2 : decide ((194 : Int) ≤ (a.toNat : Int)) = false := by simp; omega
    have t3 : decide ((224 : Int) ≤ (a.toNat : Int)) = false := by simp; omega
    have t4 : decide ((240 : Int) ≤ (a.toNat : Int)) = false := by simp; omega
    clear hd h h2
    go_enter Tryz.func76, Tryz.ntmps76
    go_wp2_with fail
    go_ret2
    exact ⟨by rw [e.out]; rfl, rfl⟩
  · have t2 : decide ((194 : Int) ≤ (a.toNat : Int)) = true := by simp; omega
    have t2' : decide ((a.toNat : Int) < 224) = false := by simp; omega
    have t3 : decide ((224 : Int) ≤ (a.toNat : Int)) = true := by simp; omega
    have t3' : decide ((a.toNat : Int) < 240) = false := by simp; omega
    have t4 : decide ((240 : Int) ≤ (a.toNat : Int)) = true := by simp; omega
    have t4' : decide ((a.toNat : Int) < 245) = false := by simp; omega
    clear hd h h2
    go_enter Tryz.func76, Tryz.ntmps76
    go_wp2_with fail
    go_ret2
    exact ⟨by rw [e.out]; rfl, rfl⟩

set_option maxHeartbeats 400000 in
set_option maxRecDepth 100000 in
theorem rune2_short (s : ByteArray) (h0 : 0 < s.size) (a : UInt8) (ha : s[0]'h0 = a) (w : World) (h : 194 ≤ a.toNat) (h2 : a.toNat < 224) (hs : s.size < 2) (hd : dec (li s) = (1114112 + a.toNat, 1)) :
    Calls Tryz.prog 76 #[.string s] w fun e w' => e = runeR (li s) ∧ w = w' := by
  have e := Lib.hid (runeR_broken hd)
  have za := a.toNat_lt
  have t1 : decide ((a.toNat : Int) < 128) = false := by simp; omega
  have t2 : decide ((194 : Int) ≤ (a.toNat : Int)) = true := by simp; omega
  have t2' : decide ((a.toNat : Int) < 224) = true := by simp; omega
  have hs2 : decide ((s.size : Int) < 2) = true := by simp; omega
  clear hd h h2 hs
  go_enter Tryz.func76, Tryz.ntmps76
  go_wp2_with fail
  go_ret2
  exact ⟨by rw [e.out]; rfl, rfl⟩

set_option maxHeartbeats 400000 in
set_option maxRecDepth 100000 in
theorem rune2_bad1 (s : ByteArray) (h0 : 1 < s.size) (a b : UInt8) (ha : s[0]'(by omega) = a) (hb : s[1]'(by omega) = b) (w : World) (h : 194 ≤ a.toNat) (h2 : a.toNat < 224)  (hb8 : b.toNat < 128 ∨ 192 ≤ b.toNat) (hd : dec (li s) = (1114112 + a.toNat, 1)) :
    Calls Tryz.prog 76 #[.string s] w fun e w' => e = runeR (li s) ∧ w = w' := by
  have e := Lib.hid (runeR_broken hd)
  have za := a.toNat_lt
  have t1 : decide ((a.toNat : Int) < 128) = false := by simp; omega
  have t2 : decide ((194 : Int) ≤ (a.toNat : Int)) = true := by simp; omega
  have t2' : decide ((a.toNat : Int) < 224) = true := by simp; omega
  have hs2 : decide ((s.size : Int) < 2) = false := by simp; omega
  have hi1 : (1 : Int) < (s.size : Int) := by omega
  have zb := b.toNat_lt
  clear hd
  rcases hb8 with hb8 | hb8
  · have u1 : decide ((b.toNat : Int) < 128) = true := by simp; omega
    clear hb8
    go_enter Tryz.func76, Tryz.ntmps76
    go_wp2_with fail
    refine wp_loop_rounds 1 ?_
    rw [rounds_succ]
    go_wp2_with fail
    go_ret2
    exact ⟨by rw [e.out]; rfl, rfl⟩
  · have u1 : decide ((b.toNat : Int) < 128) = false := by simp; omega
    have u2 : decide ((191 : Int) < (b.toNat : Int)) = true := by simp; omega
    clear hb8
    go_enter Tryz.func76, Tryz.ntmps76
    go_wp2_with fail
    refine wp_loop_rounds 1 ?_
    rw [rounds_succ]
    go_wp2_with fail
    go_ret2
    exact ⟨by rw [e.out]; rfl, rfl⟩

set_option maxHeartbeats 400000 in
set_option maxRecDepth 100000 in
theorem rune2_ok (s : ByteArray) (h0 : 1 < s.size) (a b : UInt8) (ha : s[0]'(by omega) = a) (hb : s[1]'(by omega) = b) (w : World) (h : 194 ≤ a.toNat) (h2 : a.toNat < 224) (pb : 128 ≤ b.toNat) (qb : b.toNat < 192)  (hd : dec (li s) = ((a.toNat - 192) * 64 + (b.toNat - 128), 2)) :
    Calls Tryz.prog 76 #[.string s] w fun e w' => e = runeR (li s) ∧ w = w' := by
  have e := Lib.hid (runeR_rune hd (by omega))
  have za := a.toNat_lt
  have t1 : decide ((a.toNat : Int) < 128) = false := by simp; omega
  have t2 : decide ((194 : Int) ≤ (a.toNat : Int)) = true := by simp; omega
  have t2' : decide ((a.toNat : Int) < 224) = true := by simp; omega
  have hs2 : decide ((s.size : Int) < 2) = false := by simp; omega
  have hi1 : (1 : Int) < (s.size : Int) := by omega
  have ub : decide ((b.toNat : Int) < 128) = false := by simp; omega
  have vb : decide ((191 : Int) < (b.toNat : Int)) = false := by simp; omega
  have y1 : decide ((((a.toNat : Int) - 192) * 64 + (b.toNat : Int) - 128) < 128) = false := by simp; omega
  have y2 : decide ((1114111 : Int) < (((a.toNat : Int) - 192) * 64 + (b.toNat : Int) - 128)) = false := by simp; omega
  have y3 : decide ((55296 : Int) ≤ (((a.toNat : Int) - 192) * 64 + (b.toNat : Int) - 128)) = false := by simp; omega
  clear hd
  go_enter Tryz.func76, Tryz.ntmps76
  go_wp2_with fail
  refine wp_loop_rounds 2 ?_
  rw [rounds_succ]
  go_wp2_with fail
  rw [rounds_succ]
  go_wp2_with fail
  go_ret2
  refine ⟨?_, rfl⟩
  rw [e.out]
  exact congrArg (fun x => Ending.returned (Value.tuple #[Value.int .i64 x, Value.int .i64 2])) (by omega)

set_option maxHeartbeats 400000 in
set_option maxRecDepth 100000 in
theorem rune3_short (s : ByteArray) (h0 : 0 < s.size) (a : UInt8) (ha : s[0]'h0 = a) (w : World) (h : 224 ≤ a.toNat) (h2 : a.toNat < 240) (hs : s.size < 3) (hd : dec (li s) = (1114112 + a.toNat, 1)) :
    Calls Tryz.prog 76 #[.string s] w fun e w' => e = runeR (li s) ∧ w = w' := by
  have e := Lib.hid (runeR_broken hd)
  have za := a.toNat_lt
  have t1 : decide ((a.toNat : Int) < 128) = false := by simp; omega
  have t2 : decide ((194 : Int) ≤ (a.toNat : Int)) = true := by simp; omega
  have t2' : decide ((a.toNat : Int) < 224) = false := by simp; omega
  have t3 : decide ((224 : Int) ≤ (a.toNat : Int)) = true := by simp; omega
  have t3' : decide ((a.toNat : Int) < 240) = true := by simp; omega
  have hs2 : decide ((s.size : Int) < 3) = true := by simp; omega
  clear hd h h2 hs
  go_enter Tryz.func76, Tryz.ntmps76
  go_wp2_with fail
  go_ret2
  exact ⟨by rw [e.out]; rfl, rfl⟩

set_option maxHeartbeats 400000 in
set_option maxRecDepth 100000 in
theorem rune3_bad1 (s : ByteArray) (h0 : 2 < s.size) (a b : UInt8) (ha : s[0]'(by omega) = a) (hb : s[1]'(by omega) = b) (w : World) (h : 224 ≤ a.toNat) (h2 : a.toNat < 240)  (hb8 : b.toNat < 128 ∨ 192 ≤ b.toNat) (hd : dec (li s) = (1114112 + a.toNat, 1)) :
    Calls Tryz.prog 76 #[.string s] w fun e w' => e = runeR (li s) ∧ w = w' := by
  have e := Lib.hid (runeR_broken hd)
  have za := a.toNat_lt
  have t1 : decide ((a.toNat : Int) < 128) = false := by simp; omega
  have t2 : decide ((194 : Int) ≤ (a.toNat : Int)) = true := by simp; omega
  have t2' : decide ((a.toNat : Int) < 224) = false := by simp; omega
  have t3 : decide ((224 : Int) ≤ (a.toNat : Int)) = true := by simp; omega
  have t3' : decide ((a.toNat : Int) < 240) = true := by simp; omega
  have hs2 : decide ((s.size : Int) < 3) = false := by simp; omega
  have hi1 : (1 : Int) < (s.size : Int) := by omega
  have zb := b.toNat_lt
  clear hd
  rcases hb8 with hb8 | hb8
  · have u1 : decide ((b.toNat : Int) < 128) = true := by simp; omega
    clear hb8
    go_enter Tryz.func76, Tryz.ntmps76
    go_wp2_with fail
    refine wp_loop_rounds 1 ?_
    rw [rounds_succ]
    go_wp2_with fail
    go_ret2
    exact ⟨by rw [e.out]; rfl, rfl⟩
  · have u1 : decide ((b.toNat : Int) < 128) = false := by simp; omega
    have u2 : decide ((191 : Int) < (b.toNat : Int)) = true := by simp; omega
    clear hb8
    go_enter Tryz.func76, Tryz.ntmps76
    go_wp2_with fail
    refine wp_loop_rounds 1 ?_
    rw [rounds_succ]
    go_wp2_with fail
    go_ret2
    exact ⟨by rw [e.out]; rfl, rfl⟩

set_option maxHeartbeats 400000 in
set_option maxRecDepth 100000 in
theorem rune3_bad2 (s : ByteArray) (h0 : 2 < s.size) (a b c : UInt8) (ha : s[0]'(by omega) = a) (hb : s[1]'(by omega) = b) (hc : s[2]'(by omega) = c) (w : World) (h : 224 ≤ a.toNat) (h2 : a.toNat < 240) (pb : 128 ≤ b.toNat) (qb : b.toNat < 192) (hb8 : c.toNat < 128 ∨ 192 ≤ c.toNat) (hd : dec (li s) = (1114112 + a.toNat, 1)) :
    Calls Tryz.prog 76 #[.string s] w fun e w' => e = runeR (li s) ∧ w = w' := by
  have e := Lib.hid (runeR_broken hd)
  have za := a.toNat_lt
  have t1 : decide ((a.toNat : Int) < 128) = false := by simp; omega
  have t2 : decide ((194 : Int) ≤ (a.toNat : Int)) = true := by simp; omega
  have t2' : decide ((a.toNat : Int) < 224) = false := by simp; omega
  have t3 : decide ((224 : Int) ≤ (a.toNat : Int)) = true := by simp; omega
  have t3' : decide ((a.toNat : Int) < 240) = true := by simp; omega
  have hs2 : decide ((s.size : Int) < 3) = false := by simp; omega
  have hi1 : (1 : Int) < (s.size : Int) := by omega
  have hi2 : (2 : Int) < (s.size : Int) := by omega
  have ub : decide ((b.toNat : Int) < 128) = false := by simp; omega
  have vb : decide ((191 : Int) < (b.toNat : Int)) = false := by simp; omega
  have zb := b.toNat_lt
  have zc := c.toNat_lt
  clear hd
  rcases hb8 with hb8 | hb8
  · have u1 : decide ((c.toNat : Int) < 128) = true := by simp; omega
    clear hb8
    go_enter Tryz.func76, Tryz.ntmps76
    go_wp2_with fail
    refine wp_loop_rounds 2 ?_
    rw [rounds_succ]
    go_wp2_with fail
    rw [rounds_succ]
    go_wp2_with fail
    go_ret2
    exact ⟨by rw [e.out]; rfl, rfl⟩
  · have u1 : decide ((c.toNat : Int) < 128) = false := by simp; omega
    have u2 : decide ((191 : Int) < (c.toNat : Int)) = true := by simp; omega
    clear hb8
    go_enter Tryz.func76, Tryz.ntmps76
    go_wp2_with fail
    refine wp_loop_rounds 2 ?_
    rw [rounds_succ]
    go_wp2_with fail
    rw [rounds_succ]
    go_wp2_with fail
    go_ret2
    exact ⟨by rw [e.out]; rfl, rfl⟩

set_option maxHeartbeats 400000 in
set_option maxRecDepth 100000 in
theorem rune3_low (s : ByteArray) (h0 : 2 < s.size) (a b c : UInt8) (ha : s[0]'(by omega) = a) (hb : s[1]'(by omega) = b) (hc : s[2]'(by omega) = c) (w : World) (h : 224 ≤ a.toNat) (h2 : a.toNat < 240) (pb : 128 ≤ b.toNat) (qb : b.toNat < 192) (pc : 128 ≤ c.toNat) (qc : c.toNat < 192) (g : (a.toNat - 224) * 4096 + (b.toNat - 128) * 64 + (c.toNat - 128) < 2048) (hd : dec (li s) = (1114112 + a.toNat, 1)) :
    Calls Tryz.prog 76 #[.string s] w fun e w' => e = runeR (li s) ∧ w = w' := by
  have e := Lib.hid (runeR_broken hd)
  have za := a.toNat_lt
  have t1 : decide ((a.toNat : Int) < 128) = false := by simp; omega
  have t2 : decide ((194 : Int) ≤ (a.toNat : Int)) = true := by simp; omega
  have t2' : decide ((a.toNat : Int) < 224) = false := by simp; omega
  have t3 : decide ((224 : Int) ≤ (a.toNat : Int)) = true := by simp; omega
  have t3' : decide ((a.toNat : Int) < 240) = true := by simp; omega
  have hs2 : decide ((s.size : Int) < 3) = false := by simp; omega
  have hi1 : (1 : Int) < (s.size : Int) := by omega
  have hi2 : (2 : Int) < (s.size : Int) := by omega
  have ub : decide ((b.toNat : Int) < 128) = false := by simp; omega
  have vb : decide ((191 : Int) < (b.toNat : Int)) = false := by simp; omega
  have uc : decide ((c.toNat : Int) < 128) = false := by simp; omega
  have vc : decide ((191 : Int) < (c.toNat : Int)) = false := by simp; omega
  have y1 : decide (((((a.toNat : Int) - 224) * 64 + (b.toNat : Int) - 128) * 64 + (c.toNat : Int) - 128) < 2048) = true := by simp; omega
  clear hd
  go_enter Tryz.func76, Tryz.ntmps76
  go_wp2_with fail
  refine wp_loop_rounds 3 ?_
  rw [rounds_succ]
  go_wp2_with fail
  rw [rounds_succ]
  go_wp2_with fail
  rw [rounds_succ]
  go_wp2_with fail
  go_ret2
  exact ⟨by rw [e.out]; rfl, rfl⟩

set_option maxHeartbeats 400000 in
set_option maxRecDepth 100000 in
theorem rune3_half (s : ByteArray) (h0 : 2 < s.size) (a b c : UInt8) (ha : s[0]'(by omega) = a) (hb : s[1]'(by omega) = b) (hc : s[2]'(by omega) = c) (w : World) (h : 224 ≤ a.toNat) (h2 : a.toNat < 240) (pb : 128 ≤ b.toNat) (qb : b.toNat < 192) (pc : 128 ≤ c.toNat) (qc : c.toNat < 192) (g1 : 55296 ≤ (a.toNat - 224) * 4096 + (b.toNat - 128) * 64 + (c.toNat - 128)) (g2 : (a.toNat - 224) * 4096 + (b.toNat - 128) * 64 + (c.toNat - 128) ≤ 57343) (hd : dec (li s) = (1114112 + a.toNat, 1)) :
    Calls Tryz.prog 76 #[.string s] w fun e w' => e = runeR (li s) ∧ w = w' := by
  have e := Lib.hid (runeR_broken hd)
  have za := a.toNat_lt
  have t1 : decide ((a.toNat : Int) < 128) = false := by simp; omega
  have t2 : decide ((194 : Int) ≤ (a.toNat : Int)) = true := by simp; omega
  have t2' : decide ((a.toNat : Int) < 224) = false := by simp; omega
  have t3 : decide ((224 : Int) ≤ (a.toNat : Int)) = true := by simp; omega
  have t3' : decide ((a.toNat : Int) < 240) = true := by simp; omega
  have hs2 : decide ((s.size : Int) < 3) = false := by simp; omega
  have hi1 : (1 : Int) < (s.size : Int) := by omega
  have hi2 : (2 : Int) < (s.size : Int) := by omega
  have ub : decide ((b.toNat : Int) < 128) = false := by simp; omega
  have vb : decide ((191 : Int) < (b.toNat : Int)) = false := by simp; omega
  have uc : decide ((c.toNat : Int) < 128) = false := by simp; omega
  have vc : decide ((191 : Int) < (c.toNat : Int)) = false := by simp; omega
  have y1 : decide (((((a.toNat : Int) - 224) * 64 + (b.toNat : Int) - 128) * 64 + (c.toNat : Int) - 128) < 2048) = false := by simp; omega
  have y2 : decide ((1114111 : Int) < ((((a.toNat : Int) - 224) * 64 + (b.toNat : Int) - 128) * 64 + (c.toNat : Int) - 128)) = false := by simp; omega
  have y3 : decide ((55296 : Int) ≤ ((((a.toNat : Int) - 224) * 64 + (b.toNat : Int) - 128) * 64 + (c.toNat : Int) - 128)) = true := by simp; omega
  have y4 : decide (((((a.toNat : Int) - 224) * 64 + (b.toNat : Int) - 128) * 64 + (c.toNat : Int) - 128) ≤ 57343) = true := by simp; omega
  clear hd
  go_enter Tryz.func76, Tryz.ntmps76
  go_wp2_with fail
  refine wp_loop_rounds 3 ?_
  rw [rounds_succ]
  go_wp2_with fail
  rw [rounds_succ]
  go_wp2_with fail
  rw [rounds_succ]
  go_wp2_with fail
  go_ret2
  exact ⟨by rw [e.out]; rfl, rfl⟩

set_option maxHeartbeats 400000 in
set_option maxRecDepth 100000 in
theorem rune3_ok1 (s : ByteArray) (h0 : 2 < s.size) (a b c : UInt8) (ha : s[0]'(by omega) = a) (hb : s[1]'(by omega) = b) (hc : s[2]'(by omega) = c) (w : World) (h : 224 ≤ a.toNat) (h2 : a.toNat < 240) (pb : 128 ≤ b.toNat) (qb : b.toNat < 192) (pc : 128 ≤ c.toNat) (qc : c.toNat < 192) (g : 2048 ≤ (a.toNat - 224) * 4096 + (b.toNat - 128) * 64 + (c.toNat - 128)) (g1 : (a.toNat - 224) * 4096 + (b.toNat - 128) * 64 + (c.toNat - 128) < 55296) (hd : dec (li s) = ((a.toNat - 224) * 4096 + (b.toNat - 128) * 64 + (c.toNat - 128), 3)) :
    Calls Tryz.prog 76 #[.string s] w fun e w' => e = runeR (li s) ∧ w = w' := by
  have e := Lib.hid (runeR_rune hd (by omega))
  have za := a.toNat_lt
  have t1 : decide ((a.toNat : Int) < 128) = false := by simp; omega
  have t2 : decide ((194 : Int) ≤ (a.toNat : Int)) = true := by simp; omega
  have t2' : decide ((a.toNat : Int) < 224) = false := by simp; omega
  have t3 : decide ((224 : Int) ≤ (a.toNat : Int)) = true := by simp; omega
  have t3' : decide ((a.toNat : Int) < 240) = true := by simp; omega
  have hs2 : decide ((s.size : Int) < 3) = false := by simp; omega
  have hi1 : (1 : Int) < (s.size : Int) := by omega
  have hi2 : (2 : Int) < (s.size : Int) := by omega
  have ub : decide ((b.toNat : Int) < 128) = false := by simp; omega
  have vb : decide ((191 : Int) < (b.toNat : Int)) = false := by simp; omega
  have uc : decide ((c.toNat : Int) < 128) = false := by simp; omega
  have vc : decide ((191 : Int) < (c.toNat : Int)) = false := by simp; omega
  have y1 : decide (((((a.toNat : Int) - 224) * 64 + (b.toNat : Int) - 128) * 64 + (c.toNat : Int) - 128) < 2048) = false := by simp; omega
  have y2 : decide ((1114111 : Int) < ((((a.toNat : Int) - 224) * 64 + (b.toNat : Int) - 128) * 64 + (c.toNat : Int) - 128)) = false := by simp; omega
  have y3 : decide ((55296 : Int) ≤ ((((a.toNat : Int) - 224) * 64 + (b.toNat : Int) - 128) * 64 + (c.toNat : Int) - 128)) = false := by simp; omega
  clear hd
  go_enter Tryz.func76, Tryz.ntmps76
  go_wp2_with fail
  refine wp_loop_rounds 3 ?_
  rw [rounds_succ]
  go_wp2_with fail
  rw [rounds_succ]
  go_wp2_with fail
  rw [rounds_succ]
  go_wp2_with fail
  go_ret2
  refine ⟨?_, rfl⟩
  rw [e.out]
  exact congrArg (fun x => Ending.returned (Value.tuple #[Value.int .i64 x, Value.int .i64 3])) (by omega)

set_option maxHeartbeats 400000 in
set_option maxRecDepth 100000 in
theorem rune3_ok2 (s : ByteArray) (h0 : 2 < s.size) (a b c : UInt8) (ha : s[0]'(by omega) = a) (hb : s[1]'(by omega) = b) (hc : s[2]'(by omega) = c) (w : World) (h : 224 ≤ a.toNat) (h2 : a.toNat < 240) (pb : 128 ≤ b.toNat) (qb : b.toNat < 192) (pc : 128 ≤ c.toNat) (qc : c.toNat < 192) (g : 57343 < (a.toNat - 224) * 4096 + (b.toNat - 128) * 64 + (c.toNat - 128)) (hd : dec (li s) = ((a.toNat - 224) * 4096 + (b.toNat - 128) * 64 + (c.toNat - 128), 3)) :
    Calls Tryz.prog 76 #[.string s] w fun e w' => e = runeR (li s) ∧ w = w' := by
  have e := Lib.hid (runeR_rune hd (by omega))
  have za := a.toNat_lt
  have t1 : decide ((a.toNat : Int) < 128) = false := by simp; omega
  have t2 : decide ((194 : Int) ≤ (a.toNat : Int)) = true := by simp; omega
  have t2' : decide ((a.toNat : Int) < 224) = false := by simp; omega
  have t3 : decide ((224 : Int) ≤ (a.toNat : Int)) = true := by simp; omega
  have t3' : decide ((a.toNat : Int) < 240) = true := by simp; omega
  have hs2 : decide ((s.size : Int) < 3) = false := by simp; omega
  have hi1 : (1 : Int) < (s.size : Int) := by omega
  have hi2 : (2 : Int) < (s.size : Int) := by omega
  have ub : decide ((b.toNat : Int) < 128) = false := by simp; omega
  have vb : decide ((191 : Int) < (b.toNat : Int)) = false := by simp; omega
  have uc : decide ((c.toNat : Int) < 128) = false := by simp; omega
  have vc : decide ((191 : Int) < (c.toNat : Int)) = false := by simp; omega
  have y1 : decide (((((a.toNat : Int) - 224) * 64 + (b.toNat : Int) - 128) * 64 + (c.toNat : Int) - 128) < 2048) = false := by simp; omega
  have y2 : decide ((1114111 : Int) < ((((a.toNat : Int) - 224) * 64 + (b.toNat : Int) - 128) * 64 + (c.toNat : Int) - 128)) = false := by simp; omega
  have y3 : decide ((55296 : Int) ≤ ((((a.toNat : Int) - 224) * 64 + (b.toNat : Int) - 128) * 64 + (c.toNat : Int) - 128)) = true := by simp; omega
  have y4 : decide (((((a.toNat : Int) - 224) * 64 + (b.toNat : Int) - 128) * 64 + (c.toNat : Int) - 128) ≤ 57343) = false := by simp; omega
  clear hd
  go_enter Tryz.func76, Tryz.ntmps76
  go_wp2_with fail
  refine wp_loop_rounds 3 ?_
  rw [rounds_succ]
  go_wp2_with fail
  rw [rounds_succ]
  go_wp2_with fail
  rw [rounds_succ]
  go_wp2_with fail
  go_ret2
  refine ⟨?_, rfl⟩
  rw [e.out]
  exact congrArg (fun x => Ending.returned (Value.tuple #[Value.int .i64 x, Value.int .i64 3])) (by omega)

set_option maxHeartbeats 400000 in
set_option maxRecDepth 100000 in
theorem rune4_short (s : ByteArray) (h0 : 0 < s.size) (a : UInt8) (ha : s[0]'h0 = a) (w : World) (h : 240 ≤ a.toNat) (h2 : a.toNat < 245) (hs : s.size < 4) (hd : dec (li s) = (1114112 + a.toNat, 1)) :
    Calls Tryz.prog 76 #[.string s] w fun e w' => e = runeR (li s) ∧ w = w' := by
  have e := Lib.hid (runeR_broken hd)
  have za := a.toNat_lt
  have t1 : decide ((a.toNat : Int) < 128) = false := by simp; omega
  have t2 : decide ((194 : Int) ≤ (a.toNat : Int)) = true := by simp; omega
  have t2' : decide ((a.toNat : Int) < 224) = false := by simp; omega
  have t3 : decide ((224 : Int) ≤ (a.toNat : Int)) = true := by simp; omega
  have t3' : decide ((a.toNat : Int) < 240) = false := by simp; omega
  have t4 : decide ((240 : Int) ≤ (a.toNat : Int)) = true := by simp; omega
  have t4' : decide ((a.toNat : Int) < 245) = true := by simp; omega
  have hs2 : decide ((s.size : Int) < 4) = true := by simp; omega
  clear hd h h2 hs
  go_enter Tryz.func76, Tryz.ntmps76
  go_wp2_with fail
  go_ret2
  exact ⟨by rw [e.out]; rfl, rfl⟩

set_option maxHeartbeats 400000 in
set_option maxRecDepth 100000 in
theorem rune4_bad1 (s : ByteArray) (h0 : 3 < s.size) (a b : UInt8) (ha : s[0]'(by omega) = a) (hb : s[1]'(by omega) = b) (w : World) (h : 240 ≤ a.toNat) (h2 : a.toNat < 245)  (hb8 : b.toNat < 128 ∨ 192 ≤ b.toNat) (hd : dec (li s) = (1114112 + a.toNat, 1)) :
    Calls Tryz.prog 76 #[.string s] w fun e w' => e = runeR (li s) ∧ w = w' := by
  have e := Lib.hid (runeR_broken hd)
  have za := a.toNat_lt
  have t1 : decide ((a.toNat : Int) < 128) = false := by simp; omega
  have t2 : decide ((194 : Int) ≤ (a.toNat : Int)) = true := by simp; omega
  have t2' : decide ((a.toNat : Int) < 224) = false := by simp; omega
  have t3 : decide ((224 : Int) ≤ (a.toNat : Int)) = true := by simp; omega
  have t3' : decide ((a.toNat : Int) < 240) = false := by simp; omega
  have t4 : decide ((240 : Int) ≤ (a.toNat : Int)) = true := by simp; omega
  have t4' : decide ((a.toNat : Int) < 245) = true := by simp; omega
  have hs2 : decide ((s.size : Int) < 4) = false := by simp; omega
  have hi1 : (1 : Int) < (s.size : Int) := by omega
  have zb := b.toNat_lt
  clear hd
  rcases hb8 with hb8 | hb8
  · have u1 : decide ((b.toNat : Int) < 128) = true := by simp; omega
    clear hb8
    go_enter Tryz.func76, Tryz.ntmps76
    go_wp2_with fail
    refine wp_loop_rounds 1 ?_
    rw [rounds_succ]
    go_wp2_with fail
    go_ret2
    exact ⟨by rw [e.out]; rfl, rfl⟩
  · have u1 : decide ((b.toNat : Int) < 128) = false := by simp; omega
    have u2 : decide ((191 : Int) < (b.toNat : Int)) = true := by simp; omega
    clear hb8
    go_enter Tryz.func76, Tryz.ntmps76
    go_wp2_with fail
    refine wp_loop_rounds 1 ?_
    rw [rounds_succ]
    go_wp2_with fail
    go_ret2
    exact ⟨by rw [e.out]; rfl, rfl⟩

set_option maxHeartbeats 400000 in
set_option maxRecDepth 100000 in
theorem rune4_bad2 (s : ByteArray) (h0 : 3 < s.size) (a b c : UInt8) (ha : s[0]'(by omega) = a) (hb : s[1]'(by omega) = b) (hc : s[2]'(by omega) = c) (w : World) (h : 240 ≤ a.toNat) (h2 : a.toNat < 245) (pb : 128 ≤ b.toNat) (qb : b.toNat < 192) (hb8 : c.toNat < 128 ∨ 192 ≤ c.toNat) (hd : dec (li s) = (1114112 + a.toNat, 1)) :
    Calls Tryz.prog 76 #[.string s] w fun e w' => e = runeR (li s) ∧ w = w' := by
  have e := Lib.hid (runeR_broken hd)
  have za := a.toNat_lt
  have t1 : decide ((a.toNat : Int) < 128) = false := by simp; omega
  have t2 : decide ((194 : Int) ≤ (a.toNat : Int)) = true := by simp; omega
  have t2' : decide ((a.toNat : Int) < 224) = false := by simp; omega
  have t3 : decide ((224 : Int) ≤ (a.toNat : Int)) = true := by simp; omega
  have t3' : decide ((a.toNat : Int) < 240) = false := by simp; omega
  have t4 : decide ((240 : Int) ≤ (a.toNat : Int)) = true := by simp; omega
  have t4' : decide ((a.toNat : Int) < 245) = true := by simp; omega
  have hs2 : decide ((s.size : Int) < 4) = false := by simp; omega
  have hi1 : (1 : Int) < (s.size : Int) := by omega
  have hi2 : (2 : Int) < (s.size : Int) := by omega
  have ub : decide ((b.toNat : Int) < 128) = false := by simp; omega
  have vb : decide ((191 : Int) < (b.toNat : Int)) = false := by simp; omega
  have zb := b.toNat_lt
  have zc := c.toNat_lt
  clear hd
  rcases hb8 with hb8 | hb8
  · have u1 : decide ((c.toNat : Int) < 128) = true := by simp; omega
    clear hb8
    go_enter Tryz.func76, Tryz.ntmps76
    go_wp2_with fail
    refine wp_loop_rounds 2 ?_
    rw [rounds_succ]
    go_wp2_with fail
    rw [rounds_succ]
    go_wp2_with fail
    go_ret2
    exact ⟨by rw [e.out]; rfl, rfl⟩
  · have u1 : decide ((c.toNat : Int) < 128) = false := by simp; omega
    have u2 : decide ((191 : Int) < (c.toNat : Int)) = true := by simp; omega
    clear hb8
    go_enter Tryz.func76, Tryz.ntmps76
    go_wp2_with fail
    refine wp_loop_rounds 2 ?_
    rw [rounds_succ]
    go_wp2_with fail
    rw [rounds_succ]
    go_wp2_with fail
    go_ret2
    exact ⟨by rw [e.out]; rfl, rfl⟩

set_option maxHeartbeats 400000 in
set_option maxRecDepth 100000 in
theorem rune4_bad3 (s : ByteArray) (h0 : 3 < s.size) (a b c d : UInt8) (ha : s[0]'(by omega) = a) (hb : s[1]'(by omega) = b) (hc : s[2]'(by omega) = c) (hd : s[3]'(by omega) = d) (w : World) (h : 240 ≤ a.toNat) (h2 : a.toNat < 245) (pb : 128 ≤ b.toNat) (qb : b.toNat < 192) (pc : 128 ≤ c.toNat) (qc : c.toNat < 192) (hb8 : d.toNat < 128 ∨ 192 ≤ d.toNat) (hd : dec (li s) = (1114112 + a.toNat, 1)) :
    Calls Tryz.prog 76 #[.string s] w fun e w' => e = runeR (li s) ∧ w = w' := by
  have e := Lib.hid (runeR_broken hd)
  have za := a.toNat_lt
  have t1 : decide ((a.toNat : Int) < 128) = false := by simp; omega
  have t2 : decide ((194 : Int) ≤ (a.toNat : Int)) = true := by simp; omega
  have t2' : decide ((a.toNat : Int) < 224) = false := by simp; omega
  have t3 : decide ((224 : Int) ≤ (a.toNat : Int)) = true := by simp; omega
  have t3' : decide ((a.toNat : Int) < 240) = false := by simp; omega
  have t4 : decide ((240 : Int) ≤ (a.toNat : Int)) = true := by simp; omega
  have t4' : decide ((a.toNat : Int) < 245) = true := by simp; omega
  have hs2 : decide ((s.size : Int) < 4) = false := by simp; omega
  have hi1 : (1 : Int) < (s.size : Int) := by omega
  have hi2 : (2 : Int) < (s.size : Int) := by omega
  have hi3 : (3 : Int) < (s.size : Int) := by omega
  have ub : decide ((b.toNat : Int) < 128) = false := by simp; omega
  have vb : decide ((191 : Int) < (b.toNat : Int)) = false := by simp; omega
  have zb := b.toNat_lt
  have uc : decide ((c.toNat : Int) < 128) = false := by simp; omega
  have vc : decide ((191 : Int) < (c.toNat : Int)) = false := by simp; omega
  have zc := c.toNat_lt
  have zd := d.toNat_lt
  clear hd
  rcases hb8 with hb8 | hb8
  · have u1 : decide ((d.toNat : Int) < 128) = true := by simp; omega
    clear hb8
    go_enter Tryz.func76, Tryz.ntmps76
    go_wp2_with fail
    refine wp_loop_rounds 3 ?_
    rw [rounds_succ]
    go_wp2_with fail
    rw [rounds_succ]
    go_wp2_with fail
    rw [rounds_succ]
    go_wp2_with fail
    go_ret2
    exact ⟨by rw [e.out]; rfl, rfl⟩
  · have u1 : decide ((d.toNat : Int) < 128) = false := by simp; omega
    have u2 : decide ((191 : Int) < (d.toNat : Int)) = true := by simp; omega
    clear hb8
    go_enter Tryz.func76, Tryz.ntmps76
    go_wp2_with fail
    refine wp_loop_rounds 3 ?_
    rw [rounds_succ]
    go_wp2_with fail
    rw [rounds_succ]
    go_wp2_with fail
    rw [rounds_succ]
    go_wp2_with fail
    go_ret2
    exact ⟨by rw [e.out]; rfl, rfl⟩

set_option maxHeartbeats 400000 in
set_option maxRecDepth 100000 in
theorem rune4_low (s : ByteArray) (h0 : 3 < s.size) (a b c d : UInt8) (ha : s[0]'(by omega) = a) (hb : s[1]'(by omega) = b) (hc : s[2]'(by omega) = c) (hd : s[3]'(by omega) = d) (w : World) (h : 240 ≤ a.toNat) (h2 : a.toNat < 245) (pb : 128 ≤ b.toNat) (qb : b.toNat < 192) (pc : 128 ≤ c.toNat) (qc : c.toNat < 192) (pd : 128 ≤ d.toNat) (qd : d.toNat < 192) (g : (a.toNat - 240) * 262144 + (b.toNat - 128) * 4096 + (c.toNat - 128) * 64 + (d.toNat - 128) < 65536) (hd : dec (li s) = (1114112 + a.toNat, 1)) :
    Calls Tryz.prog 76 #[.string s] w fun e w' => e = runeR (li s) ∧ w = w' := by
  have e := Lib.hid (runeR_broken hd)
  have za := a.toNat_lt
  have t1 : decide ((a.toNat : Int) < 128) = false := by simp; omega
  have t2 : decide ((194 : Int) ≤ (a.toNat : Int)) = true := by simp; omega
  have t2' : decide ((a.toNat : Int) < 224) = false := by simp; omega
  have t3 : decide ((224 : Int) ≤ (a.toNat : Int)) = true := by simp; omega
  have t3' : decide ((a.toNat : Int) < 240) = false := by simp; omega
  have t4 : decide ((240 : Int) ≤ (a.toNat : Int)) = true := by simp; omega
  have t4' : decide ((a.toNat : Int) < 245) = true := by simp; omega
  have hs2 : decide ((s.size : Int) < 4) = false := by simp; omega
  have hi1 : (1 : Int) < (s.size : Int) := by omega
  have hi2 : (2 : Int) < (s.size : Int) := by omega
  have hi3 : (3 : Int) < (s.size : Int) := by omega
  have ub : decide ((b.toNat : Int) < 128) = false := by simp; omega
  have vb : decide ((191 : Int) < (b.toNat : Int)) = false := by simp; omega
  have uc : decide ((c.toNat : Int) < 128) = false := by simp; omega
  have vc : decide ((191 : Int) < (c.toNat : Int)) = false := by simp; omega
  have ud : decide ((d.toNat : Int) < 128) = false := by simp; omega
  have vd : decide ((191 : Int) < (d.toNat : Int)) = false := by simp; omega
  have y1 : decide ((((((a.toNat : Int) - 240) * 64 + (b.toNat : Int) - 128) * 64 + (c.toNat : Int) - 128) * 64 + (d.toNat : Int) - 128) < 65536) = true := by simp; omega
  clear hd
  go_enter Tryz.func76, Tryz.ntmps76
  go_wp2_with fail
  refine wp_loop_rounds 4 ?_
  rw [rounds_succ]
  go_wp2_with fail
  rw [rounds_succ]
  go_wp2_with fail
  rw [rounds_succ]
  go_wp2_with fail
  rw [rounds_succ]
  go_wp2_with fail
  go_ret2
  exact ⟨by rw [e.out]; rfl, rfl⟩

set_option maxHeartbeats 400000 in
set_option maxRecDepth 100000 in
theorem rune4_high (s : ByteArray) (h0 : 3 < s.size) (a b c d : UInt8) (ha : s[0]'(by omega) = a) (hb : s[1]'(by omega) = b) (hc : s[2]'(by omega) = c) (hd : s[3]'(by omega) = d) (w : World) (h : 240 ≤ a.toNat) (h2 : a.toNat < 245) (pb : 128 ≤ b.toNat) (qb : b.toNat < 192) (pc : 128 ≤ c.toNat) (qc : c.toNat < 192) (pd : 128 ≤ d.toNat) (qd : d.toNat < 192) (g : 1114111 < (a.toNat - 240) * 262144 + (b.toNat - 128) * 4096 + (c.toNat - 128) * 64 + (d.toNat - 128)) (hd : dec (li s) = (1114112 + a.toNat, 1)) :
    Calls Tryz.prog 76 #[.string s] w fun e w' => e = runeR (li s) ∧ w = w' := by
  have e := Lib.hid (runeR_broken hd)
  have za := a.toNat_lt
  have t1 : decide ((a.toNat : Int) < 128) = false := by simp; omega
  have t2 : decide ((194 : Int) ≤ (a.toNat : Int)) = true := by simp; omega
  have t2' : decide ((a.toNat : Int) < 224) = false := by simp; omega
  have t3 : decide ((224 : Int) ≤ (a.toNat : Int)) = true := by simp; omega
  have t3' : decide ((a.toNat : Int) < 240) = false := by simp; omega
  have t4 : decide ((240 : Int) ≤ (a.toNat : Int)) = true := by simp; omega
  have t4' : decide ((a.toNat : Int) < 245) = true := by simp; omega
  have hs2 : decide ((s.size : Int) < 4) = false := by simp; omega
  have hi1 : (1 : Int) < (s.size : Int) := by omega
  have hi2 : (2 : Int) < (s.size : Int) := by omega
  have hi3 : (3 : Int) < (s.size : Int) := by omega
  have ub : decide ((b.toNat : Int) < 128) = false := by simp; omega
  have vb : decide ((191 : Int) < (b.toNat : Int)) = false := by simp; omega
  have uc : decide ((c.toNat : Int) < 128) = false := by simp; omega
  have vc : decide ((191 : Int) < (c.toNat : Int)) = false := by simp; omega
  have ud : decide ((d.toNat : Int) < 128) = false := by simp; omega
  have vd : decide ((191 : Int) < (d.toNat : Int)) = false := by simp; omega
  have y1 : decide ((((((a.toNat : Int) - 240) * 64 + (b.toNat : Int) - 128) * 64 + (c.toNat : Int) - 128) * 64 + (d.toNat : Int) - 128) < 65536) = false := by simp; omega
  have y2 : decide ((1114111 : Int) < (((((a.toNat : Int) - 240) * 64 + (b.toNat : Int) - 128) * 64 + (c.toNat : Int) - 128) * 64 + (d.toNat : Int) - 128)) = true := by simp; omega
  clear hd
  go_enter Tryz.func76, Tryz.ntmps76
  go_wp2_with fail
  refine wp_loop_rounds 4 ?_
  rw [rounds_succ]
  go_wp2_with fail
  rw [rounds_succ]
  go_wp2_with fail
  rw [rounds_succ]
  go_wp2_with fail
  rw [rounds_succ]
  go_wp2_with fail
  go_ret2
  exact ⟨by rw [e.out]; rfl, rfl⟩

set_option maxHeartbeats 400000 in
set_option maxRecDepth 100000 in
theorem rune4_ok (s : ByteArray) (h0 : 3 < s.size) (a b c d : UInt8) (ha : s[0]'(by omega) = a) (hb : s[1]'(by omega) = b) (hc : s[2]'(by omega) = c) (hd : s[3]'(by omega) = d) (w : World) (h : 240 ≤ a.toNat) (h2 : a.toNat < 245) (pb : 128 ≤ b.toNat) (qb : b.toNat < 192) (pc : 128 ≤ c.toNat) (qc : c.toNat < 192) (pd : 128 ≤ d.toNat) (qd : d.toNat < 192) (g : 65536 ≤ (a.toNat - 240) * 262144 + (b.toNat - 128) * 4096 + (c.toNat - 128) * 64 + (d.toNat - 128)) (g1 : (a.toNat - 240) * 262144 + (b.toNat - 128) * 4096 + (c.toNat - 128) * 64 + (d.toNat - 128) ≤ 1114111) (hd : dec (li s) = ((a.toNat - 240) * 262144 + (b.toNat - 128) * 4096 + (c.toNat - 128) * 64 + (d.toNat - 128), 4)) :
    Calls Tryz.prog 76 #[.string s] w fun e w' => e = runeR (li s) ∧ w = w' := by
  have e := Lib.hid (runeR_rune hd (by omega))
  have za := a.toNat_lt
  have t1 : decide ((a.toNat : Int) < 128) = false := by simp; omega
  have t2 : decide ((194 : Int) ≤ (a.toNat : Int)) = true := by simp; omega
  have t2' : decide ((a.toNat : Int) < 224) = false := by simp; omega
  have t3 : decide ((224 : Int) ≤ (a.toNat : Int)) = true := by simp; omega
  have t3' : decide ((a.toNat : Int) < 240) = false := by simp; omega
  have t4 : decide ((240 : Int) ≤ (a.toNat : Int)) = true := by simp; omega
  have t4' : decide ((a.toNat : Int) < 245) = true := by simp; omega
  have hs2 : decide ((s.size : Int) < 4) = false := by simp; omega
  have hi1 : (1 : Int) < (s.size : Int) := by omega
  have hi2 : (2 : Int) < (s.size : Int) := by omega
  have hi3 : (3 : Int) < (s.size : Int) := by omega
  have ub : decide ((b.toNat : Int) < 128) = false := by simp; omega
  have vb : decide ((191 : Int) < (b.toNat : Int)) = false := by simp; omega
  have uc : decide ((c.toNat : Int) < 128) = false := by simp; omega
  have vc : decide ((191 : Int) < (c.toNat : Int)) = false := by simp; omega
  have ud : decide ((d.toNat : Int) < 128) = false := by simp; omega
  have vd : decide ((191 : Int) < (d.toNat : Int)) = false := by simp; omega
  have y1 : decide ((((((a.toNat : Int) - 240) * 64 + (b.toNat : Int) - 128) * 64 + (c.toNat : Int) - 128) * 64 + (d.toNat : Int) - 128) < 65536) = false := by simp; omega
  have y2 : decide ((1114111 : Int) < (((((a.toNat : Int) - 240) * 64 + (b.toNat : Int) - 128) * 64 + (c.toNat : Int) - 128) * 64 + (d.toNat : Int) - 128)) = false := by simp; omega
  have y3 : decide ((55296 : Int) ≤ (((((a.toNat : Int) - 240) * 64 + (b.toNat : Int) - 128) * 64 + (c.toNat : Int) - 128) * 64 + (d.toNat : Int) - 128)) = true := by simp; omega
  have y4 : decide ((((((a.toNat : Int) - 240) * 64 + (b.toNat : Int) - 128) * 64 + (c.toNat : Int) - 128) * 64 + (d.toNat : Int) - 128) ≤ 57343) = false := by simp; omega
  clear hd
  go_enter Tryz.func76, Tryz.ntmps76
  go_wp2_with fail
  refine wp_loop_rounds 4 ?_
  rw [rounds_succ]
  go_wp2_with fail
  rw [rounds_succ]
  go_wp2_with fail
  rw [rounds_succ]
  go_wp2_with fail
  rw [rounds_succ]
  go_wp2_with fail
  go_ret2
  refine ⟨?_, rfl⟩
  rw [e.out]
  exact congrArg (fun x => Ending.returned (Value.tuple #[Value.int .i64 x, Value.int .i64 4])) (by omega)

theorem rune_any (s : ByteArray) (hl : li s ≠ []) (w : World) : Calls Tryz.prog 76 #[.string s] w fun e w' => e = runeR (li s) ∧ w = w' := by
  have h0 : 0 < s.size := by rw [← li_len]; exact List.length_pos_iff.mpr hl
  obtain ⟨a, ha, ea⟩ := byt8 s 0 h0
  have za := a.toNat_lt
  have o1 : ¬ 1 < s.size → byt (li s) 1 = 0 := fun h => byt_out _ _ (by rw [li_len]; exact h)
  have o2 : ¬ 2 < s.size → byt (li s) 2 = 0 := fun h => byt_out _ _ (by rw [li_len]; exact h)
  have o3 : ¬ 3 < s.size → byt (li s) 3 = 0 := fun h => byt_out _ _ (by rw [li_len]; exact h)
  have no : (¬ (194 ≤ a.toNat ∧ a.toNat < 224 ∧ 128 ≤ byt (li s) 1 ∧ byt (li s) 1 < 192)) → (¬ (224 ≤ a.toNat ∧ a.toNat < 240 ∧ 128 ≤ byt (li s) 1 ∧ byt (li s) 1 < 192 ∧ 128 ≤ byt (li s) 2 ∧ byt (li s) 2 < 192 ∧ 2048 ≤ (a.toNat - 224) * 4096 + (byt (li s) 1 - 128) * 64 + (byt (li s) 2 - 128) ∧ ¬ (55296 ≤ (a.toNat - 224) * 4096 + (byt (li s) 1 - 128) * 64 + (byt (li s) 2 - 128) ∧ (a.toNat - 224) * 4096 + (byt (li s) 1 - 128) * 64 + (byt (li s) 2 - 128) ≤ 57343))) →
      (¬ (240 ≤ a.toNat ∧ a.toNat < 245 ∧ 128 ≤ byt (li s) 1 ∧ byt (li s) 1 < 192 ∧ 128 ≤ byt (li s) 2 ∧ byt (li s) 2 < 192 ∧ 128 ≤ byt (li s) 3 ∧ byt (li s) 3 < 192 ∧ 65536 ≤ (a.toNat - 240) * 262144 + (byt (li s) 1 - 128) * 4096 + (byt (li s) 2 - 128) * 64 + (byt (li s) 3 - 128) ∧ (a.toNat - 240) * 262144 + (byt (li s) 1 - 128) * 4096 + (byt (li s) 2 - 128) * 64 + (byt (li s) 3 - 128) ≤ 1114111)) →
      128 ≤ a.toNat → dec (li s) = (1114112 + a.toNat, 1) := fun n1 n2 n3 n4 => by
    unfold dec dec4; rw [ea, if_neg (by omega), if_neg n1, if_neg n2, if_neg n3]
  by_cases k1 : a.toNat < 128
  · exact rune_low s h0 a ha w k1 (by unfold dec dec4; rw [ea, if_pos k1])
  by_cases k2 : a.toNat < 194 ∨ 245 ≤ a.toNat
  · exact rune_none s h0 a ha w (by omega) k2 (no (by omega) (by omega) (by omega) (by omega))
  by_cases k3 : a.toNat < 224
  · by_cases s1 : s.size < 2
    · have := o1 (by omega)
      exact rune2_short s h0 a ha w (by omega) (by omega) s1 (no (by omega) (by omega) (by omega) (by omega))
    obtain ⟨b, hb, eb⟩ := byt8 s 1 (by omega)
    by_cases c1 : b.toNat < 128 ∨ 192 ≤ b.toNat
    · exact rune2_bad1 s (by omega) a b ha hb w (by omega) (by omega) c1 (no (by omega) (by omega) (by omega) (by omega))
    · exact rune2_ok s (by omega) a b ha hb w (by omega) (by omega) (by omega) (by omega) (by unfold dec dec4; rw [ea, eb, if_neg (by omega), if_pos (by omega)])
  by_cases k4 : a.toNat < 240
  · by_cases s1 : s.size < 3
    · have := o2 (by omega)
      exact rune3_short s h0 a ha w (by omega) (by omega) s1 (no (by omega) (by omega) (by omega) (by omega))
    obtain ⟨b, hb, eb⟩ := byt8 s 1 (by omega)
    obtain ⟨c, hc, ec⟩ := byt8 s 2 (by omega)
    by_cases c1 : b.toNat < 128 ∨ 192 ≤ b.toNat
    · exact rune3_bad1 s (by omega) a b ha hb w (by omega) (by omega) c1 (no (by omega) (by omega) (by omega) (by omega))
    by_cases c2 : c.toNat < 128 ∨ 192 ≤ c.toNat
    · exact rune3_bad2 s (by omega) a b c ha hb hc w (by omega) (by omega) (by omega) (by omega) c2 (no (by omega) (by omega) (by omega) (by omega))
    rw [eb, ec] at no
    by_cases g1 : (a.toNat - 224) * 4096 + (b.toNat - 128) * 64 + (c.toNat - 128) < 2048
    · exact rune3_low s (by omega) a b c ha hb hc w (by omega) (by omega) (by omega) (by omega) (by omega) (by omega) g1 (no (by omega) (by omega) (by omega) (by omega))
    by_cases g2 : (a.toNat - 224) * 4096 + (b.toNat - 128) * 64 + (c.toNat - 128) < 55296
    · exact rune3_ok1 s (by omega) a b c ha hb hc w (by omega) (by omega) (by omega) (by omega) (by omega) (by omega) (by omega) g2 (by unfold dec dec4; rw [ea, eb, ec, if_neg (by omega), if_neg (by omega), if_pos (by omega)])
    by_cases g3 : (a.toNat - 224) * 4096 + (b.toNat - 128) * 64 + (c.toNat - 128) ≤ 57343
    · exact rune3_half s (by omega) a b c ha hb hc w (by omega) (by omega) (by omega) (by omega) (by omega) (by omega) (by omega) g3 (no (by omega) (by omega) (by omega) (by omega))
    · exact rune3_ok2 s (by omega) a b c ha hb hc w (by omega) (by omega) (by omega) (by omega) (by omega) (by omega) (by omega) (by unfold dec dec4; rw [ea, eb, ec, if_neg (by omega), if_neg (by omega), if_pos (by omega)])
  · by_cases s1 : s.size < 4
    · have := o3 (by omega)
      exact rune4_short s h0 a ha w (by omega) (by omega) s1 (no (by omega) (by omega) (by omega) (by omega))
    obtain ⟨b, hb, eb⟩ := byt8 s 1 (by omega)
    obtain ⟨c, hc, ec⟩ := byt8 s 2 (by omega)
    obtain ⟨d, hd, ed⟩ := byt8 s 3 (by omega)
    by_cases c1 : b.toNat < 128 ∨ 192 ≤ b.toNat
    · exact rune4_bad1 s (by omega) a b ha hb w (by omega) (by omega) c1 (no (by omega) (by omega) (by omega) (by omega))
    by_cases c2 : c.toNat < 128 ∨ 192 ≤ c.toNat
    · exact rune4_bad2 s (by omega) a b c ha hb hc w (by omega) (by omega) (by omega) (by omega) c2 (no (by omega) (by omega) (by omega) (by omega))
    by_cases c3 : d.toNat < 128 ∨ 192 ≤ d.toNat
    · exact rune4_bad3 s (by omega) a b c d ha hb hc hd w (by omega) (by omega) (by omega) (by omega) (by omega) (by omega) c3 (no (by omega) (by omega) (by omega) (by omega))
    rw [eb, ec, ed] at no
    by_cases g1 : (a.toNat - 240) * 262144 + (b.toNat - 128) * 4096 + (c.toNat - 128) * 64 + (d.toNat - 128) < 65536
    · exact rune4_low s (by omega) a b c d ha hb hc hd w (by omega) (by omega) (by omega) (by omega) (by omega) (by omega) (by omega) (by omega) g1 (no (by omega) (by omega) (by omega) (by omega))
    by_cases g2 : 1114111 < (a.toNat - 240) * 262144 + (b.toNat - 128) * 4096 + (c.toNat - 128) * 64 + (d.toNat - 128)
    · exact rune4_high s (by omega) a b c d ha hb hc hd w (by omega) (by omega) (by omega) (by omega) (by omega) (by omega) (by omega) (by omega) g2 (no (by omega) (by omega) (by omega) (by omega))
    · exact rune4_ok s (by omega) a b c d ha hb hc hd w (by omega) (by omega) (by omega) (by omega) (by omega) (by omega) (by omega) (by omega) (by omega) (by omega) (by unfold dec dec4; rw [ea, eb, ec, ed, if_neg (by omega), if_neg (by omega), if_neg (by omega), if_pos (by omega)])

end Go.Proofs.YtfilolmbppjbjaaGreat.nm
