/-
  What a part of an event may be: within, and each type's 'valid'; an event's parts: what 'about' returns.
-/
import Derived.Test.YtphbkbjgjicncaaGreatEvEq
import Derived.Test.YtphbkbjgjicncaaGreatNValid
import Derived.Test.YtphbkbjgjicncaaGreatTail
import Derived.Handy
namespace Go.Proofs.YtphbkbjgjicncaaGreat.ev
open Go Go.RowKit
set_option linter.unusedVariables false


def wi (n a b : Int) : Bool := decide (a ≤ n) && decide (n ≤ b)

set_option maxRecDepth 100000 in
set_option maxHeartbeats 400000 in
theorem within_any (n a b : Int) (w : World) :
    Calls Tryz.prog 99 #[.int .i64 n, .int .i64 a, .int .i64 b] w fun e w' => e = .returned (.bool (wi n a b)) ∧ w = w' := by
  by_cases h1 : a ≤ n
  · by_cases h2 : n ≤ b
    · have t1 : decide (a ≤ n) = true := by simp [h1]
      have t2 : decide (n ≤ b) = true := by simp [h2]
      have e : Hid (wi n a b = true) := by show _ = _; unfold wi; rw [t1, t2]; rfl
      clear h1 h2
      go_enter Tryz.func99, Tryz.ntmps99
      go_wp2_with fail
      go_ret
      exact ⟨by rw [e.out]; rfl, rfl⟩
    · have t1 : decide (a ≤ n) = true := by simp [h1]
      have t2 : decide (n ≤ b) = false := by simp; omega
      have e : Hid (wi n a b = false) := by show _ = _; unfold wi; rw [t1, t2]; rfl
      clear h1 h2
      go_enter Tryz.func99, Tryz.ntmps99
      go_wp2_with fail
      go_ret
      exact ⟨by rw [e.out]; rfl, rfl⟩
  · have t1 : decide (a ≤ n) = false := by simp; omega
    have e : Hid (wi n a b = false) := by show _ = _; unfold wi; rw [t1]; rfl
    clear h1
    go_enter Tryz.func99, Tryz.ntmps99
    go_wp2_with fail
    go_ret
    exact ⟨by rw [e.out]; rfl, rfl⟩

set_option maxRecDepth 100000 in
set_option maxHeartbeats 400000 in
theorem kind_valid (n : Int) (w : World) :
    Calls Tryz.prog 98 #[.int .i64 n] w fun e w' => e = .returned (.bool (wi n 0 7)) ∧ w = w' := by
  have c := Lib.hid (fun v => within_any n 0 7 v)
  go_enter Tryz.func98, Tryz.ntmps98
  go_wp2_with fail
  refine (c.out _).mono ?_
  rintro e v ⟨rfl, rfl⟩
  go_wp2_with fail
  go_ret
  exact ⟨rfl, rfl⟩

set_option maxRecDepth 100000 in
set_option maxHeartbeats 400000 in
theorem id_valid (n : Int) (w : World) :
    Calls Tryz.prog 123 #[.int .i64 n] w fun e w' => e = .returned (.bool (wi n 1 1099511627776)) ∧ w = w' := by
  have c := Lib.hid (fun v => within_any n 1 1099511627776 v)
  go_enter Tryz.func123, Tryz.ntmps123
  go_wp2_with fail
  refine (c.out _).mono ?_
  rintro e v ⟨rfl, rfl⟩
  go_wp2_with fail
  go_ret
  exact ⟨rfl, rfl⟩

set_option maxRecDepth 100000 in
set_option maxHeartbeats 400000 in
theorem moment_valid (n : Int) (w : World) :
    Calls Tryz.prog 111 #[.int .i64 n] w fun e w' => e = .returned (.bool (wi n 0 1099511627776)) ∧ w = w' := by
  have c := Lib.hid (fun v => within_any n 0 1099511627776 v)
  go_enter Tryz.func111, Tryz.ntmps111
  go_wp2_with fail
  refine (c.out _).mono ?_
  rintro e v ⟨rfl, rfl⟩
  go_wp2_with fail
  go_ret
  exact ⟨rfl, rfl⟩

set_option maxRecDepth 100000 in
set_option maxHeartbeats 400000 in
theorem added_valid (n : Int) (w : World) :
    Calls Tryz.prog 107 #[.int .i64 n] w fun e w' => e = .returned (.bool (wi n 1 600)) ∧ w = w' := by
  have c := Lib.hid (fun v => within_any n 1 600 v)
  go_enter Tryz.func107, Tryz.ntmps107
  go_wp2_with fail
  refine (c.out _).mono ?_
  rintro e v ⟨rfl, rfl⟩
  go_wp2_with fail
  go_ret
  exact ⟨rfl, rfl⟩

set_option maxRecDepth 100000 in
set_option maxHeartbeats 400000 in
theorem length_valid (n : Int) (w : World) :
    Calls Tryz.prog 115 #[.int .i64 n] w fun e w' => e = .returned (.bool (wi n 0 600)) ∧ w = w' := by
  have c := Lib.hid (fun v => within_any n 0 600 v)
  go_enter Tryz.func115, Tryz.ntmps115
  go_wp2_with fail
  refine (c.out _).mono ?_
  rintro e v ⟨rfl, rfl⟩
  go_wp2_with fail
  go_ret
  exact ⟨rfl, rfl⟩

set_option maxRecDepth 100000 in
set_option maxHeartbeats 400000 in
theorem label_valid (s : ByteArray) (hs : s.size ≤ 1099511627776) (w : World) :
    Calls Tryz.prog 103 #[.string s] w fun e w' => e = .returned (.bool (nm.vld (nm.li s))) ∧ Below w.heap.size w w' := by
  have c := Lib.hid (fun v => nm.valid_any s hs v)
  go_enter Tryz.func103, Tryz.ntmps103
  go_wp2_with fail
  refine (c.out _).mono ?_
  rintro e v ⟨rfl, hb⟩
  go_wp2_with fail
  go_ret
  exact ⟨rfl, hb⟩



set_option maxRecDepth 100000 in
set_option maxHeartbeats 400000 in
theorem sum_valid (d : List UInt8) (w : World) :
    Calls Tryz.prog 119 #[.agg (row d)] w fun e w' => e = .returned (.bool true) ∧ Below w.heap.size w w' := by
  go_enter Tryz.func119, Tryz.ntmps119
  go_wp2_with fail
  go_ret
  exact ⟨rfl, by go_grown⟩



/-- A part of an event. -/
inductive Pt where
  | kind (n : Int)
  | id (n : Int)
  | label (l : List UInt8)
  | moment (n : Int)
  | added (n : Int)
  | length (n : Int)
  | sum (d : List UInt8)
def Pt.enc : Pt → Value
  | .kind n => .iface 73 (.int .i64 n)
  | .id n => .iface 80 (.int .i64 n)
  | .label l => .iface 75 (.string ⟨l.toArray⟩)
  | .moment n => .iface 77 (.int .i64 n)
  | .added n => .iface 76 (.int .i64 n)
  | .length n => .iface 78 (.int .i64 n)
  | .sum d => .iface 79 (.agg (row d))
def aboutP (e : Ev) : Pt := if e.kind = 7 then .moment e.time else .id e.id

theorem cell_new (w : World) (c : Array Value) (t : TypeId) (j : Nat) (v : Value) (h : c[j]? = some v) : (w.alloc (.cells c t)).cell? ⟨w.heap.size, j, none⟩ = some v := by
  have hh := heap_alloc_if w (.cells c t) w.heap.size
  rw [if_pos rfl] at hh
  simp only [World.cell?, hh]
  exact h
set_option maxRecDepth 100000 in
set_option maxHeartbeats 400000 in
theorem about_any (e : Ev) (w : World) :
    Calls Tryz.prog 29 #[.agg (evr e)] w fun r w' => r = .returned (aboutP e).enc ∧ Below w.heap.size w w' := by
  have hb : Hid (Below w.heap.size w (w.alloc (.cells (evr e) 35))) := Lib.hid ((Below.refl _ _).alloc (Nat.le_refl _) _)
  have h0 := cell_new w _ 35 0 _ (evr0 e)
  by_cases h : e.kind = 7
  · have hd : (e.kind == 7) = true := by simpa using h
    have h3 := cell_new w _ 35 3 _ (evr3 e)
    have he : Hid ((aboutP e).enc = .iface 77 (.int .i64 e.time)) := Lib.hid (by unfold aboutP; rw [if_pos h]; rfl)
    clear h
    generalize evr e = c at *
    go_enter Tryz.func29, Tryz.ntmps29
    go_wp2_with fail
    go_ret
    exact ⟨by rw [he.out]; rfl, hb.out⟩
  · have hd : (e.kind == 7) = false := by simpa using h
    have h1 := cell_new w _ 35 1 _ (evr1 e)
    have he : Hid ((aboutP e).enc = .iface 80 (.int .i64 e.id)) := Lib.hid (by unfold aboutP; rw [if_neg h]; rfl)
    clear h
    generalize evr e = c at *
    go_enter Tryz.func29, Tryz.ntmps29
    go_wp2_with fail
    go_ret
    exact ⟨by rw [he.out]; rfl, hb.out⟩
end Go.Proofs.YtphbkbjgjicncaaGreat.ev
