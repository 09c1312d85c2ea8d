/-
  Events and operations as the program holds them.
-/
import Derived.Test.YtphbkbjgjicncaaFiles
import Derived.Test.YtphbkbjgjicncaaGsha
import Derived.Test.YtphbkbjgjicncaaLabels
namespace Go.Proofs.Ytphbkbjgjicncaa
open Go Go.RowKit

/-- An event. -/
structure Ev where
  kind : Int
  id : Int
  name : List UInt8
  time : Int
  len : Int
  sum : List UInt8
abbrev row (l : List UInt8) : Array Value := sh.row l
theorem row_size (l : List UInt8) : (row l).size = l.length := by simp [sh.row]
/-- The cells of an event. -/
def evr (e : Ev) : Array Value := #[.int .i64 e.kind, .int .i64 e.id, .string ⟨e.name.toArray⟩, .int .i64 e.time, .int .i64 e.len] ++ row e.sum
theorem evr0 (e : Ev) : (evr e)[0]? = some (.int .i64 e.kind) := by unfold evr; rw [Array.getElem?_append_left (by simp)]; rfl
theorem evr1 (e : Ev) : (evr e)[1]? = some (.int .i64 e.id) := by unfold evr; rw [Array.getElem?_append_left (by simp)]; rfl
theorem evr2 (e : Ev) : (evr e)[2]? = some (.string ⟨e.name.toArray⟩) := by unfold evr; rw [Array.getElem?_append_left (by simp)]; rfl
theorem evr3 (e : Ev) : (evr e)[3]? = some (.int .i64 e.time) := by unfold evr; rw [Array.getElem?_append_left (by simp)]; rfl
theorem evr4 (e : Ev) : (evr e)[4]? = some (.int .i64 e.len) := by unfold evr; rw [Array.getElem?_append_left (by simp)]; rfl
theorem evr_size (e : Ev) : (evr e).size = 5 + e.sum.length := by unfold evr; rw [Array.size_append, row_size]; rfl
theorem row_one (l : List UInt8) : (row l).all (·.oneCell') = true := by simp [sh.row, Value.oneCell']
theorem evr_one (e : Ev) : (evr e).all (·.oneCell') = true := by
  unfold evr
  rw [Array.all_append, row_one]
  simp [Value.oneCell']
theorem set_front (a b : Array Value) (i : Nat) (v : Value) (h : i < a.size) : (a ++ b).setIfInBounds i v = a.setIfInBounds i v ++ b := by
  rw [Array.setIfInBounds_append_left h]
theorem evr_kind (e : Ev) (x : Int) : (evr e).setIfInBounds 0 (.int .i64 x) = evr { e with kind := x } := by unfold evr; rw [set_front _ _ _ _ (by simp)]; rfl
theorem evr_id (e : Ev) (x : Int) : (evr e).setIfInBounds 1 (.int .i64 x) = evr { e with id := x } := by unfold evr; rw [set_front _ _ _ _ (by simp)]; rfl
theorem evr_name (e : Ev) (x : ByteArray) : (evr e).setIfInBounds 2 (.string x) = evr { e with name := x.data.toList } := by unfold evr; rw [set_front _ _ _ _ (by simp)]; rfl
theorem evr_time (e : Ev) (x : Int) : (evr e).setIfInBounds 3 (.int .i64 x) = evr { e with time := x } := by unfold evr; rw [set_front _ _ _ _ (by simp)]; rfl
theorem evr_len (e : Ev) (x : Int) : (evr e).setIfInBounds 4 (.int .i64 x) = evr { e with len := x } := by unfold evr; rw [set_front _ _ _ _ (by simp)]; rfl
def ev0 : Ev := ⟨0, 0, [], 0, 0, List.replicate 32 0⟩
theorem zero33 (w : World) : (zeroValue 33).run Try.prog w = .ok (.agg (evr ev0)) w := (Try.zeroValue33 w).trans rfl
theorem info33 : (Try.prog.info? 33).map (·.size) = some 37 := by kernel_rfl
theorem row33 (e : Ev) (h : e.sum.length = 32) : (Try.prog.info? 33).map (·.size) = some (evr e).size := by rw [evr_size, h]; exact info33
theorem evr_same (e f : Ev) (h : e.sum.length = 32) (h' : f.sum.length = 32) : (evr e).size = (evr f).size := by rw [evr_size, evr_size, h, h']
theorem info31 : (Try.prog.info? 31).map (·.size) = some 32 := by kernel_rfl

/-- What a row of cells is behind values that are put into it from o on. -/
def putA (c : Array Value) : Nat → List Value → Array Value
  | _, [] => c
  | o, v :: r => putA (c.setIfInBounds o v) (o + 1) r
theorem putA_back (a : Array Value) : ∀ (vs : List Value) (f b : List Value), b.length = vs.length → putA ⟨a.toList ++ f ++ b⟩ (a.size + f.length) vs = ⟨a.toList ++ f ++ vs⟩
  | [], f, b, h => by
    have : b = [] := List.length_eq_zero_iff.1 h
    subst this; rfl
  | v :: r, f, b, h => by
    cases b with
    | nil => simp at h
    | cons x b =>
      unfold putA
      have e : (⟨a.toList ++ f ++ x :: b⟩ : Array Value).setIfInBounds (a.size + f.length) v = ⟨a.toList ++ (f ++ [v]) ++ b⟩ := by
        apply Array.toList_inj.1
        rw [Array.toList_setIfInBounds]
        show (a.toList ++ f ++ x :: b).set _ _ = _
        rw [List.set_append_right _ _ (by simp)]
        simp
      rw [e]
      have := putA_back a r (f ++ [v]) b (by simpa using h)
      rw [show a.size + f.length + 1 = a.size + (f ++ [v]).length by simp; omega, this]
      simp
theorem evr_sum (e : Ev) (d : List UInt8) (h : e.sum.length = d.length) : putA (evr e) 5 (row d).toList = evr { e with sum := d } := by
  have := putA_back #[.int .i64 e.kind, .int .i64 e.id, .string ⟨e.name.toArray⟩, .int .i64 e.time, .int .i64 e.len] (row d).toList [] (row e.sum).toList (by rw [Array.length_toList, Array.length_toList, row_size, row_size, h])
  unfold evr
  rw [show (#[.int .i64 e.kind, .int .i64 e.id, .string ⟨e.name.toArray⟩, .int .i64 e.time, .int .i64 e.len] ++ row e.sum : Array Value) = ⟨#[.int .i64 e.kind, .int .i64 e.id, .string ⟨e.name.toArray⟩, .int .i64 e.time, .int .i64 e.len].toList ++ [] ++ (row e.sum).toList⟩ by apply Array.toList_inj.1; simp]
  refine Eq.trans this ?_
  apply Array.toList_inj.1; simp
theorem KW.mid {B : Nat} {w : World} {b : Nat} {t : TypeId} (hb : B ≤ b) : ∀ (vs : List Value) (o : Nat) (c : Array Value) {v : World} {L : List (Nat × Obj)} (_ : KW B w L v) (i : Nat) (_ : L[i]? = some (b, .cells c t)), KW B w (L.set i (b, .cells (putA c o vs) t)) (v.setCells b o vs)
  | [], o, c, v, L, h, i, hi => by
    have : L.set i (b, .cells c t) = L := by
      have hl := (List.getElem?_eq_some_iff.1 hi)
      obtain ⟨hl, e⟩ := hl
      rw [← e, List.set_getElem_self]
    show KW B w (L.set i (b, .cells c t)) v
    rw [this]; exact h
  | x :: r, o, c, v, L, h, i, hi => by
    have h1 := h.set i hi hb o x
    have hil : i < L.length := (List.getElem?_eq_some_iff.1 hi).1
    have h2 := KW.mid (t := t) hb r (o + 1) (c.setIfInBounds o x) h1 i (by simp [hil])
    rw [List.set_set] at h2
    exact h2
theorem KW.there {B : Nat} {w v : World} {L : List (Nat × Obj)} (h : KW B w L v) (i : Nat) {b : Nat} {c : Array Value} {t : TypeId} (hi : L[i]? = some (b, .cells c t)) (o n : Nat) (hn : o + n ≤ c.size) : v.there b o n := fun j hj => by
  refine ⟨?_, frozen_row (h.at i hi) _⟩
  rw [cell_of_row v b _ _ _ _ (h.at i hi), Array.getElem?_eq_getElem (by omega)]
  rfl

/-- An operation. -/
structure Opv where
  kind : Int
  nm : ByteArray
  tx : ByteArray
  tm : Int
  a : Int
  b : Int
def opr (o : Opv) : Array Value := #[.int .i64 o.kind, .string o.nm, .string o.tx, .int .i64 o.tm, .int .i64 o.a, .int .i64 o.b]
theorem opr_one (o : Opv) : (opr o).all (·.oneCell') = true := by simp [opr, Value.oneCell']
theorem row26 (o : Opv) : (Try.prog.info? 27).map (·.size) = some (opr o).size := (by kernel_rfl : (Try.prog.info? 27).map (·.size) = some 6)

theorem KW.four (w : World) (o1 o2 o3 o4 : Obj) : KW w.heap.size w [(w.heap.size + 1 + 1 + 1, o4), (w.heap.size + 1 + 1, o3), (w.heap.size + 1, o2), (w.heap.size, o1)] ((((w.alloc o1).alloc o2).alloc o3).alloc o4) := by
  have h := ((((KW.start w).new o1).new o2).new o3).new o4
  simp only [World.size_alloc] at h
  exact h
theorem KW.three (w : World) (o1 o2 o3 : Obj) : KW w.heap.size w [(w.heap.size + 1 + 1, o3), (w.heap.size + 1, o2), (w.heap.size, o1)] (((w.alloc o1).alloc o2).alloc o3) := by
  have h := (((KW.start w).new o1).new o2).new o3
  simp only [World.size_alloc] at h
  exact h
end Go.Proofs.Ytphbkbjgjicncaa
