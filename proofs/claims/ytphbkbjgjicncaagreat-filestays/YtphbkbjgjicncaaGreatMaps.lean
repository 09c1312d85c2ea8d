/-
  A map of seven things, as it is laid, and looked up; function values that are asserted. The table of what is done to a file.
-/
import Derived.Test.YtphbkbjgjicncaaGreatFiles
import Derived.WalkKit
import Derived.MapKept
import Derived.Laws.Build
namespace Go.Proofs.YtphbkbjgjicncaaGreat
open Go Go.RowKit

theorem und25 : Tryz.prog.underlying 29 = some (.int .i64) := Tryz.underlying29
theorem und79 : Tryz.prog.underlying 61 = some (.map 29 20) := Tryz.underlying61

theorem setObj_new (w : World) (es : Array MapEntry) (c : Nat) (o' : Obj) : (setObj w.heap.size o').run Tryz.prog (w.alloc (.map es c)) = .ok () (w.alloc o') := by
  have hh : (w.alloc (.map es c)).heap[w.heap.size]? = some (.map es c) := by rw [heap_alloc_if, if_pos rfl]
  rw [MapKept.run_setObj_map o' hh]
  simp only [World.alloc]
  congr 2
  apply Array.ext_getElem?
  intro i
  rw [Array.getElem?_setIfInBounds, Array.getElem?_push, Array.getElem?_push]
  by_cases h : w.heap.size = i
  · subst h; simp
  · have h' : ¬ i = w.heap.size := fun e => h e.symm
    simp [h, h']
theorem run_key (k : Int) (b : Bool) (w : World) : (Instr.checkKey b 10000 29 (.int .i64 k)).run Tryz.prog w = .ok () w := by
  unfold Instr.checkKey
  simp [Sem.run_bind, run_underlying und25]

/-- A new key into the map that was made last. -/
theorem run_ins (w : World) (es : Array MapEntry) (c : Nat) (k : Int) (v : Value) (h : Instr.findNow (.int .i64) (.int .i64 k) es.toList 0 = some none) :
    (Instr.mapUpdate 61 (.map (some w.heap.size)) (.int .i64 k) v).run Tryz.prog (w.alloc (.map es c)) = .ok () (w.alloc (.map (es.push ⟨.int .i64 k, v, c⟩) (c + 1))) := by
  have hh : (w.alloc (.map es c)).heap[w.heap.size]? = some (.map es c) := by rw [heap_alloc_if, if_pos rfl]
  have hg := MapKept.run_getObj_map (P := Tryz.prog) hh
  have hf : (Instr.findKey 29 (.int .i64 k) es.toList).run Tryz.prog (w.alloc (.map es c)) = .ok none (w.alloc (.map es c)) := by
    unfold Instr.findKey
    simp [Sem.run_bind, run_underlying und25, h, Result.andThen]
  unfold Instr.mapUpdate
  simp only [Sem.run_bind, run_underlying und79, Result.andThen_ok, hg, run_key, hf]
  exact setObj_new _ _ _ _

/-- A key of the map in block b. -/
theorem run_look (w : World) (b : Nat) (es : Array MapEntry) (c : Nat) (k : Int) (r : Option (Nat × Value)) (hb : w.heap[b]? = some (.map es c)) (h : Instr.findNow (.int .i64) (.int .i64 k) es.toList 0 = some r) :
    (Instr.lookup 61 (.map (some b)) (.int .i64 k) false).run Tryz.prog w = .ok ((r.map (·.2)).getD .nilIface) w := by
  have hg := MapKept.run_getObj_map (P := Tryz.prog) hb
  have hf : (Instr.findKey 29 (.int .i64 k) es.toList).run Tryz.prog w = .ok r w := by
    unfold Instr.findKey
    simp [Sem.run_bind, run_underlying und25, h, Result.andThen]
  unfold Instr.lookup
  simp only [Sem.run_bind, run_underlying und79, Result.andThen_ok, hg, run_key, hf, Sem.run_pure]
  cases r with
  | none => simp [Tryz.zeroValue20]
  | some x => simp

def fv (f : Nat) : Value := .func (.func f) #[] #[]
/-- What is done, by its kind. -/
def opsT : List (Int × Value) := [(0, .iface 69 (fv 31)), (1, .iface 63 (fv 11)), (2, .iface 66 (fv 32)), (3, .iface 66 (fv 33)), (4, .iface 63 (fv 34)), (5, .iface 63 (fv 35)), (6, .iface 69 (fv 36))]
def opsM : Obj := .map #[⟨.int .i64 0, .iface 69 (fv 31), 0⟩, ⟨.int .i64 1, .iface 63 (fv 11), 1⟩, ⟨.int .i64 2, .iface 66 (fv 32), 2⟩, ⟨.int .i64 3, .iface 66 (fv 33), 3⟩, ⟨.int .i64 4, .iface 63 (fv 34), 4⟩, ⟨.int .i64 5, .iface 63 (fv 35), 5⟩, ⟨.int .i64 6, .iface 69 (fv 36), 6⟩] 7
def opV (k : Int) : Value := if k = 0 then .iface 69 (fv 31) else if k = 1 then .iface 63 (fv 11) else if k = 2 then .iface 66 (fv 32) else if k = 3 then .iface 66 (fv 33) else if k = 4 then .iface 63 (fv 34) else if k = 5 then .iface 63 (fv 35) else if k = 6 then .iface 69 (fv 36) else .nilIface

theorem look_ops (w : World) (b : Nat) (k : Int) (hb : w.heap[b]? = some opsM) : (Instr.lookup 61 (.map (some b)) (.int .i64 k) false).run Tryz.prog w = .ok (opV k) w := by
  unfold opsM at hb
  by_cases h0 : k = 0
  · subst h0; exact run_look w b _ _ 0 _ hb rfl
  by_cases h1 : k = 1
  · subst h1; exact run_look w b _ _ 1 _ hb rfl
  by_cases h2 : k = 2
  · subst h2; exact run_look w b _ _ 2 _ hb rfl
  by_cases h3 : k = 3
  · subst h3; exact run_look w b _ _ 3 _ hb rfl
  by_cases h4 : k = 4
  · subst h4; exact run_look w b _ _ 4 _ hb rfl
  by_cases h5 : k = 5
  · subst h5; exact run_look w b _ _ 5 _ hb rfl
  by_cases h6 : k = 6
  · subst h6; exact run_look w b _ _ 6 _ hb rfl
  · have : opV k = .nilIface := by unfold opV; simp [h0, h1, h2, h3, h4, h5, h6]
    rw [this]
    refine run_look w b _ _ k none hb ?_
    have e : ∀ m : Int, ¬ k = m → Instr.sameNow (.int .i64) (.int .i64 k) (.int .i64 m) = some false := fun m hm => by simp [Instr.sameNow, hm]
    simp only [Instr.findNow, e 0 h0, e 1 h1, e 2 h2, e 3 h3, e 4 h4, e 5 h5, e 6 h6]

theorem mk81 (x : Value) (w : World) : (Instr.makeInterface 63 x).run Tryz.prog w = .ok (.iface 63 x) w := run_makeInterface (w := w) 63 x (by kernel_rfl)
theorem mk83 (x : Value) (w : World) : (Instr.makeInterface 66 x).run Tryz.prog w = .ok (.iface 66 x) w := run_makeInterface (w := w) 66 x (by kernel_rfl)
theorem mk85 (x : Value) (w : World) : (Instr.makeInterface 69 x).run Tryz.prog w = .ok (.iface 69 x) w := run_makeInterface (w := w) 69 x (by kernel_rfl)

set_option maxHeartbeats 1000000 in
theorem operations_any (w : World) : Calls Tryz.prog 26 #[] w fun e w' => ∃ b, e = .returned (.map (some b)) ∧ w'.heap[b]? = some opsM ∧ w.heap.size ≤ b ∧ Below w.heap.size w w' := by
  have i0 := fun v => run_ins w #[] 0 0 v rfl
  have i1 := fun v0 v => run_ins w #[⟨.int .i64 0, v0, 0⟩] 1 1 v rfl
  have i2 := fun v0 v1 v => run_ins w #[⟨.int .i64 0, v0, 0⟩, ⟨.int .i64 1, v1, 1⟩] 2 2 v rfl
  have i3 := fun v0 v1 v2 v => run_ins w #[⟨.int .i64 0, v0, 0⟩, ⟨.int .i64 1, v1, 1⟩, ⟨.int .i64 2, v2, 2⟩] 3 3 v rfl
  have i4 := fun v0 v1 v2 v3 v => run_ins w #[⟨.int .i64 0, v0, 0⟩, ⟨.int .i64 1, v1, 1⟩, ⟨.int .i64 2, v2, 2⟩, ⟨.int .i64 3, v3, 3⟩] 4 4 v rfl
  have i5 := fun v0 v1 v2 v3 v4 v => run_ins w #[⟨.int .i64 0, v0, 0⟩, ⟨.int .i64 1, v1, 1⟩, ⟨.int .i64 2, v2, 2⟩, ⟨.int .i64 3, v3, 3⟩, ⟨.int .i64 4, v4, 4⟩] 5 5 v rfl
  have i6 := fun v0 v1 v2 v3 v4 v5 v => run_ins w #[⟨.int .i64 0, v0, 0⟩, ⟨.int .i64 1, v1, 1⟩, ⟨.int .i64 2, v2, 2⟩, ⟨.int .i64 3, v3, 3⟩, ⟨.int .i64 4, v4, 4⟩, ⟨.int .i64 5, v5, 5⟩] 6 6 v rfl
  have m81 := mk81
  have m83 := mk83
  have m85 := mk85
  have hmk := @run_makeMap Tryz.prog
  go_enter Tryz.func26, Tryz.ntmps26
  go_wp2_with fail
  go_ret
  exact ⟨w.heap.size, rfl, by rw [heap_alloc_if, if_pos rfl]; rfl, Nat.le_refl _, (Below.refl _ _).alloc (Nat.le_refl _) _⟩
end Go.Proofs.YtphbkbjgjicncaaGreat
