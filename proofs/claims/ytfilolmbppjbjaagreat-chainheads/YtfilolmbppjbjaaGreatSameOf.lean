/-
  Whether two rows of events are the same: what the reference's 'Same' returns.
-/
import Derived.Test.YtfilolmbppjbjaaGreatWorks
namespace Go.Proofs.YtfilolmbppjbjaaGreat
open Go Go.RowKit

def sameL : List Ev → List Ev → Bool
  | [], [] => true
  | x :: a, y :: b => evB x y && sameL a b
  | _, _ => false
theorem sameL_iff (a b : List Ev) : sameL a b = true ↔ a = b := by
  induction a generalizing b with
  | nil => cases b <;> simp [sameL]
  | cons x a ih =>
    cases b with
    | nil => simp [sameL]
    | cons y b => simp [sameL, evB_iff, ih]
theorem same_false {a b : List Ev} (h : a ≠ b) : sameL a b = false := by
  cases e : sameL a b with
  | false => rfl
  | true => exact absurd ((sameL_iff a b).1 e) h
theorem index22 (b o n c k : Nat) (hk : k < n) (v : World) : (Instr.indexAt 24 (.slice (some ⟨b, o, none⟩) n c) (.int .i64 (k : Int))).run Tryz.prog v = .ok (.pointer (some ⟨b, o + k * 37, none⟩)) v := by
  rw [run_indexAt_slice (P := Tryz.prog) v 24 ⟨b, o, none⟩ n c .i64 (k : Int) (by kernel_rfl)]
  have e1 : Tryz.prog.elem 24 = 34 := by kernel_rfl
  simp [e1, Tryz.sizeOf34, hk, Addr.add_mid]
theorem load_ev (e : Ev) (hs : e.sum.length = 32) (b o : Nat) (v : World) (h : v.rangeAt b o (evr e).toList) : (Instr.loadAt 34 (.pointer (some ⟨b, o, none⟩))).run Tryz.prog v = .ok (.agg (evr e)) v := by
  have := run_loadAt_mid (P := Tryz.prog) v b o 34 (evr e).toList _ h Tryz.underlying34 rfl (by rw [Array.length_toList, evr_size, hs]; exact info41)
  simpa using this

end Go.Proofs.YtfilolmbppjbjaaGreat
