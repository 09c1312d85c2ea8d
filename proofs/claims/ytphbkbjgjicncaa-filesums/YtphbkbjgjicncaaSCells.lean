/-
  Rows of words, numbers, bytes and bools as the cells of a block: plain facts. No call is walked here.
-/
import Derived.Test.YtphbkbjgjicncaaSWords
import Derived.Below
namespace Go.Proofs.Ytphbkbjgjicncaa.sh
open Go.RowKit

def ws (l : List (BitVec 32)) : Array Value := (l.map fun c => Value.int .u32 (V c)).toArray
def us (l : List Nat) : Array Value := (l.map fun n : Nat => Value.int .u64 (n : Int)).toArray
def bls (l : List Bool) : Array Value := (l.map Value.bool).toArray
def row (l : List UInt8) : Array Value := (l.map fun b => Value.int .u8 (b.toNat : Int)).toArray

theorem ws_size (l : List (BitVec 32)) : (ws l).size = l.length := by simp [ws]
theorem us_size (l : List Nat) : (us l).size = l.length := by simp [us]
theorem bls_size (l : List Bool) : (bls l).size = l.length := by simp [bls]
theorem row_size (l : List UInt8) : (row l).size = l.length := by simp [row]
theorem ws_at (l : List (BitVec 32)) (j : Nat) (h : j < l.length) : (ws l)[j]? = some (.int .u32 (V (l.getD j 0#32))) := by
  unfold ws; simp [h]
theorem us_at (l : List Nat) (j : Nat) (h : j < l.length) : (us l)[j]? = some (.int .u64 ((l.getD j 0 : Nat) : Int)) := by
  unfold us; simp [h]
theorem bls_at (l : List Bool) (j : Nat) (h : j < l.length) : (bls l)[j]? = some (.bool (l.getD j false)) := by
  unfold bls; simp [h]
theorem row_at (l : List UInt8) (j : Nat) (h : j < l.length) : (row l)[j]? = some (.int .u8 ((l.getD j 0).toNat : Int)) := by
  unfold row; simp [h]
theorem ws_set (l : List (BitVec 32)) (k : Nat) (c : BitVec 32) : (ws l).setIfInBounds k (.int .u32 (V c)) = ws (l.set k c) := by
  unfold ws; simp [List.map_set]
theorem us_set (l : List Nat) (k n : Nat) : (us l).setIfInBounds k (.int .u64 (n : Int)) = us (l.set k n) := by
  unfold us; simp [List.map_set]
theorem bls_set (l : List Bool) (k : Nat) (b : Bool) : (bls l).setIfInBounds k (.bool b) = bls (l.set k b) := by
  unfold bls; simp [List.map_set]
theorem row_set (l : List UInt8) (k : Nat) (b : UInt8) : (row l).setIfInBounds k (.int .u8 (b.toNat : Int)) = row (l.set k b) := by
  unfold row; simp [List.map_set]

/-- A row, and what is not there yet. -/
def pz {α : Type} (z : α) (n : Nat) (l : List α) : List α := l ++ List.replicate (n - l.length) z
theorem pz_length {α : Type} (z : α) (n : Nat) (l : List α) (h : l.length ≤ n) : (pz z n l).length = n := by
  simp [pz]; omega
theorem pz_getD {α : Type} (z : α) (n : Nat) (l : List α) (i : Nat) : (pz z n l).getD i z = l.getD i z := by
  unfold pz
  rw [List.getD_eq_getElem?_getD, List.getD_eq_getElem?_getD]
  by_cases h : i < l.length
  · rw [List.getElem?_append_left h]
  · rw [List.getElem?_append_right (by omega), List.getElem?_eq_none (l := l) (by omega)]
    by_cases h2 : i - l.length < n - l.length
    · rw [List.getElem?_replicate, if_pos h2]; rfl
    · rw [List.getElem?_replicate, if_neg h2]
theorem pz_set {α : Type} (z : α) (n : Nat) (l : List α) (x : α) (h : l.length < n) : (pz z n l).set l.length x = pz z n (l ++ [x]) := by
  unfold pz
  rw [List.set_append_right _ _ (Nat.le_refl _), Nat.sub_self]
  obtain ⟨m, hm⟩ : ∃ m, n - l.length = m + 1 := ⟨n - l.length - 1, by omega⟩
  rw [hm, List.replicate_succ, List.set_cons_zero, show n - (l ++ [x]).length = m by simp; omega]
  simp
theorem pz_zero {α : Type} (z : α) (n : Nat) (l : List α) (h : l.length < n) : pz z n (l ++ [z]) = pz z n l := by
  unfold pz
  obtain ⟨m, hm⟩ : ∃ m, n - l.length = m + 1 := ⟨n - l.length - 1, by omega⟩
  rw [hm, List.replicate_succ, show n - (l ++ [z]).length = m by simp; omega]
  simp
theorem pz_full {α : Type} (z : α) (n : Nat) (l : List α) (h : l.length = n) : pz z n l = l := by
  unfold pz; rw [h]; simp
theorem take_snocD {α : Type} (z : α) (l : List α) (k : Nat) (h : k < l.length) : l.take (k + 1) = l.take k ++ [l.getD k z] := by
  rw [List.take_succ_eq_append_getElem h, List.getD_eq_getElem?_getD, List.getElem?_eq_getElem h]; rfl

end Go.Proofs.Ytphbkbjgjicncaa.sh
