/-
  What start and roundKeys of the program return, handed the first 64 primes.
-/
import Derived.Test.YtphbkbjgjicncaaSLeafs
import Derived.Test.YtphbkbjgjicncaaSCells
import Derived.Test.YtphbkbjgjicncaaSLaws
namespace Go.Proofs.Ytphbkbjgjicncaa.sh
open Go.RowKit

def PR : List Nat := [2, 3, 5, 7, 11, 13, 17, 19, 23, 29, 31, 37, 41, 43, 47, 53, 59, 61, 67, 71, 73, 79, 83, 89, 97, 101, 103, 107, 109, 113, 127, 131, 137, 139, 149, 151, 157, 163, 167, 173, 179, 181, 191, 193, 197, 199, 211, 223, 227, 229, 233, 239, 241, 251, 257, 263, 269, 271, 277, 281, 283, 293, 307, 311]

theorem start_vals : ∀ i : Fin 8, BitVec.ofNat 32 (bpf sqB (PR.getD i.val 0) 35) = H0.toL.getD i.val 0#32 := by decide +kernel
theorem keys_vals : ∀ i : Fin 64, BitVec.ofNat 32 (bpf cuB (PR.getD i.val 0) 35) = K0.getD i.val 0#32 := by decide +kernel

def hcells (k : Nat) : Array Value := ws (pz 0#32 8 (H0.toL.take k))
theorem hcells_zero : hcells 0 = #[.int .u32 0, .int .u32 0, .int .u32 0, .int .u32 0, .int .u32 0, .int .u32 0, .int .u32 0, .int .u32 0] := rfl
theorem hcells_size (k : Nat) : (hcells k).size = 8 := by
  unfold hcells; rw [ws_size, pz_length]; simp [St.toL]; omega
theorem hcells_set (k : Nat) (h : k < 8) : (hcells k).setIfInBounds k (.int .u32 (V (BitVec.ofNat 32 (bpf sqB (PR[k]?.getD 0) 35)))) = hcells (k + 1) := by
  unfold hcells
  have e := start_vals ⟨k, h⟩
  simp only at e
  rw [← List.getD_eq_getElem?_getD, e, ws_set, take_snocD 0#32 _ _ (by simpa [St.toL] using h)]
  have hl : (H0.toL.take k).length = k := by simp [St.toL]; omega
  have := pz_set 0#32 8 (H0.toL.take k) (H0.toL.getD k 0#32) (by omega)
  rw [hl] at this
  rw [this]

theorem hcells_at (k j : Nat) (h : j < 8) : (hcells k)[j]? = some (.int .u32 (V ((H0.toL.take k).getD j 0#32))) := by
  unfold hcells
  rw [ws_at _ _ (by rw [pz_length]; exact h; simp [St.toL]; omega), pz_getD]
theorem pr_at (j : Nat) (h : j < 64) : (us PR)[j]? = some (.int .u64 ((PR.getD j 0 : Nat) : Int)) := us_at _ _ h
theorem pr_size : (us PR).size = 64 := rfl

set_option maxHeartbeats 400000 in
theorem start_any (w : World) :
    Calls Try.prog 47 #[.agg (us PR)] w fun e w' => e = .returned (.agg (ws H0.toL)) ∧ Below w.heap.size w w' := by
  go_enter Try.func47, Try.ntmps47
  go_wp2_with fail
  rw [← hcells_zero]
  go_loopw [5] (fun i wr => ∃ k : Nat, k ≤ 8 ∧ i = .int .i64 k ∧ wr = ((w.alloc (.cells (us PR) 67)).alloc (.cells (hcells 0) 70)).alloc (.cells (hcells k) 70)) (fun i _ => 8 - (intOf i).toNat)
  case atStart => exact ⟨0, by omega, rfl, rfl⟩
  case round =>
    obtain ⟨k, hk, rfl, rfl⟩ := hrel
    by_cases hlt : k < 8
    · have hb : (k : Int) < 8 := by omega
      have hb2 : (k : Int) < 64 := by omega
      have h1 := pr_at k (by omega)
      have h2 := hcells_at k k hlt
      have h3 := Lib.hid (hcells_set k hlt)
      go_wp2_with fail
      refine (behind_sq _ _).mono ?_
      rintro e w' ⟨rfl, rfl⟩
      go_wp2_with fail
      go_roundw
      case rel => exact ⟨k + 1, by omega, by go_num, by rw [← h3.out]⟩
      case measure => simp [intOf]; omega
    · obtain rfl : k = 8 := by omega
      have hB1 : (((w.alloc (.cells (us PR) 67)).alloc (.cells (hcells 0) 70)).alloc (.cells (hcells 8) 70)).heap[w.heap.size + 1]? = some (.cells (hcells 0) 70) := by rw [heap_alloc_if, if_neg (by simp), heap_alloc_if, if_pos (by simp)]
      have hB2 : (((w.alloc (.cells (us PR) 67)).alloc (.cells (hcells 0) 70)).alloc (.cells (hcells 8) 70)).heap[w.heap.size + 1 + 1]? = some (.cells (hcells 8) 70) := by rw [heap_alloc_if, if_pos (by simp)]
      go_wp2_with (first
        | (with_reducible refine wpList_load_row rfl 70 (.tmp 3) rfl _ rfl 70 (hcells 8) _ hB2 Try.underlying70 rfl (by kernel_rfl) ?_)
        | (with_reducible refine wpList_store_row rfl 70 (.tmp 2) (.tmp 15) rfl _ (hcells 8) rfl rfl 70 (hcells 0) hB1 (by kernel_rfl) (by kernel_rfl) (by kernel_rfl) ?_))
      exact bodyPost_row 2 70 rfl _ rfl 70 (hcells 8) _ (setRow_heap _ _ _ _ _ _ hB1) Try.underlying70 rfl (by kernel_rfl) rfl ⟨rfl, below_setRow (by go_grown) (by simp) _⟩

def kcells (k : Nat) : Array Value := ws (pz 0#32 64 (K0.take k))
theorem kcells_zero : kcells 0 = #[.int .u32 0, .int .u32 0, .int .u32 0, .int .u32 0, .int .u32 0, .int .u32 0, .int .u32 0, .int .u32 0, .int .u32 0, .int .u32 0, .int .u32 0, .int .u32 0, .int .u32 0, .int .u32 0, .int .u32 0, .int .u32 0, .int .u32 0, .int .u32 0, .int .u32 0, .int .u32 0, .int .u32 0, .int .u32 0, .int .u32 0, .int .u32 0, .int .u32 0, .int .u32 0, .int .u32 0, .int .u32 0, .int .u32 0, .int .u32 0, .int .u32 0, .int .u32 0, .int .u32 0, .int .u32 0, .int .u32 0, .int .u32 0, .int .u32 0, .int .u32 0, .int .u32 0, .int .u32 0, .int .u32 0, .int .u32 0, .int .u32 0, .int .u32 0, .int .u32 0, .int .u32 0, .int .u32 0, .int .u32 0, .int .u32 0, .int .u32 0, .int .u32 0, .int .u32 0, .int .u32 0, .int .u32 0, .int .u32 0, .int .u32 0, .int .u32 0, .int .u32 0, .int .u32 0, .int .u32 0, .int .u32 0, .int .u32 0, .int .u32 0, .int .u32 0] := rfl
theorem K0_len : K0.length = 64 := rfl
theorem kcells_at (k j : Nat) (h : j < 64) : (kcells k)[j]? = some (.int .u32 (V ((K0.take k).getD j 0#32))) := by
  unfold kcells
  rw [ws_at _ _ (by rw [pz_length]; exact h; rw [List.length_take, K0_len]; omega), pz_getD]
theorem kcells_set (k : Nat) (h : k < 64) : (kcells k).setIfInBounds k (.int .u32 (V (BitVec.ofNat 32 (bpf cuB (PR.getD k 0) 35)))) = kcells (k + 1) := by
  unfold kcells
  have e := keys_vals ⟨k, h⟩
  simp only at e
  rw [e, ws_set, take_snocD 0#32 _ _ (by rw [K0_len]; exact h)]
  have hl : (K0.take k).length = k := by rw [List.length_take, K0_len]; omega
  have := pz_set 0#32 64 (K0.take k) (K0.getD k 0#32) (by omega)
  rw [hl] at this
  rw [this]
/-- The k-th prime, under a name. -/
def prm (k : Nat) : Nat := PR.getD k 0
theorem prm_at (j : Nat) (h : j < 64) : (us PR)[j]? = some (.int .u64 (prm j : Int)) := us_at _ _ h

set_option maxHeartbeats 400000 in
set_option maxRecDepth 100000 in
theorem keys_any (w : World) :
    Calls Try.prog 48 #[.agg (us PR)] w fun e w' => e = .returned (.agg (ws K0)) ∧ Below w.heap.size w w' := by
  go_enter Try.func48, Try.ntmps48
  go_wp2_with (with_reducible refine wpList_load_row rfl 67 (.tmp 1) rfl _ rfl 67 (us PR) _ ?hB Try.underlying67 rfl (by kernel_rfl) ?_)
  case hB => rw [heap_alloc_if, if_neg (by simp; omega), heap_alloc_if, if_neg (by simp), heap_alloc_if, if_pos rfl]
  rw [← kcells_zero]
  go_loopw [7] (fun i wr => ∃ k : Nat, k ≤ 64 ∧ i = .int .i64 k ∧ wr = ((w.alloc (.cells (us PR) 67)).alloc (.cells (kcells 0) 72)).alloc (.cells (kcells k) 72)) (fun i _ => 64 - (intOf i).toNat)
  case atStart => exact ⟨0, by omega, rfl, rfl⟩
  case round =>
    obtain ⟨k, hk, rfl, rfl⟩ := hrel
    by_cases hlt : k < 64
    · have hb : (k : Int) < 64 := by omega
      have h1 := fun v => run_index_row (P := Try.prog) 67 66 64 (us PR) k _ Try.underlying67 Try.isAgg66 Try.sizeOf66 hlt (prm_at k hlt) v
      have h2 := kcells_at k k hlt
      have h3 := Lib.hid (kcells_set k hlt)
      go_wp2_with fail
      refine (behind_cu _ _).mono ?_
      rintro e w' ⟨rfl, rfl⟩
      go_wp2_with fail
      go_roundw
      case rel => exact ⟨k + 1, by omega, by go_num, by rw [← h3.out]; rfl⟩
      case measure => simp [intOf]; omega
    · obtain rfl : k = 64 := by omega
      have hB1 : (((w.alloc (.cells (us PR) 67)).alloc (.cells (kcells 0) 72)).alloc (.cells (kcells 64) 72)).heap[w.heap.size + 1]? = some (.cells (kcells 0) 72) := by rw [heap_alloc_if, if_neg (by simp), heap_alloc_if, if_pos (by simp)]
      have hB2 : (((w.alloc (.cells (us PR) 67)).alloc (.cells (kcells 0) 72)).alloc (.cells (kcells 64) 72)).heap[w.heap.size + 1 + 1]? = some (.cells (kcells 64) 72) := by rw [heap_alloc_if, if_pos (by simp)]
      go_wp2_with (first
        | (with_reducible refine wpList_load_row rfl 72 (.tmp 3) rfl _ rfl 72 (kcells 64) _ hB2 Try.underlying72 rfl (by kernel_rfl) ?_)
        | (with_reducible refine wpList_store_row rfl 72 (.tmp 2) (.tmp 16) rfl _ (kcells 64) rfl rfl 72 (kcells 0) hB1 (by kernel_rfl) (by kernel_rfl) (by kernel_rfl) ?_))
      exact bodyPost_row 2 72 rfl _ rfl 72 (kcells 64) _ (setRow_heap _ _ _ _ _ _ hB1) Try.underlying72 rfl (by kernel_rfl) rfl ⟨rfl, below_setRow (by go_grown) (by simp) _⟩

end Go.Proofs.Ytphbkbjgjicncaa.sh
