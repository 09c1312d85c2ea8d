/-
  What primes of the program returns: the first 64 primes.
-/
import Derived.Test.YtphbkbjgjicncaaSRoots
namespace Go.Proofs.Ytphbkbjgjicncaa.sh
open Go.RowKit

/-- So many multiples of p, from its square on, are struck. -/
def mks (p : Nat) (D : List Bool) : Nat → List Bool
  | 0 => D
  | j + 1 => (mks p D j).set (p * p + j * p) true
theorem mks_length (p : Nat) (D : List Bool) (j : Nat) : (mks p D j).length = D.length := by
  induction j with
  | zero => rfl
  | succ j ih => simp [mks, ih]
/-- How many there are. -/
def cnt (p : Nat) : Nat := if p * p ≤ 311 then (311 - p * p) / p + 1 else 0
def D0 : List Bool := List.replicate 312 false
/-- What has been found, and what is struck, behind so many numbers from 2 on. -/
def sv : Nat → List Nat × List Bool
  | 0 => ([], D0)
  | i + 1 => if (sv i).2.getD (i + 2) false then sv i else ((sv i).1 ++ [i + 2], mks (i + 2) (sv i).2 (cnt (i + 2)))
theorem sv_len (i : Nat) : (sv i).2.length = 312 := by
  induction i with
  | zero => exact List.length_replicate
  | succ i ih => unfold sv; split <;> simp [ih, mks_length]
theorem sv_mono (i k : Nat) : (sv i).1.length ≤ (sv (i + k)).1.length := by
  induction k with
  | zero => exact Nat.le_refl _
  | succ k ih =>
    refine Nat.le_trans ih ?_
    show _ ≤ (sv ((i + k) + 1)).1.length
    rw [show sv ((i + k) + 1) = if (sv (i + k)).2.getD (i + k + 2) false then sv (i + k) else ((sv (i + k)).1 ++ [i + k + 2], mks (i + k + 2) (sv (i + k)).2 (cnt (i + k + 2))) from rfl]
    split <;> simp
set_option maxRecDepth 100000 in
theorem sv_all : (sv 310).1 = PR := by decide +kernel
theorem sv_room (i : Nat) (hi : i < 310) (h : (sv i).2.getD (i + 2) false = false) : (sv i).1.length < 64 := by
  have h1 := sv_mono (i + 1) (310 - (i + 1))
  rw [show i + 1 + (310 - (i + 1)) = 310 by omega, sv_all] at h1
  have h2 : PR.length = 64 := rfl
  have h3 : (sv (i + 1)).1.length = (sv i).1.length + 1 := by
    rw [show sv (i + 1) = if (sv i).2.getD (i + 2) false then sv i else ((sv i).1 ++ [i + 2], mks (i + 2) (sv i).2 (cnt (i + 2))) from rfl, h]
    simp
  omega
theorem sv_room' (i : Nat) (hi : i ≤ 310) : (sv i).1.length ≤ 64 := by
  have h1 := sv_mono i (310 - i)
  rw [show i + (310 - i) = 310 by omega, sv_all] at h1
  exact h1

def fcells (l : List Nat) : Array Value := us (pz 0 64 l)
theorem fcells_zero : fcells [] = #[.int .u64 0, .int .u64 0, .int .u64 0, .int .u64 0, .int .u64 0, .int .u64 0, .int .u64 0, .int .u64 0, .int .u64 0, .int .u64 0, .int .u64 0, .int .u64 0, .int .u64 0, .int .u64 0, .int .u64 0, .int .u64 0, .int .u64 0, .int .u64 0, .int .u64 0, .int .u64 0, .int .u64 0, .int .u64 0, .int .u64 0, .int .u64 0, .int .u64 0, .int .u64 0, .int .u64 0, .int .u64 0, .int .u64 0, .int .u64 0, .int .u64 0, .int .u64 0, .int .u64 0, .int .u64 0, .int .u64 0, .int .u64 0, .int .u64 0, .int .u64 0, .int .u64 0, .int .u64 0, .int .u64 0, .int .u64 0, .int .u64 0, .int .u64 0, .int .u64 0, .int .u64 0, .int .u64 0, .int .u64 0, .int .u64 0, .int .u64 0, .int .u64 0, .int .u64 0, .int .u64 0, .int .u64 0, .int .u64 0, .int .u64 0, .int .u64 0, .int .u64 0, .int .u64 0, .int .u64 0, .int .u64 0, .int .u64 0, .int .u64 0, .int .u64 0] := rfl
def dcells (l : List Bool) : Array Value := bls l
set_option maxRecDepth 100000 in
theorem zero55 : (Try.prog.info? 94).map (fun i => (i.zero, i.size)) = some (some (.agg (dcells D0)), 312) := by kernel_rfl

theorem fcells_at (l : List Nat) (h : l.length ≤ 64) (j : Nat) (hj : j < 64) : (fcells l)[j]? = some (.int .u64 ((l.getD j 0 : Nat) : Int)) := by
  unfold fcells
  rw [us_at _ _ (by rw [pz_length _ _ _ h]; exact hj), pz_getD]
theorem fcells_set (l : List Nat) (h : l.length < 64) (x : Nat) : (fcells l).setIfInBounds l.length (.int .u64 (x : Int)) = fcells (l ++ [x]) := by
  unfold fcells; rw [us_set, pz_set _ _ _ _ h]
theorem dcells_at (l : List Bool) (h : l.length = 312) (j : Nat) (hj : j < 312) : (dcells l)[j]? = some (.bool (l.getD j false)) := bls_at _ _ (by omega)
theorem dcells_set (l : List Bool) (j : Nat) (b : Bool) : (dcells l).setIfInBounds j (.bool b) = dcells (l.set j b) := bls_set _ _ _
theorem sv_yes (i : Nat) (h : (sv i).2.getD (i + 2) false = true) : sv (i + 1) = sv i := by
  rw [show sv (i + 1) = if (sv i).2.getD (i + 2) false then sv i else ((sv i).1 ++ [i + 2], mks (i + 2) (sv i).2 (cnt (i + 2))) from rfl, h]; rfl
theorem sv_no (i : Nat) (h : (sv i).2.getD (i + 2) false = false) : sv (i + 1) = ((sv i).1 ++ [i + 2], mks (i + 2) (sv i).2 (cnt (i + 2))) := by
  rw [show sv (i + 1) = if (sv i).2.getD (i + 2) false then sv i else ((sv i).1 ++ [i + 2], mks (i + 2) (sv i).2 (cnt (i + 2))) from rfl, h]; rfl

theorem sq_wrap (i : Nat) (h : i < 310) : wrap64 (((i : Int) + 2) * ((i : Int) + 2)) = (((i + 2) * (i + 2) : Nat) : Int) := by
  have h1 : (i + 2) * (i + 2) ≤ 311 * 311 := Nat.mul_le_mul (by omega) (by omega)
  have e : ((i : Int) + 2) * ((i : Int) + 2) = (((i + 2) * (i + 2) : Nat) : Int) := by rw [Int.natCast_mul]; rfl
  rw [e]
  unfold wrap64
  omega
theorem cnt_more (p j : Nat) (hp : 0 < p) (h : p * p + j * p ≤ 311) : j < cnt p := by
  unfold cnt
  rw [if_pos (by omega)]
  have : j ≤ (311 - p * p) / p := (Nat.le_div_iff_mul_le hp).2 (by omega)
  omega
theorem cnt_end (p j : Nat) (hp : 0 < p) (h : ¬ p * p + j * p ≤ 311) (hj : j ≤ cnt p) : j = cnt p := by
  unfold cnt at hj ⊢
  by_cases h1 : p * p ≤ 311
  · rw [if_pos h1] at hj ⊢
    have h2 : ¬ j ≤ (311 - p * p) / p := fun h3 => by
      have := (Nat.le_div_iff_mul_le hp).1 h3
      omega
    omega
  · rw [if_neg h1] at hj ⊢; omega

set_option maxHeartbeats 1000000 in
set_option maxRecDepth 100000 in
theorem primes_any (w : World) :
    Calls Try.prog 46 #[] w fun e w' => e = .returned (.agg (us PR)) ∧ Below w.heap.size w w' := by
  have hz := (zero_of_info zero55).1
  go_enter Try.func46, Try.ntmps46
  go_wp2_with fail
  rw [← fcells_zero]
  go_loopw [3, 4] (fun n p wr => ∃ i : Nat, i ≤ 310 ∧ p = .int .i64 ((i : Int) + 2) ∧ n = .int .i64 ((sv i).1.length : Int) ∧ wr = ((w.alloc (.cells (fcells []) 67)).alloc (.cells (fcells (sv i).1) 67)).alloc (.cells (dcells (sv i).2) 94)) (fun _ p _ => 312 - (intOf p).toNat)
  case atStart => exact ⟨0, by omega, rfl, rfl, rfl⟩
  case round =>
    obtain ⟨i, hi, rfl, rfl, rfl⟩ := hrel
    by_cases hlt : i < 310
    · have hb : (i : Int) + 2 ≤ 311 := by omega
      have hb2 : (i : Int) + 2 < 312 := by omega
      have hb3 : ((i : Int) + 2).toNat = i + 2 := by omega
      have h1 := dcells_at (sv i).2 (sv_len i) (i + 2) (by omega)
      cases hd : (sv i).2.getD (i + 2) false
      · rw [hd] at h1
        have hr := sv_room i hlt hd
        have hr' : ((sv i).1.length : Int) < 64 := by omega
        have h2 := fcells_at (sv i).1 (by omega) (sv i).1.length hr
        have hs := Lib.hid (sv_no i hd)
        have hf := Lib.hid (fcells_set (sv i).1 hr (i + 2))
        have hl := Lib.hid (sv_len i)
        have hq := sq_wrap i hlt
        have hq2 : (i + 2) * (i + 2) ≤ 96721 := Nat.mul_le_mul (show i + 2 ≤ 311 by omega) (show i + 2 ≤ 311 by omega)
        obtain ⟨q, hQ⟩ : ∃ q, (i + 2) * (i + 2) = q := ⟨_, rfl⟩
        rw [hQ] at hq hq2
        have hQ' := Lib.hid hQ
        clear hd hQ
        revert h1 h2 hs hf hl hr hr'
        generalize (sv i).1 = F
        generalize (sv i).2 = D
        intro h1 hr hr' h2 hs hf hl
        go_wp2_with fail
        have hc : (Value.int IntKind.u64 ((i : Int) + 2)) = .int .u64 ((i + 2 : Nat) : Int) := by go_num
        rw [hc, hf.out]
        have hqh := Lib.hid hq
        clear hc hq h1 h2
        go_loopw [5] (fun m wr => ∃ j mm : Nat, j ≤ cnt (i + 2) ∧ Hid (mm = q + j * (i + 2)) ∧ mm ≤ 96721 ∧ m = .int .i64 (mm : Int) ∧ wr = ((w.alloc (.cells (fcells []) 67)).alloc (.cells (fcells (F ++ [i + 2])) 67)).alloc (.cells (dcells (mks (i + 2) D j)) 94)) (fun m _ => 96721 - (intOf m).toNat)
        case atStart => exact ⟨0, q, by omega, by show _ = _; omega, by omega, by rw [hqh.out], rfl⟩
        case round =>
          obtain ⟨j, mm, hj, hm, hmm, rfl, rfl⟩ := hrel
          by_cases hle : mm ≤ 311
          · have hle' : (mm : Int) ≤ 311 := by omega
            have hle2 : (mm : Int) < 312 := by omega
            have hjl := cnt_more (i + 2) j (by omega) (by have := hm.out; have := hQ'.out; omega)
            have h1 := dcells_at (mks (i + 2) D j) (by rw [mks_length]; exact hl.out) mm (by omega)
            have hset := Lib.hid (dcells_set (mks (i + 2) D j) mm true)
            go_wp2_with fail
            go_roundw
            case rel =>
              refine ⟨j + 1, mm + (i + 2), by omega, ?_, by omega, by go_num, ?_⟩
              · show _ = _
                rw [hm.out, Nat.succ_mul]; omega
              · rw [hset.out, hm.out, ← hQ'.out]; rfl
            case measure => simp [intOf]; omega
          · have hle' : ¬ (mm : Int) ≤ 311 := by omega
            have hje := cnt_end (i + 2) j (by omega) (by have := hm.out; have := hQ'.out; omega) hj
            subst hje
            clear hm
            go_wp2_with fail
            go_roundw
            case rel => exact ⟨i + 1, by omega, by go_num, by rw [hs.out]; simp, by rw [hs.out]⟩
            case measure => simp [intOf]; omega
      · rw [hd] at h1
        have hs := Lib.hid (sv_yes i hd)
        clear hd
        go_wp2_with fail
        go_roundw
        case rel => exact ⟨i + 1, by omega, by go_num, by rw [hs.out], by rw [hs.out]⟩
        case measure => simp [intOf]; omega
    · obtain rfl : i = 310 := by omega
      have hB0 : (((w.alloc (.cells (fcells []) 67)).alloc (.cells (fcells (sv 310).1) 67)).alloc (.cells (dcells (sv 310).2) 94)).heap[w.heap.size]? = some (.cells (fcells []) 67) := by rw [heap_alloc_if, if_neg (by simp; omega), heap_alloc_if, if_neg (by simp), heap_alloc_if, if_pos rfl]
      have hB1 : (((w.alloc (.cells (fcells []) 67)).alloc (.cells (fcells (sv 310).1) 67)).alloc (.cells (dcells (sv 310).2) 94)).heap[w.heap.size + 1]? = some (.cells (us PR) 67) := by rw [heap_alloc_if, if_neg (by simp), heap_alloc_if, if_pos (by simp), sv_all]; rfl
      have hb : ¬ ((310 : Nat) : Int) + 2 ≤ 311 := by omega
      revert hB0 hB1
      generalize (sv 310).1 = F
      generalize (sv 310).2 = D
      intro hB0 hB1
      go_wp2_with (first
        | (with_reducible refine wpList_load_row rfl 67 (.tmp 1) rfl _ rfl 67 (us PR) _ hB1 Try.underlying67 rfl (by kernel_rfl) ?_)
        | (with_reducible refine wpList_store_row rfl 67 (.tmp 0) (.tmp 29) rfl _ (us PR) rfl rfl 67 (fcells []) hB0 (by kernel_rfl) (by kernel_rfl) (by kernel_rfl) ?_))
      exact bodyPost_row 0 67 rfl _ rfl 67 (us PR) _ (setRow_heap _ _ _ _ _ _ hB0) Try.underlying67 rfl (by kernel_rfl) rfl ⟨rfl, below_setRow (by go_grown) (by simp) _⟩
end Go.Proofs.Ytphbkbjgjicncaa.sh
