/-
  What right, shift, roots, cubes and Text of the reference return.
-/
import Derived.Test.YtfilolmbppjbjaaGreatGsha
import Derived.BigQuiet
import Derived.Deep.QuietTactic
namespace Go.Proofs.YtfilolmbppjbjaaGreat.sh
open Go.RowKit

/-- One turn. -/
def r1 (x : BitVec 32) : BitVec 32 := if x.getLsbD 0 then (x >>> (1 : Nat)) + 2147483648#32 else x >>> (1 : Nat)
def rN (x : BitVec 32) : Nat → BitVec 32
  | 0 => x
  | n + 1 => r1 (rN x n)
theorem r1_bit (x : BitVec 32) (i : Nat) (h : i < 32) : (r1 x).getLsbD i = x.getLsbD ((i + 1) % 32) := by
  have hm : ∀ j : Fin 32, (2147483648#32).getLsbD j.val = decide (j.val = 31) := by decide
  have hz : (x >>> (1 : Nat)) &&& 2147483648#32 = 0#32 := by
    apply BitVec.eq_of_getLsbD_eq
    intro j hj
    rw [BitVec.getLsbD_and, BitVec.getLsbD_ushiftRight, hm ⟨j, hj⟩, BitVec.getLsbD_zero]
    by_cases e : j = 31
    · subst e; rw [BitVec.getLsbD_of_ge _ _ (by omega)]; rfl
    · simp [e]
  unfold r1
  cases h0 : x.getLsbD 0
  · simp only [Bool.false_eq_true, if_false]
    rw [BitVec.getLsbD_ushiftRight]
    by_cases e : i = 31
    · subst e; rw [BitVec.getLsbD_of_ge _ _ (by omega)]; exact h0.symm
    · rw [show (i + 1) % 32 = 1 + i by omega]
  · simp only [if_true]
    rw [BitVec.add_eq_or_of_and_eq_zero _ _ hz, BitVec.getLsbD_or, BitVec.getLsbD_ushiftRight, hm ⟨i, h⟩]
    by_cases e : i = 31
    · subst e; rw [show (31 + 1) % 32 = 0 by omega, h0]; simp
    · rw [show (i + 1) % 32 = 1 + i by omega]; simp [e]
theorem rN_bit (x : BitVec 32) (n i : Nat) (h : i < 32) : (rN x n).getLsbD i = x.getLsbD ((i + n) % 32) := by
  induction n generalizing i with
  | zero => show x.getLsbD i = _; rw [Nat.add_zero, Nat.mod_eq_of_lt h]
  | succ n ih =>
    show (r1 (rN x n)).getLsbD i = _
    rw [r1_bit _ _ h, ih _ (Nat.mod_lt _ (by decide))]
    congr 1
    omega
theorem rN_rot (x : BitVec 32) (n : Nat) (h0 : 0 < n) (h1 : n < 32) : rN x n = rot x n := by
  apply BitVec.eq_of_getLsbD_eq
  intro i hi
  rw [rN_bit x n i hi]
  unfold rot
  rw [BitVec.getLsbD_or, BitVec.getLsbD_shiftLeft, BitVec.getLsbD_ushiftRight]
  by_cases h : i < 32 - n
  · rw [show (i + n) % 32 = n + i by omega]
    simp [h]
  · rw [show (i + n) % 32 = i - (32 - n) by omega, BitVec.getLsbD_of_ge x (n + i) (by omega)]
    simp [h, hi]
theorem r1_even (a : BitVec 32) (h : a.getLsbD 0 = false) : r1 a = a >>> (1 : Nat) := by unfold r1; rw [h]; rfl
theorem r1_odd (a : BitVec 32) (h : a.getLsbD 0 = true) : r1 a = (a >>> (1 : Nat)) + 2147483648#32 := by unfold r1; rw [h]; rfl
theorem shr1_lt (a : BitVec 32) : V (a >>> (1 : Nat)) ≤ 2147483647 := by
  have := a.isLt
  unfold V; rw [BitVec.toNat_ushiftRight, Nat.shiftRight_eq_div_pow]; omega
theorem add_top (a : BitVec 32) : V (a >>> (1 : Nat)) + 2147483648 = V ((a >>> (1 : Nat)) + 2147483648#32) := by
  have h := shr1_lt a
  have h2 := V_lo (a >>> (1 : Nat))
  rw [← addV, show V 2147483648#32 = 2147483648 by decide]; omega

set_option maxHeartbeats 400000 in
theorem rright_any (x : BitVec 32) (n : Nat) (h0 : 0 < n) (h1 : n < 32) (w : World) :
    Calls Tryz.prog 58 #[.int .u32 (V x), .int .i64 (n : Int)] w fun e w' => e = .returned (.int .u32 (V (rot x n))) ∧ w = w' := by
  have hfin := Lib.hid (rN_rot x n h0 h1)
  go_enter Tryz.func58, Tryz.ntmps58
  go_wp2
  go_loop [0, 5] (fun a i => ∃ k : Nat, k ≤ n ∧ i = .int .i64 k ∧ a = .int .u32 (V (rN x k))) (fun _ i => n - (intOf i).toNat)
  case atStart => exact ⟨0, by omega, rfl, rfl⟩
  case round =>
    obtain ⟨k, hk, rfl, rfl⟩ := hrel
    by_cases hlt : k < n
    · cases hb : (rN x k).getLsbD 0
      · have t1 : ((V (rN x k)).tmod 2 == 1) = false := by rw [tmod2, hb]
        have hs : Hid ((V (rN x k)).tdiv 2 % 4294967296 = V (rN x (k + 1))) := by show _ = V (r1 _); rw [r1_even _ hb, tdiv2]
        clear hb
        go_wp2
        go_round
        case rel => exact ⟨k + 1, by omega, by go_num, u32_eq hs.out⟩
        case measure => simp [intOf]; omega
      · have t1 : ((V (rN x k)).tmod 2 == 1) = true := by rw [tmod2, hb]
        have hs : Hid ((V (rN x k)).tdiv 2 % 4294967296 + 2147483648 = V (rN x (k + 1))) := by show _ = V (r1 _); rw [r1_odd _ hb, tdiv2, add_top]
        have hs2 : (V (rN x k)).tdiv 2 % 4294967296 ≤ 2147483647 := by rw [tdiv2]; exact shr1_lt _
        have hs3 : 0 ≤ (V (rN x k)).tdiv 2 % 4294967296 := by rw [tdiv2]; exact V_lo _
        clear hb
        go_wp2
        go_round
        case rel => exact ⟨k + 1, by omega, by go_num, u32_eq hs.out⟩
        case measure => simp [intOf]; omega
    · obtain rfl : n = k := by omega
      go_wp2
      go_ret
      rw [hfin.out]
      exact ⟨rfl, rfl⟩

set_option maxHeartbeats 400000 in
theorem rshift_any (x : BitVec 32) (n : Nat) (h1 : n ≤ 32) (w : World) :
    Calls Tryz.prog 59 #[.int .u32 (V x), .int .i64 (n : Int)] w fun e w' => e = .returned (.int .u32 (V (x >>> n))) ∧ w = w' := by
  go_enter Tryz.func59, Tryz.ntmps59
  go_wp2
  go_loop [0, 5] (fun a i => ∃ k : Nat, k ≤ n ∧ i = .int .i64 k ∧ a = .int .u32 (V (x >>> k))) (fun _ i => n - (intOf i).toNat)
  case atStart => exact ⟨0, by omega, rfl, by simp⟩
  case round =>
    obtain ⟨k, hk, rfl, rfl⟩ := hrel
    by_cases hlt : k < n
    · have hs : Hid ((V (x >>> k)).tdiv 2 % 4294967296 = V (x >>> (k + 1))) := by show _ = _; rw [tdiv2, BitVec.shiftRight_add]
      go_wp2
      go_round
      case rel => exact ⟨k + 1, by omega, by go_num, u32_eq hs.out⟩
      case measure => simp [intOf]; omega
    · obtain rfl : n = k := by omega
      go_wp2
      go_ret
      exact ⟨rfl, rfl⟩


set_option maxHeartbeats 400000 in
theorem roots_any (w : World) : Calls Tryz.prog 55 #[] w fun e w' => e = .returned (.agg (ws H0.toL)) ∧ Below w.heap.size w w' := by
  have hg : (w.alloc (.cells #[.int .u32 0, .int .u32 0, .int .u32 0, .int .u32 0, .int .u32 0, .int .u32 0, .int .u32 0, .int .u32 0] 54)).heap[w.heap.size]? = some (.cells #[.int .u32 0, .int .u32 0, .int .u32 0, .int .u32 0, .int .u32 0, .int .u32 0, .int .u32 0, .int .u32 0] 54) := by rw [heap_alloc_if, if_pos rfl]
  go_enter Tryz.func55, Tryz.ntmps55
  go_wp2_with (with_reducible refine wpList_store_row rfl 54 (.tmp 0) (.tmp 1) rfl _ #[.int .u32 1779033703, .int .u32 3144134277, .int .u32 1013904242, .int .u32 2773480762, .int .u32 1359893119, .int .u32 2600822924, .int .u32 528734635, .int .u32 1541459225] rfl rfl 54 #[.int .u32 0, .int .u32 0, .int .u32 0, .int .u32 0, .int .u32 0, .int .u32 0, .int .u32 0, .int .u32 0] hg (by kernel_rfl) (by kernel_rfl) (by kernel_rfl) ?_)
  exact bodyPost_row 0 54 rfl _ rfl 54 #[.int .u32 1779033703, .int .u32 3144134277, .int .u32 1013904242, .int .u32 2773480762, .int .u32 1359893119, .int .u32 2600822924, .int .u32 528734635, .int .u32 1541459225] _ (setRow_heap _ _ _ _ _ _ hg) Tryz.underlying54 rfl (by kernel_rfl) rfl ⟨rfl, below_setRow (by go_grown) (Nat.le_refl _) _⟩

theorem wpList_val {P : Program} {ops : Array Oper} {rest : List Oper} {o : Oper} {a : Act} {w : World} {Q : Exit → Act → World → Prop} (hgd : o.guard = none) (v : Value) (hv : (execOp a.eval o).run P w = .ok (.value v) w)
    (h : wpList P ops Q rest (a.put o.dst v) w) : wpList P ops Q (o :: rest) a w :=
  wpList_plain hgd fun _ hK => by unfold Oper.wp; rw [hv]; exact hK _ _ h
set_option maxHeartbeats 400000 in
set_option maxRecDepth 100000 in
theorem cubes_any (w : World) : Calls Tryz.prog 56 #[] w fun e w' => e = .returned (.agg (ws K0)) ∧ Below w.heap.size w w' := by
  have hg : (w.alloc (.cells (wcells []) 56)).heap[w.heap.size]? = some (.cells (wcells []) 56) := by rw [heap_alloc_if, if_pos rfl]
  go_enter Tryz.func56, Tryz.ntmps56
  go_upto_region 1 with (fail)
  rw [← wcells_zero]
  refine wp_region_lit ?_
  refine wpList_val rfl (.agg (ws K0)) (by kernel_rfl) ?_
  refine wpList_store_row rfl 56 (.tmp 0) (.tmp 1) rfl _ (ws K0) rfl rfl 56 (wcells []) hg (by kernel_rfl) (by kernel_rfl) (by kernel_rfl) ?_
  refine wpList_nil ?_
  simp only [Act.put, List.setIfInBounds_toArray, List.set_cons_zero, List.set_cons_succ]
  go_wp2_with fail
  exact bodyPost_row 0 56 rfl _ rfl 56 (ws K0) _ (setRow_heap _ _ _ _ _ _ hg) Tryz.underlying56 rfl (by kernel_rfl) rfl ⟨rfl, below_setRow (by go_grown) (Nat.le_refl _) _⟩

end Go.Proofs.YtfilolmbppjbjaaGreat.sh
