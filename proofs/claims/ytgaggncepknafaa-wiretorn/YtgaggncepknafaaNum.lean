/-
  What Num of the program returns.
-/
import Derived.Test.YtgaggncepknafaaLeafs
namespace Go.Proofs.Ytgaggncepknafaa
open Go.RowKit

theorem or128 (n : Nat) : bits .or .u8 ((n : Int) % 256) 128 = ((UInt8.ofNat (n % 128 + 128)).toNat : Int) := by
  have h : ∀ i : Fin 256, bits .or .u8 ((i.val : Nat) : Int) 128 = ((UInt8.ofNat (i.val % 128 + 128)).toNat : Int) := by decide +kernel
  have := h ⟨n % 256, by omega⟩
  simp only at this
  rw [show (n : Int) % 256 = ((n % 256 : Nat) : Int) by omega, this, show n % 256 % 128 = n % 128 by omega]
def clI (n : Int) : Nat := min n.toNat big
theorem conv_pre (v : World) (b n c : Nat) (t : TypeId) (l : List UInt8) (hn : n ≤ l.length) (h : v.heap[b]? = some (.cells (row l) t)) :
    (convert 39 9 (.slice (some ⟨b, 0, none⟩) n c)).run Try.prog v = .ok (.string ⟨(l.take n).toArray⟩) v := by
  have hl : (l.take n).length = n := by rw [List.length_take]; omega
  have := run_convert_bytes_back (P := Try.prog) v 39 9 5 ⟨b, 0, none⟩ c (l.take n) Try.underlying39 Try.underlying5 Try.underlying9 (fun j hj => by
    rw [hl] at hj
    have e : (⟨b, 0, none⟩ : Addr).add j = ⟨b, j, none⟩ := by unfold Addr.add; split <;> simp_all
    rw [e, cell_of_row v _ j _ _ _ h, row_at _ _ (by omega), List.getD_eq_getElem?_getD, List.getElem?_eq_getElem (by omega), List.getElem_take]; rfl)
  rw [hl] at this
  exact this
theorem row8 : #[Value.int .u8 0, .int .u8 0, .int .u8 0, .int .u8 0, .int .u8 0, .int .u8 0, .int .u8 0, .int .u8 0] = row (pz 0 8 []) := rfl
theorem pz_at (p : List UInt8) (h : p.length < 8) : (row (pz 0 8 p))[p.length]? = some (.int .u8 0) := by
  rw [row_at _ _ (by rw [pz_length _ _ _ (by omega)]; omega), pz_getD, List.getD_eq_getElem?_getD, List.getElem?_eq_none (Nat.le_refl _)]; rfl
theorem pow_le7 (m k : Nat) (h : 128 ≤ m) (h2 : m < 128 ^ (8 - k)) : k < 7 := by
  apply Classical.byContradiction
  intro hk
  have : (128 : Nat) ^ (8 - k) ≤ 128 ^ 1 := Nat.pow_le_pow_right (by decide) (by omega)
  omega
theorem pow_next (m k : Nat) (hk : k < 7) (h2 : m < 128 ^ (8 - k)) : m / 128 < 128 ^ (8 - (k + 1)) := by
  have e : (128 : Nat) ^ (8 - k) = 128 ^ (8 - (k + 1)) * 128 := by rw [show 8 - k = 8 - (k + 1) + 1 by omega]; rfl
  rw [e] at h2
  exact Nat.div_lt_of_lt_mul (by rw [Nat.mul_comm]; exact h2)
theorem slice_hm (b k : Nat) (hk : k ≤ 7) (w : World) : (Instr.sliceAt 49 (.pointer (some ⟨b, 0, none⟩)) none (some (.int .i64 ((k : Int) + 1))) (some (.int .i64 ((k : Int) + 1)))).run Try.prog w = .ok (.slice (some ⟨b, 0, none⟩) (k + 1) (k + 1)) w := by
  have ht : Try.prog.underlying 49 = some (.array (Try.prog.arrayLen 49) (Try.prog.elem 49)) := by kernel_rfl
  have e1 : Try.prog.elem 49 = 5 := by kernel_rfl
  have e2 : Try.prog.arrayLen 49 = 8 := by kernel_rfl
  rw [run_sliceAt_array_hm (P := Try.prog) w 49 ⟨b, 0, none⟩ ht .i64 .i64 _ _ (by omega) (by omega) (by rw [e2]; omega), e1, Try.sizeOf5]
  simp only [Result.andThen_ok, slicedAt]
  rw [if_neg (by omega), show ((k : Int) + 1).toNat = k + 1 by omega]
  have e : (⟨b, 0, none⟩ : Addr).add ((0 : Int).toNat * 1) = ⟨b, 0, none⟩ := by unfold Addr.add; split <;> simp_all
  first | rw [e] | skip
  rfl
/-- The place that Num has come to. -/
structure At (M k m : Nat) (p : List UInt8) : Prop where
  kle : k ≤ 7
  mle : m ≤ big
  lt : m < 128 ^ (8 - k)
  len : p.length = k
  eq : num M = p ++ numF (7 - k) m
theorem At.start {M : Nat} (h : M ≤ big) : At M 0 M [] := ⟨by omega, h, big_lt h, rfl, rfl⟩
theorem At.next {M k m : Nat} {p : List UInt8} (h : At M k m p) (hm : 128 ≤ m) : At M (k + 1) (m / 128) (p ++ [UInt8.ofNat (m % 128 + 128)]) := by
  have hk := pow_le7 m k hm h.lt
  have := h.mle
  refine ⟨by omega, by omega, pow_next m k hk h.lt, by simp [h.len], ?_⟩
  rw [h.eq, show 7 - k = 7 - (k + 1) + 1 by omega, numF_high _ _ hm]
  simp
theorem At.done {M k m : Nat} {p : List UInt8} (h : At M k m p) (hm : m < 128) : num M = p ++ [UInt8.ofNat m] := by
  rw [h.eq, numF_low _ _ hm]

set_option maxHeartbeats 1000000 in
theorem num_neg (n : Int) (hn : n < 0) (hlo : -9223372036854775808 ≤ n) (M : Nat) (hMM : clI n = M) (w : World) :
    Calls Try.prog 14 #[.int .i64 n] w fun e w' => e = .returned (.string ⟨(num M).toArray⟩) ∧ Below w.heap.size w w' := by
  have hS := Lib.hid (At.start (M := M) (by rw [← hMM]; exact Nat.min_le_right _ _))
  have t0 : decide (n < 0) = true := by simp; omega
  have hM : Hid (M = 0) := by show _ = _; rw [← hMM]; unfold clI; omega
  go_enter Try.func14, Try.ntmps14
  go_wp2_with fail
  rw [row8]
  go_loopw [0, 4] (fun a l wr => ∃ (k m : Nat) (p : List UInt8), a = .int .i64 (m : Int) ∧ l = .int .i64 (k : Int) ∧ wr = w.alloc (.cells (row (pz 0 8 p)) 49) ∧ Hid (At M k m p)) (fun a _ _ => (intOf a).toNat)
  case atStart => exact ⟨0, M, [], by rw [hM.out]; rfl, rfl, rfl, hS.out⟩
  case round =>
    obtain ⟨k, m, p, rfl, rfl, rfl, hA⟩ := hrel
    have hmb : m ≤ 1125899906842624 := hA.out.mle
    have hk7 : k ≤ 7 := hA.out.kle
    have hlen := Lib.hid hA.out.len
    by_cases hm : 128 ≤ m
    · have t1 : decide ((128 : Int) ≤ (m : Int)) = true := by simp; omega
      have hk : (k : Int) < 8 := by omega
      have hN := Lib.hid (hA.out.next hm)
      have hc : (row (pz 0 8 p))[k]? = some (.int .u8 0) := by have := pz_at p (by rw [hlen.out]; omega); rw [hlen.out] at this; exact this
      have ho := or128 m
      have hd : Hid ((row (pz 0 8 p)).setIfInBounds k (.int .u8 ((UInt8.ofNat (m % 128 + 128)).toNat : Int)) = row (pz 0 8 (p ++ [UInt8.ofNat (m % 128 + 128)]))) := by
        show _ = _
        rw [row_set, ← hlen.out, pz_set _ _ _ _ (by rw [hlen.out]; omega)]
      revert hN ho hd
      generalize UInt8.ofNat (m % 128 + 128) = x
      intro hN ho hd
      go_wp2_with fail
      go_roundw
      case rel => exact ⟨k + 1, m / 128, p ++ [x], by go_num, by go_num, by rw [← hd.out], hN.out⟩
      case measure => simp [intOf]; omega
    · have t1 : decide ((128 : Int) ≤ (m : Int)) = false := by simp; omega
      have hk : (k : Int) < 8 := by omega
      have hx : ((UInt8.ofNat m).toNat : Int) = (m : Int) := by rw [ofNat_toNat _ (by omega)]
      have hN := Lib.hid (hA.out.done (by omega))
      have hc : (row (pz 0 8 p))[k]? = some (.int .u8 0) := by have := pz_at p (by rw [hlen.out]; omega); rw [hlen.out] at this; exact this
      have hd : (row (pz 0 8 p)).setIfInBounds k (.int .u8 (m : Int)) = row (pz 0 8 (p ++ [UInt8.ofNat m])) := by
        rw [← hx, row_set, ← hlen.out, pz_set _ _ _ _ (by rw [hlen.out]; omega)]
      have hcv := conv_pre (w.alloc (.cells (row (pz 0 8 (p ++ [UInt8.ofNat m]))) 49)) w.heap.size (k + 1) (k + 1) 49 (pz 0 8 (p ++ [UInt8.ofNat m])) (by rw [pz_length _ _ _ (by simp [hlen.out]; omega)]; omega) (by rw [heap_alloc_if, if_pos rfl])
      have hq : (pz 0 8 (p ++ [UInt8.ofNat m])).take (k + 1) = num M := by
        rw [hN.out]; unfold pz; rw [List.take_left' (by simp [hlen.out])]
      rw [hq, ← hd] at hcv
      have hsl := fun v => slice_hm w.heap.size k hk7 v
      clear hq hN hd hx
      go_wp2_with fail
      go_ret
      exact ⟨rfl, by go_grown⟩
set_option maxHeartbeats 1000000 in
theorem num_top (n : Int) (hn : 1125899906842624 < n) (hhi : n ≤ 9223372036854775807) (M : Nat) (hMM : clI n = M) (w : World) :
    Calls Try.prog 14 #[.int .i64 n] w fun e w' => e = .returned (.string ⟨(num M).toArray⟩) ∧ Below w.heap.size w w' := by
  have hS := Lib.hid (At.start (M := M) (by rw [← hMM]; exact Nat.min_le_right _ _))
  have t0 : decide (n < 0) = false := by simp; omega
  have t1 : decide (n > 1125899906842624) = true := by simp; omega
  have hM : Hid (M = 1125899906842624) := by show _ = _; rw [← hMM]; unfold clI big; omega
  go_enter Try.func14, Try.ntmps14
  go_wp2_with fail
  rw [row8]
  go_loopw [0, 4] (fun a l wr => ∃ (k m : Nat) (p : List UInt8), a = .int .i64 (m : Int) ∧ l = .int .i64 (k : Int) ∧ wr = w.alloc (.cells (row (pz 0 8 p)) 49) ∧ Hid (At M k m p)) (fun a _ _ => (intOf a).toNat)
  case atStart => exact ⟨0, M, [], by rw [hM.out]; rfl, rfl, rfl, hS.out⟩
  case round =>
    obtain ⟨k, m, p, rfl, rfl, rfl, hA⟩ := hrel
    have hmb : m ≤ 1125899906842624 := hA.out.mle
    have hk7 : k ≤ 7 := hA.out.kle
    have hlen := Lib.hid hA.out.len
    by_cases hm : 128 ≤ m
    · have t1 : decide ((128 : Int) ≤ (m : Int)) = true := by simp; omega
      have hk : (k : Int) < 8 := by omega
      have hN := Lib.hid (hA.out.next hm)
      have hc : (row (pz 0 8 p))[k]? = some (.int .u8 0) := by have := pz_at p (by rw [hlen.out]; omega); rw [hlen.out] at this; exact this
      have ho := or128 m
      have hd : Hid ((row (pz 0 8 p)).setIfInBounds k (.int .u8 ((UInt8.ofNat (m % 128 + 128)).toNat : Int)) = row (pz 0 8 (p ++ [UInt8.ofNat (m % 128 + 128)]))) := by
        show _ = _
        rw [row_set, ← hlen.out, pz_set _ _ _ _ (by rw [hlen.out]; omega)]
      revert hN ho hd
      generalize UInt8.ofNat (m % 128 + 128) = x
      intro hN ho hd
      go_wp2_with fail
      go_roundw
      case rel => exact ⟨k + 1, m / 128, p ++ [x], by go_num, by go_num, by rw [← hd.out], hN.out⟩
      case measure => simp [intOf]; omega
    · have t1 : decide ((128 : Int) ≤ (m : Int)) = false := by simp; omega
      have hk : (k : Int) < 8 := by omega
      have hx : ((UInt8.ofNat m).toNat : Int) = (m : Int) := by rw [ofNat_toNat _ (by omega)]
      have hN := Lib.hid (hA.out.done (by omega))
      have hc : (row (pz 0 8 p))[k]? = some (.int .u8 0) := by have := pz_at p (by rw [hlen.out]; omega); rw [hlen.out] at this; exact this
      have hd : (row (pz 0 8 p)).setIfInBounds k (.int .u8 (m : Int)) = row (pz 0 8 (p ++ [UInt8.ofNat m])) := by
        rw [← hx, row_set, ← hlen.out, pz_set _ _ _ _ (by rw [hlen.out]; omega)]
      have hcv := conv_pre (w.alloc (.cells (row (pz 0 8 (p ++ [UInt8.ofNat m]))) 49)) w.heap.size (k + 1) (k + 1) 49 (pz 0 8 (p ++ [UInt8.ofNat m])) (by rw [pz_length _ _ _ (by simp [hlen.out]; omega)]; omega) (by rw [heap_alloc_if, if_pos rfl])
      have hq : (pz 0 8 (p ++ [UInt8.ofNat m])).take (k + 1) = num M := by
        rw [hN.out]; unfold pz; rw [List.take_left' (by simp [hlen.out])]
      rw [hq, ← hd] at hcv
      have hsl := fun v => slice_hm w.heap.size k hk7 v
      clear hq hN hd hx
      go_wp2_with fail
      go_ret
      exact ⟨rfl, by go_grown⟩
set_option maxHeartbeats 1000000 in
theorem num_mid (n : Int) (hn : 0 ≤ n) (hhi : n ≤ 1125899906842624) (M : Nat) (hMM : clI n = M) (w : World) :
    Calls Try.prog 14 #[.int .i64 n] w fun e w' => e = .returned (.string ⟨(num M).toArray⟩) ∧ Below w.heap.size w w' := by
  have hS := Lib.hid (At.start (M := M) (by rw [← hMM]; exact Nat.min_le_right _ _))
  have t0 : decide (n < 0) = false := by simp; omega
  have t1 : decide (n > 1125899906842624) = false := by simp; omega
  have hM : Hid ((M : Int) = n) := by show _ = _; rw [← hMM]; unfold clI big; omega
  go_enter Try.func14, Try.ntmps14
  go_wp2_with fail
  rw [row8]
  go_loopw [0, 4] (fun a l wr => ∃ (k m : Nat) (p : List UInt8), a = .int .i64 (m : Int) ∧ l = .int .i64 (k : Int) ∧ wr = w.alloc (.cells (row (pz 0 8 p)) 49) ∧ Hid (At M k m p)) (fun a _ _ => (intOf a).toNat)
  case atStart => exact ⟨0, M, [], by rw [hM.out], rfl, rfl, hS.out⟩
  case round =>
    obtain ⟨k, m, p, rfl, rfl, rfl, hA⟩ := hrel
    have hmb : m ≤ 1125899906842624 := hA.out.mle
    have hk7 : k ≤ 7 := hA.out.kle
    have hlen := Lib.hid hA.out.len
    by_cases hm : 128 ≤ m
    · have t1 : decide ((128 : Int) ≤ (m : Int)) = true := by simp; omega
      have hk : (k : Int) < 8 := by omega
      have hN := Lib.hid (hA.out.next hm)
      have hc : (row (pz 0 8 p))[k]? = some (.int .u8 0) := by have := pz_at p (by rw [hlen.out]; omega); rw [hlen.out] at this; exact this
      have ho := or128 m
      have hd : Hid ((row (pz 0 8 p)).setIfInBounds k (.int .u8 ((UInt8.ofNat (m % 128 + 128)).toNat : Int)) = row (pz 0 8 (p ++ [UInt8.ofNat (m % 128 + 128)]))) := by
        show _ = _
        rw [row_set, ← hlen.out, pz_set _ _ _ _ (by rw [hlen.out]; omega)]
      revert hN ho hd
      generalize UInt8.ofNat (m % 128 + 128) = x
      intro hN ho hd
      go_wp2_with fail
      go_roundw
      case rel => exact ⟨k + 1, m / 128, p ++ [x], by go_num, by go_num, by rw [← hd.out], hN.out⟩
      case measure => simp [intOf]; omega
    · have t1 : decide ((128 : Int) ≤ (m : Int)) = false := by simp; omega
      have hk : (k : Int) < 8 := by omega
      have hx : ((UInt8.ofNat m).toNat : Int) = (m : Int) := by rw [ofNat_toNat _ (by omega)]
      have hN := Lib.hid (hA.out.done (by omega))
      have hc : (row (pz 0 8 p))[k]? = some (.int .u8 0) := by have := pz_at p (by rw [hlen.out]; omega); rw [hlen.out] at this; exact this
      have hd : (row (pz 0 8 p)).setIfInBounds k (.int .u8 (m : Int)) = row (pz 0 8 (p ++ [UInt8.ofNat m])) := by
        rw [← hx, row_set, ← hlen.out, pz_set _ _ _ _ (by rw [hlen.out]; omega)]
      have hcv := conv_pre (w.alloc (.cells (row (pz 0 8 (p ++ [UInt8.ofNat m]))) 49)) w.heap.size (k + 1) (k + 1) 49 (pz 0 8 (p ++ [UInt8.ofNat m])) (by rw [pz_length _ _ _ (by simp [hlen.out]; omega)]; omega) (by rw [heap_alloc_if, if_pos rfl])
      have hq : (pz 0 8 (p ++ [UInt8.ofNat m])).take (k + 1) = num M := by
        rw [hN.out]; unfold pz; rw [List.take_left' (by simp [hlen.out])]
      rw [hq, ← hd] at hcv
      have hsl := fun v => slice_hm w.heap.size k hk7 v
      clear hq hN hd hx
      go_wp2_with fail
      go_ret
      exact ⟨rfl, by go_grown⟩
theorem num_any (n : Int) (h1 : -9223372036854775808 ≤ n) (h2 : n ≤ 9223372036854775807) (w : World) :
    Calls Try.prog 14 #[.int .i64 n] w fun e w' => e = .returned (.string ⟨(num (clI n)).toArray⟩) ∧ Below w.heap.size w w' := by
  by_cases k1 : n < 0
  · exact num_neg n k1 h1 _ rfl w
  by_cases k2 : 1125899906842624 < n
  · exact num_top n k2 h2 _ rfl w
  · exact num_mid n (by omega) (by omega) _ rfl w
theorem num_nat (n : Nat) (h : n ≤ 9223372036854775807) (w : World) :
    Calls Try.prog 14 #[.int .i64 (n : Int)] w fun e w' => e = .returned (.string ⟨(num (cl n)).toArray⟩) ∧ Below w.heap.size w w' :=
  num_any (n : Int) (by omega) (by omega) w
end Go.Proofs.Ytgaggncepknafaa
