/-
  What Text of the program returns: the 64 digits of a digest.
-/
import Derived.Test.YtfebhemlbnpmhaaBytes
import Derived.Laws.IdiomStrings
namespace Go.Proofs.Ytfebhemlbnpmhaa
open Go.RowKit

theorem dg_at (n : Nat) (h : n < digs.size) : digs[n] = dg n := by
  unfold dg
  rw [List.getD_eq_getElem?_getD, List.getElem?_eq_getElem (by simpa using h)]
  rfl
theorem digs_lit : ({ data := #[48, 49, 50, 51, 52, 53, 54, 55, 56, 57, 97, 98, 99, 100, 101, 102] } : ByteArray) = digs := rfl
theorem digs_size : digs.size = 16 := rfl

def xcells (d : List UInt8) (k : Nat) : Array Value := row (pz 0 64 (hex (d.take k)))
theorem xcells_zero (d : List UInt8) : xcells d 0 = #[.int .u8 0, .int .u8 0, .int .u8 0, .int .u8 0, .int .u8 0, .int .u8 0, .int .u8 0, .int .u8 0, .int .u8 0, .int .u8 0, .int .u8 0, .int .u8 0, .int .u8 0, .int .u8 0, .int .u8 0, .int .u8 0, .int .u8 0, .int .u8 0, .int .u8 0, .int .u8 0, .int .u8 0, .int .u8 0, .int .u8 0, .int .u8 0, .int .u8 0, .int .u8 0, .int .u8 0, .int .u8 0, .int .u8 0, .int .u8 0, .int .u8 0, .int .u8 0, .int .u8 0, .int .u8 0, .int .u8 0, .int .u8 0, .int .u8 0, .int .u8 0, .int .u8 0, .int .u8 0, .int .u8 0, .int .u8 0, .int .u8 0, .int .u8 0, .int .u8 0, .int .u8 0, .int .u8 0, .int .u8 0, .int .u8 0, .int .u8 0, .int .u8 0, .int .u8 0, .int .u8 0, .int .u8 0, .int .u8 0, .int .u8 0, .int .u8 0, .int .u8 0, .int .u8 0, .int .u8 0, .int .u8 0, .int .u8 0, .int .u8 0, .int .u8 0] := rfl
theorem hex_len (d : List UInt8) (h : d.length = 32) (k : Nat) (hk : k ≤ 32) : (hex (d.take k)).length = 2 * k := by
  rw [hex_length]; simp; omega
theorem xcells_at (d : List UInt8) (h : d.length = 32) (k : Nat) (hk : k ≤ 32) (j : Nat) (hj : j < 64) : ∃ v, (xcells d k)[j]? = some v := by
  unfold xcells
  have := hex_len d h k hk
  exact ⟨_, row_at _ _ (by rw [pz_length]; exact hj; omega)⟩
theorem hex_snoc (l : List UInt8) (x : UInt8) : hex (l ++ [x]) = hex l ++ [dg (x.toNat / 16)] ++ [dg (x.toNat % 16)] := by
  simp [hex]
theorem xcells_step (d : List UInt8) (h : d.length = 32) (k : Nat) (hk : k < 32) (x : UInt8) (hx : d.getD k 0 = x) :
    ((xcells d k).setIfInBounds (2 * k) (.int .u8 ((dg (x.toNat / 16)).toNat : Int))).setIfInBounds (2 * k + 1) (.int .u8 ((dg (x.toNat % 16)).toNat : Int)) = xcells d (k + 1) := by
  have hl := hex_len d h k (by omega)
  unfold xcells
  rw [take_snocD 0 _ _ (by omega), hx, hex_snoc, row_set, row_set, ← hl, pz_set _ _ _ _ (by omega)]
  have e : (hex (d.take k)).length + 1 = (hex (d.take k) ++ [dg (x.toNat / 16)]).length := by simp
  rw [e, pz_set _ _ _ _ (by simp; omega)]
theorem and15b (x : UInt8) : bits .and .u8 (x.toNat : Int) 15 = ((x.toNat % 16 : Nat) : Int) := by
  have := u8_and_nat x.toNat 15 x.toNat_lt (by decide)
  rw [show (15 : Nat) = 2 ^ 4 - 1 by decide, Nat.and_two_pow_sub_one_eq_mod] at this
  exact this

theorem conv_row (v : World) (b n : Nat) (t : TypeId) (l : List UInt8) (hn : l.length = n) (h : v.heap[b]? = some (.cells (row l) t)) :
    (convert 33 9 (.slice (some ⟨b, 0, none⟩) n n)).run Try.prog v = .ok (.string ⟨l.toArray⟩) v := by
  subst hn
  refine run_convert_bytes_back (P := Try.prog) v 33 9 5 ⟨b, 0, none⟩ _ l Try.underlying33 Try.underlying5 Try.underlying9 (fun j hj => ?_)
  have e : (⟨b, 0, none⟩ : Addr).add j = ⟨b, j, none⟩ := by unfold Addr.add; split <;> simp_all
  rw [e, cell_of_row v _ j _ _ _ h, row_at _ _ hj, List.getD_eq_getElem?_getD, List.getElem?_eq_getElem hj]; rfl

set_option maxHeartbeats 400000 in
set_option maxRecDepth 100000 in
theorem text_any (d : List UInt8) (hd : d.length = 32) (w : World) :
    Calls Try.prog 14 #[.agg (row d)] w fun e w' => e = .returned (.string ⟨(hex d).toArray⟩) ∧ Below w.heap.size w w' := by
  have hd' := Lib.hid hd
  clear hd
  have hi0 : Hid ((Try.prog.info? 23).map (·.size) = some (row d).size) := by show _ = _; rw [row_size, hd'.out]; kernel_rfl
  go_enter Try.func14, Try.ntmps14
  go_wp2_with (with_reducible refine wpList_load_row rfl 23 (.tmp 1) rfl _ rfl 23 (row d) _ ?hB Try.underlying23 rfl hi0.out ?_)
  case hB => rw [heap_alloc_if, if_neg (by simp), heap_alloc_if, if_pos rfl]
  rw [← xcells_zero d]
  go_loopw [7] (fun i wr => ∃ k : Nat, k ≤ 32 ∧ i = .int .i64 k ∧ wr = (w.alloc (.cells (row d) 23)).alloc (.cells (xcells d k) 54)) (fun i _ => 32 - (intOf i).toNat)
  case atStart => exact ⟨0, by omega, rfl, rfl⟩
  case round =>
    obtain ⟨k, hk, rfl, rfl⟩ := hrel
    by_cases hlt : k < 32
    · have hb : (k : Int) < 32 := by omega
      have h1 := fun v => run_index_row (P := Try.prog) 23 5 32 (row d) k _ Try.underlying23 Try.isAgg5 Try.sizeOf5 hlt (row_at d k (by rw [hd'.out]; exact hlt)) v
      obtain ⟨x, hx⟩ : ∃ x, d.getD k 0 = x := ⟨_, rfl⟩
      have h3 := Lib.hid (xcells_step d hd'.out k hlt x hx)
      rw [hx] at h1
      obtain ⟨v0, g0⟩ := xcells_at d hd'.out k hk (2 * k) (by omega)
      obtain ⟨v1, g1⟩ := xcells_at d hd'.out k hk (2 * k + 1) (by omega)
      have hx16 : (x.toNat : Int) / 16 < 16 := by have := x.toNat_lt; omega
      have h5 := and15b x
      have e1 : (2 * (k : Int)).toNat = 2 * k := by omega
      have e2 : (2 * (k : Int) + 1).toNat = 2 * k + 1 := by omega
      clear hx
      go_wp2_with fail
      go_roundw
      case rel =>
        refine ⟨k + 1, by omega, by go_num, ?_⟩
        rw [← h3.out, ← dg_at (x.toNat / 16) (by rw [digs_size]; omega), ← dg_at (x.toNat % 16) (by rw [digs_size]; omega)]
        rfl
      case measure => simp [intOf]; omega
    · obtain rfl : k = 32 := by omega
      have hf : xcells d 32 = row (hex d) := by
        unfold xcells
        rw [List.take_of_length_le (by rw [hd'.out]; omega), pz_full _ _ _ (by rw [hex_length, hd'.out])]
      rw [hf]
      have hc := conv_row ((w.alloc (.cells (row d) 23)).alloc (.cells (row (hex d)) 54)) (w.heap.size + 1) 64 54 (hex d) (by rw [hex_length, hd'.out]) (by rw [heap_alloc_if, if_pos (by simp)])
      clear hf
      go_wp2_with fail
      go_ret
      exact ⟨rfl, by go_grown⟩
end Go.Proofs.Ytfebhemlbnpmhaa
