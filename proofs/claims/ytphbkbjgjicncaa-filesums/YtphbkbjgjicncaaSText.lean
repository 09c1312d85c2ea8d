/-
  What Text of the program returns: the 64 digits of a digest.
-/
import Derived.Test.YtphbkbjgjicncaaSBytes
import Derived.Laws.IdiomStrings
namespace Go.Proofs.Ytphbkbjgjicncaa.sh
open Go.RowKit

theorem dg_at (n : Nat) (h : n < digs.size) : digs[n] = dg n := by
  unfold dg
  rw [List.getD_eq_getElem?_getD, List.getElem?_eq_getElem (by simpa using h)]
  rfl
theorem digs_lit : ({ data := #[48, 49, 50, 51, 52, 53, 54, 55, 56, 57, 97, 98, 99, 100, 101, 102] } : ByteArray) = digs := rfl
theorem digs_size : digs.size = 16 := rfl

def xcells (d : List UInt8) (k : Nat) : Array Value := row (pz 0 64 (hex (d.take k)))
theorem xcells_zero (d : List UInt8) : xcells d 0 = #[.int .u8 0, .int .u8 0, .int .u8 0, .int .u8 0, .int .u8 0, .int .u8 0, .int .u8 0, .int .u8 0, .int .u8 0, .int .u8 0, .int .u8 0, .int .u8 0, .int .u8 0, .int .u8 0, .int .u8 0, .int .u8 0, .int .u8 0, .int .u8 0, .int .u8 0, .int .u8 0, .int .u8 0, .int .u8 0, .int .u8 0, .int .u8 0, .int .u8 0, .int .u8 0, .int .u8 0, .int .u8 0, .int .u8 0, .int .u8 0, .int .u8 0, .int .u8 0, .int .u8 0, .int .u8 0, .int .u8 0, .int .u8 0, .int .u8 0, .int .u8 0, .int .u8 0, .int .u8 0, .int .u8 0, .int .u8 0, .int .u8 0, .int .u8 0, .int .u8 0, .int .u8 0, .int .u8 0, .int .u8 0, .int .u8 0, .int .u8 0, .int .u8 0, .int .u8 0, .int .u8 0, .int .u8 0, .int .u8 0, .int .u8 0, .int .u8 0, .int .u8 0, .int .u8 0, .int .u8 0, .int .u8 0, .int .u8 0, .int .u8 0, .int .u8 0] := rfl
theorem hex_len (d : List UInt8) (h : d.length = 32) (k : Nat) (hk : k ≤ 32) : (hex (d.take k)).length = 2 * k := by
  rw [hex_length]; simp; omega
theorem xcells_at (d : List UInt8) (h : d.length = 32) (k : Nat) (hk : k ≤ 32) (j : Nat) (hj : j < 64) : ∃ v, (xcells d k)[j]? = some v := by
  unfold xcells
  have := hex_len d h k hk
  exact ⟨_, row_at _ _ (by rw [pz_length]; exact hj; omega)⟩
theorem hex_snoc (l : List UInt8) (x : UInt8) : hex (l ++ [x]) = hex l ++ [dg (x.toNat / 16)] ++ [dg (x.toNat % 16)] := by
  simp [hex]
theorem xcells_step (d : List UInt8) (h : d.length = 32) (k : Nat) (hk : k < 32) (x : UInt8) (hx : d.getD k 0 = x) :
    ((xcells d k).setIfInBounds (2 * k) (.int .u8 ((dg (x.toNat / 16)).toNat : Int))).setIfInBounds (2 * k + 1) (.int .u8 ((dg (x.toNat % 16)).toNat : Int)) = xcells d (k + 1) := by
  have hl := hex_len d h k (by omega)
  unfold xcells
  rw [take_snocD 0 _ _ (by omega), hx, hex_snoc, row_set, row_set, ← hl, pz_set _ _ _ _ (by omega)]
  have e : (hex (d.take k)).length + 1 = (hex (d.take k) ++ [dg (x.toNat / 16)]).length := by simp
  rw [e, pz_set _ _ _ _ (by simp; omega)]
theorem and15b (x : UInt8) : bits .and .u8 (x.toNat : Int) 15 = ((x.toNat % 16 : Nat) : Int) := by
  have := u8_and_nat x.toNat 15 x.toNat_lt (by decide)
  rw [show (15 : Nat) = 2 ^ 4 - 1 by decide, Nat.and_two_pow_sub_one_eq_mod] at this
  exact this

theorem conv_row (v : World) (b n : Nat) (t : TypeId) (l : List UInt8) (hn : l.length = n) (h : v.heap[b]? = some (.cells (row l) t)) :
    (convert 99 9 (.slice (some ⟨b, 0, none⟩) n n)).run Try.prog v = .ok (.string ⟨l.toArray⟩) v := by
  subst hn
  refine run_convert_bytes_back (P := Try.prog) v 99 9 5 ⟨b, 0, none⟩ _ l Try.underlying99 Try.underlying5 Try.underlying9 (fun j hj => ?_)
  have e : (⟨b, 0, none⟩ : Addr).add j = ⟨b, j, none⟩ := by unfold Addr.add; split <;> simp_all
  rw [e, cell_of_row v _ j _ _ _ h, row_at _ _ hj, List.getD_eq_getElem?_getD, List.getElem?_eq_getElem hj]; rfl

end Go.Proofs.Ytphbkbjgjicncaa.sh
