/-
  A digest that is handed over by value reads as its 32 bytes, in whatever world.
-/
import Derived.Test.YtfebhemlbnpmhaaRows
import Derived.Test.YtfebhemlbnpmhaaCells
import Derived.ProofKit
import Derived.OpenShut
import Derived.ChangeSlices
namespace Go.Proofs.Ytfebhemlbnpmhaa
open Go.RowKit

/-- The datum that 32 bytes are. -/
def digD {H : Type} (l : List UInt8) : DataW H := .agg (l.map fun b => .lit (.int .u8 (b.toNat : Int)))
def byteOf : Value → UInt8
  | .int _ n => UInt8.ofNat n.toNat
  | _ => 0
theorem cells5 : Try.prog.cellsOf 5 = 1 := by kernel_rfl
theorem cells23 : Try.prog.cellsOf 23 = 32 := by kernel_rfl
theorem take1 (l : List Value) (i : Nat) (v : Value) (h : (l.drop i).take 1 = [v]) : l[i]? = some v := by
  have := congrArg (·[0]?) h
  simpa using this

theorem open_dig {H : Type} {enc : TypeId × Value → H} {w : World} {base : Nat} {sp : Nat → Bool} {held : Bool} {r : Reach} {b0 : Nat} {v : Value} {d : DataW H} {ps : List MemPlace}
    (hval : Value.okWide Try.prog w r b0 23 v) (hd : DataW.Trod enc Try.prog w base sp held 23 v d ps) : ∃ l : List UInt8, v = .agg (row l) ∧ d = digD l ∧ ps = [] ∧ l.length = 32 := by
  unfold Value.okWide at hval
  rw [Try.underlying23] at hval
  obtain ⟨cs, rfl, hsz, _⟩ := hval
  rw [cells23] at hsz
  obtain ⟨fuel, hf⟩ := hd
  obtain ⟨xs, m, _, hx, _, hxl, hel⟩ := DataW.trod_array Try.underlying23 hf
  have each : ∀ i, i < 32 → ∃ b : UInt8, cs[i]? = some (.int .u8 (b.toNat : Int)) ∧ xs[i]? = some (.lit (.int .u8 (b.toNat : Int)), []) := fun i hi => by
    have h1 := hel i hi
    rw [List.getElem?_eq_getElem (by omega)] at h1
    obtain ⟨n, h2, h3, h4⟩ := DataW.trod_int Try.underlying5 h1
    rw [cells5, Nat.mul_one] at h2
    have h5 := take1 _ _ _ h2
    have h6 := bounds_u8 h4
    have e : ((UInt8.ofNat n.toNat).toNat : Int) = n := by rw [UInt8.toNat_ofNat']; omega
    refine ⟨UInt8.ofNat n.toNat, ?_, ?_⟩
    · rw [e]; simpa [Value.cells] using h5
    · rw [e, List.getElem?_eq_getElem (by omega), h3]
  have hc : cs = row ((List.range 32).map fun i => byteOf (cs.getD i undef)) := by
    apply Array.ext_getElem?
    intro i
    by_cases hi : i < 32
    · obtain ⟨b, h1, _⟩ := each i hi
      rw [row_at _ _ (by simpa using hi), h1, List.getD_eq_getElem?_getD, List.getElem?_map, List.getElem?_range hi]
      have : byteOf (cs.getD i undef) = b := by
        have e : cs.getD i undef = .int .u8 (b.toNat : Int) := by simp [h1]
        rw [e]; simp [byteOf]
      simp only [Option.map_some, Option.getD_some, this]
    · rw [Array.getElem?_eq_none (by omega), Array.getElem?_eq_none (by rw [row_size]; simp; omega)]
  have hxs : xs = ((List.range 32).map fun i => byteOf (cs.getD i undef)).map fun b => (.lit (.int .u8 (b.toNat : Int)), []) := by
    apply List.ext_getElem?
    intro i
    by_cases hi : i < 32
    · obtain ⟨b, h1, h2⟩ := each i hi
      have : byteOf (cs.getD i undef) = b := by
        have e : cs.getD i undef = .int .u8 (b.toNat : Int) := by simp [h1]
        rw [e]; simp [byteOf]
      rw [h2, List.getElem?_map, List.getElem?_map, List.getElem?_range hi]
      simp only [Option.map_some, this]
    · rw [List.getElem?_eq_none (by omega), List.getElem?_eq_none (by simp; omega)]
  refine ⟨(List.range 32).map fun i => byteOf (cs.getD i undef), ?_, ?_, ?_, by simp⟩
  · exact congrArg Value.agg hc
  · have := congrArg Prod.fst hx
    simp only at this
    rw [this]
    generalize ((List.range 32).map fun i => byteOf (cs.getD i undef)) = l at hxs
    rw [hxs]
    unfold digD
    simp
  · have := congrArg Prod.snd hx
    simp only at this
    rw [this, hxs]
    simp

theorem shut_dig {H : Type} {enc : TypeId × Value → H} {w : World} {base : Nat} {sp : Nat → Bool} {held : Bool} {l : List UInt8} (hl : l.length = 32) : DataW.Trod enc Try.prog w base sp held 23 (.agg (row l)) (digD l) [] := by
  refine ⟨2, ?_⟩
  show DataW.trod enc Try.prog w base sp held 2 23 (row l).toList = _
  unfold DataW.trod
  rw [Try.underlying23]
  simp only
  rw [if_pos (by rw [cells23]; simp [row, hl])]
  have : (List.range 32).mapM (fun i => DataW.trod enc Try.prog w base sp held 1 5 (((row l).toList.drop (i * Try.prog.cellsOf 5)).take (Try.prog.cellsOf 5))) = some ((List.range 32).map fun i => (.lit (.int .u8 ((l.getD i 0).toNat : Int)), [])) := by
    apply Go.ChangeShapes.mapM_range_of
    intro i hi
    rw [cells5, Nat.mul_one]
    have e : ((row l).toList.drop i).take 1 = [.int .u8 ((l.getD i 0).toNat : Int)] := by
      have h1 : i < (row l).toList.length := by simp [row]; omega
      rw [List.drop_eq_getElem_cons h1]
      simp only [List.take_succ_cons, List.take_zero]
      congr 1
      have := row_at l i (by omega)
      rw [← Array.getElem?_toList, List.getElem?_eq_getElem h1] at this
      exact Option.some.inj this
    rw [e]
    unfold DataW.trod
    rw [Try.underlying5]
    generalize l.getD i 0 = b
    have hb := b.toNat_lt
    have hw : (Lit.int .u8 (b.toNat : Int)).wf = true := by
      simp [Lit.wf, IntKind.min, IntKind.max, IntKind.signed, IntKind.bits]; omega
    simp only [hw, and_self, if_true]
  rw [this]
  simp only [Option.map_some]
  unfold digD
  congr 2
  · rw [List.map_map]
    congr 1
    apply List.ext_getElem?
    intro i
    by_cases hi : i < 32
    · rw [List.getElem?_map, List.getElem?_map, List.getElem?_range hi, List.getElem?_eq_getElem (by omega)]
      simp only [Option.map_some, Function.comp]
      rw [List.getD_eq_getElem?_getD, List.getElem?_eq_getElem (by omega)]; rfl
    · rw [List.getElem?_eq_none (by simp; omega), List.getElem?_eq_none (by simp; omega)]
end Go.Proofs.Ytfebhemlbnpmhaa
