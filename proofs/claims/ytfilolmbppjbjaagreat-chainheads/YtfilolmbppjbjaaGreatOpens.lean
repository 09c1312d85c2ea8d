/-
  A row of events that came in, as the statements' form reads it.
-/
import Derived.Test.YtfilolmbppjbjaaGreatSameOf
import Derived.ChangeArms
import Derived.ChangeOld
import Derived.DataReads
namespace Go.Proofs.YtfilolmbppjbjaaGreat
open Go Go.RowKit

theorem cells41 : Tryz.prog.cellsOf 34 = 37 := by kernel_rfl
theorem cells39 : Tryz.prog.cellsOf 32 = 1 := by kernel_rfl
theorem cells3 : Tryz.prog.cellsOf 3 = 1 := by kernel_rfl
theorem cells9 : Tryz.prog.cellsOf 9 = 1 := by kernel_rfl
theorem open_ev {H : Type} {enc : TypeId × Value → H} {w : World} {base : Nat} {sp : Nat → Bool} {held : Bool} {fuel : Nat} {cs : List Value} {x : DataW H × List MemPlace}
    (h : DataW.trod enc Tryz.prog w base sp held fuel 34 cs = some x) : ∃ e : Ev, cs = (evr e).toList ∧ e.wf ∧ e.name.length ≤ maxLen := by
  obtain ⟨xs, n, _, _, hl, hxl, hf⟩ := DataW.trod_struct Tryz.underlying34 h
  rw [cells41] at hl
  have get : ∀ i (hi : i < xs.length), xs[i]? = some xs[i] := fun i hi => List.getElem?_eq_getElem hi
  have hx6 : xs.length = 6 := hxl
  have f0 : DataW.trod enc Tryz.prog w base sp held n 32 ((cs.drop 0).take (Tryz.prog.cellsOf 32)) = xs[0]? := hf 0 _ rfl
  have f1 : DataW.trod enc Tryz.prog w base sp held n 3 ((cs.drop 1).take (Tryz.prog.cellsOf 3)) = xs[1]? := hf 1 _ rfl
  have f2 : DataW.trod enc Tryz.prog w base sp held n 9 ((cs.drop 2).take (Tryz.prog.cellsOf 9)) = xs[2]? := hf 2 _ rfl
  have f3 : DataW.trod enc Tryz.prog w base sp held n 3 ((cs.drop 3).take (Tryz.prog.cellsOf 3)) = xs[3]? := hf 3 _ rfl
  have f4 : DataW.trod enc Tryz.prog w base sp held n 3 ((cs.drop 4).take (Tryz.prog.cellsOf 3)) = xs[4]? := hf 4 _ rfl
  have f5 : DataW.trod enc Tryz.prog w base sp held n 23 ((cs.drop 5).take (Tryz.prog.cellsOf 23)) = xs[5]? := hf 5 _ rfl
  rw [get 0 (by omega)] at f0
  rw [get 1 (by omega)] at f1
  rw [get 2 (by omega)] at f2
  rw [get 3 (by omega)] at f3
  rw [get 4 (by omega)] at f4
  rw [get 5 (by omega)] at f5
  rw [cells39] at f0
  rw [cells3] at f1 f3 f4
  rw [cells9] at f2
  rw [cells28] at f5
  obtain ⟨k, c0, _, w0⟩ := DataW.trod_int Tryz.underlying32 f0
  obtain ⟨i, c1, _, w1⟩ := DataW.trod_int Tryz.underlying3 f1
  obtain ⟨s, c2, _, w2⟩ := DataW.trod_string Tryz.underlying9 f2
  obtain ⟨t, c3, _, w3⟩ := DataW.trod_int Tryz.underlying3 f3
  obtain ⟨ln, c4, _, w4⟩ := DataW.trod_int Tryz.underlying3 f4
  obtain ⟨ys, m, _, _, h5l, hyl, hel⟩ := DataW.trod_array Tryz.underlying23 f5
  have each : ∀ j, j < 32 → ∃ b : UInt8, cs[5 + j]? = some (.int .u8 (b.toNat : Int)) := fun j hj => by
    have h1 := hel j hj
    rw [List.getElem?_eq_getElem (by omega)] at h1
    obtain ⟨q, h2, _, h4⟩ := DataW.trod_int Tryz.underlying5 h1
    rw [cells5, Nat.mul_one] at h2
    have h5 := take1 _ _ _ h2
    have h6 := bounds_u8 h4
    have e : ((UInt8.ofNat q.toNat).toNat : Int) = q := by rw [UInt8.toNat_ofNat']; omega
    refine ⟨UInt8.ofNat q.toNat, ?_⟩
    rw [e]
    rw [List.getElem?_take_of_lt hj, List.getElem?_drop] at h5
    exact h5
  have d0 := take1 _ _ _ c0
  have d1 := take1 _ _ _ c1
  have d2 := take1 _ _ _ c2
  have d3 := take1 _ _ _ c3
  have d4 := take1 _ _ _ c4
  refine ⟨⟨k, i, li s, t, ln, (List.range 32).map fun j => byteOf (cs.getD (5 + j) undef)⟩, ?_, ⟨bounds_i64 w0, bounds_i64 w1, bounds_i64 w3, bounds_i64 w4, by simp⟩, by show (li s).length ≤ _; rw [li_len]; exact w2⟩
  apply List.ext_getElem?
  intro j
  rw [Array.getElem?_toList, evr_list, List.getElem?_toArray]
  match j with
  | 0 => simpa using d0
  | 1 => simpa using d1
  | 2 => rw [d2]; show _ = some (Value.string ⟨(li s).toArray⟩); rw [mk_li]
  | 3 => simpa using d3
  | 4 => simpa using d4
  | j + 5 =>
    simp only [List.getElem?_cons_succ]
    by_cases hj : j < 32
    · obtain ⟨b, hb⟩ := each j hj
      rw [show j + 5 = 5 + j by omega, hb, byteL_at, List.getElem?_map, List.getElem?_range hj]
      have e : cs.getD (5 + j) undef = .int .u8 (b.toNat : Int) := by rw [List.getD_eq_getElem?_getD, hb]; rfl
      simp only [Option.map_some, e, byteOf]
      simp
    · rw [List.getElem?_eq_none (by omega), List.getElem?_eq_none (by rw [byteL_length]; simp; omega)]

theorem open_evs {H : Type} {enc : TypeId × Value → H} {w : World} {sp : Nat → Bool} {held : Bool} {fuel : Nat} {a : Option Addr} {len cap : Nat} {x : DataW H × List MemPlace}
    (h : DataW.trod enc Tryz.prog w 0 sp held fuel 24 [.slice a len cap] = some x) : ∃ l : List Ev, l.length = len ∧ EvsAt w.heap.size w a l ∧ (∀ e ∈ l, e.wf ∧ e.name.length ≤ maxLen) ∧ len ≤ maxLen := by
  rcases DataW.trod_slice Tryz.underlying24 h with ⟨h0, _⟩ | ⟨ad, len', cap', elems, rest, n, _, hcs, _, hb, hl, hm, hlen, hel, _⟩
  · simp at h0
    obtain ⟨rfl, rfl, rfl⟩ := h0
    exact ⟨[], rfl, .inl rfl, (fun e he => by cases he), Nat.zero_le _⟩
  · simp at hcs
    obtain ⟨rfl, rfl, rfl⟩ := hcs
    have each : ∀ i, i < len → ∃ e : Ev, w.cells? 0 (ad.add (i * 37)) 37 = some (evr e).toList ∧ e.wf ∧ e.name.length ≤ maxLen := fun i hi => by
      have h1 := hel i hi
      rw [List.getElem?_eq_getElem (by omega), cells41] at h1
      cases hc : w.cells? 0 (ad.add (i * 37)) 37 with
      | none => rw [hc] at h1; cases h1
      | some cs =>
        rw [hc] at h1
        obtain ⟨e, he, hw, hn⟩ := open_ev h1
        exact ⟨e, by rw [he], hw, hn⟩
    have hex : ∃ f : Nat → Ev, ∀ i, i < len → w.cells? 0 (ad.add (i * 37)) 37 = some (evr (f i)).toList ∧ (f i).wf ∧ (f i).name.length ≤ maxLen :=
      ⟨fun i => if hi : i < len then Classical.choose (each i hi) else zeroE, fun i hi => by simp only [dif_pos hi]; exact Classical.choose_spec (each i hi)⟩
    obtain ⟨f, hf⟩ := hex
    refine ⟨(List.range len).map f, by simp, ?_, fun e he => ?_, by omega⟩
    · by_cases h0 : len = 0
      · left; rw [h0]; rfl
      · right
        have hspot : ad.spot = none := by
          have h1 := (World.cells?_some (hf 0 (by omega)).1).2.2 0 (by decide)
          rw [Nat.zero_mul] at h1
          have h2 : (ad.add 0).add 0 = ad := by simp [Addr.add]
          rw [h2, Array.getElem?_toList, evr0] at h1
          unfold World.cell? at h1
          cases hs : ad.spot with
          | none => rfl
          | some q =>
            exfalso
            rw [hs] at h1
            split at h1 <;> simp at h1
        obtain ⟨b, o, sp⟩ := ad
        obtain rfl : sp = none := hspot
        refine ⟨b, o, rfl, ?_, fun k hk j v hv => ?_⟩
        · have := World.cells?_block (hf 0 (by omega)).1 (by decide)
          rw [Nat.zero_mul, Addr.add_mid] at this
          exact this
        · have hk' : k < len := by simpa using hk
          have h1 := World.cells?_some (hf k hk').1
          have hj : j < 37 := by
            have h2 := (List.getElem?_eq_some_iff.1 hv).1
            have h3 := h1.2.1
            simp only [List.getElem_map, List.getElem_range] at h2
            omega
          have h4 := h1.2.2 j hj
          rw [Addr.add_mid, Addr.add_mid] at h4
          rw [h4]
          simpa using hv
    · obtain ⟨i, hi, rfl⟩ := List.mem_map.1 he
      exact (hf i (List.mem_range.1 hi)).2
end Go.Proofs.YtfilolmbppjbjaaGreat
