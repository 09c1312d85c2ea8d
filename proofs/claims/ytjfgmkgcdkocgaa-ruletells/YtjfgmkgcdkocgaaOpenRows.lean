/-
  A row of files that came in, as the statements' form reads it.
-/
import Derived.Test.YtjfgmkgcdkocgaaOpens
namespace Go.Proofs.Ytjfgmkgcdkocgaa
open Go Go.RowKit Go.ChangeShapes Go.WideShapes Go.ChangeAt

def emptyFl : Fl := ⟨0, ByteArray.empty, ByteArray.empty, false, 0, none, 0, 0⟩
theorem open_files {H : Type} {enc : TypeId × Value → H} {w : World} {sp : Nat → Bool} {held : Bool} {fuel : Nat} {cs : List Value} {x : DataW H × List MemPlace}
    (h : DataW.trod enc Try.prog w 0 sp held fuel 22 cs = some x) : ∃ a c, ∃ l : List Fl, cs = [.slice a l.length c] ∧ FilesAt w.heap.size w a l ∧ (∀ f ∈ l, ∃ L, f.wf w L) ∧ l.length ≤ maxLen := by
  rcases DataW.trod_slice Try.underlying22 h with ⟨h0, _⟩ | ⟨ad, len, cap, elems, rest, n, _, hcs, _, hb, hl, hm, hlen, hel, _⟩
  · exact ⟨none, 0, [], h0, .inl rfl, (fun e he => by cases he), Nat.zero_le _⟩
  · have each : ∀ i, i < len → ∃ f : Fl, ∃ L, w.cells? 0 (ad.add (i * 6)) 6 = some (flr f).toList ∧ f.wf w L := fun i hi => by
      have h1 := hel i hi
      rw [List.getElem?_eq_getElem (by omega), cells27] at h1
      cases hc : w.cells? 0 (ad.add (i * 6)) 6 with
      | none => rw [hc] at h1; cases h1
      | some cs =>
        rw [hc] at h1
        obtain ⟨f, L, he, hw⟩ := open_fl h1
        exact ⟨f, L, by rw [he], hw⟩
    have hex : ∃ g : Nat → Fl, ∀ i, i < len → w.cells? 0 (ad.add (i * 6)) 6 = some (flr (g i)).toList ∧ ∃ L, (g i).wf w L :=
      ⟨fun i => if hi : i < len then Classical.choose (each i hi) else emptyFl, fun i hi => by
        simp only [dif_pos hi]
        obtain ⟨L, h1, h2⟩ := Classical.choose_spec (each i hi)
        exact ⟨h1, L, h2⟩⟩
    obtain ⟨g, hg⟩ := hex
    refine ⟨some ad, cap, (List.range len).map g, by simp [hcs], ?_, fun e he => ?_, by simp; omega⟩
    · by_cases h0 : len = 0
      · left; rw [h0]; rfl
      · right
        have hspot : ad.spot = none := by
          have h1 := (World.cells?_some (hg 0 (by omega)).1).2.2 0 (by decide)
          rw [Nat.zero_mul] at h1
          have h2 : (ad.add 0).add 0 = ad := by simp [Addr.add]
          rw [h2] at h1
          have h3 : (flr (g 0)).toList[0]? = some (.int .i64 (g 0).id) := rfl
          unfold World.cell? at h1
          cases hs : ad.spot with
          | none => rfl
          | some q =>
            exfalso
            rw [hs] at h1
            split at h1 <;> simp [flr] at h1
        obtain ⟨b, o, sp⟩ := ad
        obtain rfl : sp = none := hspot
        refine ⟨b, o, rfl, ?_, fun k hk j v hv => ?_⟩
        · have := World.cells?_block (hg 0 (by omega)).1 (by decide)
          rw [Nat.zero_mul, Addr.add_mid] at this
          exact this
        · have hk' : k < len := by simpa using hk
          have h1 := World.cells?_some (hg k hk').1
          have hv' : (flr (g k)).toList[j]? = some v := by simpa using hv
          have hj : j < 6 := by
            have := (List.getElem?_eq_some_iff.1 hv').1
            simpa [flr] using this
          have h4 := h1.2.2 j hj
          rw [Addr.add_mid, Addr.add_mid] at h4
          rw [h4]
          exact hv'
    · obtain ⟨i, hi, rfl⟩ := List.mem_map.1 he
      exact (hg i (List.mem_range.1 hi)).2
end Go.Proofs.Ytjfgmkgcdkocgaa
