/-
  Whether so little of a file came in that it is looked at: Few of the statements.
-/
import Derived.Test.YtphbkbjgjicncaaLeafs
namespace Go.Proofs.Ytphbkbjgjicncaa
open Go Go.RowKit

def fewB (f : Fl) (L : List ByteArray) : Bool := decide (L.length ≤ 200 ∧ (∀ x ∈ L, x.size ≤ 200) ∧ f.da.size ≤ 2000 ∧ f.nm.size ≤ 200)
theorem fewB_true {f : Fl} {L : List ByteArray} (h : fewB f L = true) : L.length ≤ 200 ∧ (∀ x ∈ L, x.size ≤ 200) ∧ f.da.size ≤ 2000 ∧ f.nm.size ≤ 200 := by simpa [fewB] using h

set_option maxHeartbeats 1000000 in
theorem few_any (f : Fl) (L : List ByteArray) (w : World) (h : StrAt w.heap.size w f.ha L) (hn : f.hn = L.length) (hm : L.length ≤ maxLen) :
    Calls Try.prog 17 #[.agg (flr f)] w fun e w' => e = .returned (.bool (fewB f L)) ∧ Below w.heap.size w w' := by
  obtain ⟨R, hR⟩ : ∃ R, fewB f L = R := ⟨_, rfl⟩
  rw [hR]
  obtain ⟨i, nm, da, se, un, ha, n, hc⟩ := f
  dsimp only at h hn
  subst hn
  have hB : Hid (Below w.heap.size w (w.alloc (.cells (flr ⟨i, nm, da, se, un, ha, L.length, hc⟩) 24))) := Lib.hid ((Below.refl _ _).alloc (Nat.le_refl _) _)
  have h' := Lib.hid (h.past hB.out)
  have hRB : Hid (decide (L.length ≤ 200 ∧ (∀ x ∈ L, x.size ≤ 200) ∧ da.size ≤ 2000 ∧ nm.size ≤ 200) = R) := Lib.hid hR
  have hg : Hid ((w.alloc (.cells (flr ⟨i, nm, da, se, un, ha, L.length, hc⟩) 24)).heap[w.heap.size]? = some (.cells (flr ⟨i, nm, da, se, un, ha, L.length, hc⟩) 24)) := Lib.hid (by rw [heap_alloc_if, if_pos rfl])
  have c1 : (w.alloc (.cells (flr ⟨i, nm, da, se, un, ha, L.length, hc⟩) 24)).cell? ⟨w.heap.size, 1, none⟩ = some (.string nm) := (cell_of_row _ _ _ _ _ _ hg.out).trans rfl
  have c2 : (w.alloc (.cells (flr ⟨i, nm, da, se, un, ha, L.length, hc⟩) 24)).cell? ⟨w.heap.size, 2, none⟩ = some (.string da) := (cell_of_row _ _ _ _ _ _ hg.out).trans rfl
  have c5 : (w.alloc (.cells (flr ⟨i, nm, da, se, un, ha, L.length, hc⟩) 24)).cell? ⟨w.heap.size, 5, none⟩ = some (.slice ha L.length hc) := (cell_of_row _ _ _ _ _ _ hg.out).trans rfl
  unfold maxLen at hm
  clear h hR hg
  go_enter Try.func17, Try.ntmps17
  go_wp2_with fail
  generalize w.alloc (.cells (flr ⟨i, nm, da, se, un, ha, L.length, hc⟩) 24) = V at *
  go_loop [3] (fun i => ∃ k : Nat, k ≤ L.length ∧ k ≤ 201 ∧ i = .int .i64 (k : Int) ∧ Hid (∀ x ∈ L.take k, x.size ≤ 200)) (fun i => L.length - (intOf i).toNat)
  case atStart => exact ⟨0, Nat.zero_le _, by omega, rfl, Lib.hid (by simp)⟩
  case round =>
    obtain ⟨k, hk, hk2, rfl, ha'⟩ := hrel
    by_cases hlt : k < L.length
    · have t0 : decide (k < L.length) = true := by simpa using hlt
      by_cases h2 : k ≤ 200
      · have t2 : decide ((k : Int) ≤ 200) = true := by simp; omega
        rcases h'.out with hn | ⟨b, o, rfl, _, hcs⟩
        · rw [hn] at hlt; simp at hlt
        have hck := hcs k hlt
        have hx : Hid (∀ y, L[k] = y → y.size ≤ 200 → ∀ x ∈ L.take (k + 1), x.size ≤ 200) := Lib.hid (fun y hy hs x hx => by
          rw [List.take_succ_eq_append_getElem hlt, List.mem_append] at hx
          rcases hx with hx | hx
          · exact ha'.out x hx
          · rw [List.mem_singleton] at hx; rw [hx, hy]; exact hs)
        have hno : Hid (∀ y, L[k] = y → 200 < y.size → R = false) := Lib.hid (fun y hy hs => by
          rw [← hRB.out, decide_eq_false_iff_not]
          rintro ⟨_, q, _⟩
          have := q y (by rw [← hy]; exact List.getElem_mem _)
          omega)
        clear hcs
        obtain ⟨y, hy0⟩ : ∃ y, L[k] = y := ⟨_, rfl⟩
        rw [hy0] at hck
        have hy := Lib.hid hy0
        clear hy0
        have hlt' : (k : Int) < (L.length : Int) := by omega
        by_cases hs : 200 < y.size
        · have t3 : decide ((200 : Int) < (y.size : Int)) = true := by simp; omega
          have e := Lib.hid (hno.out y hy.out hs)
          clear hs hx hno
          go_wp2_with fail
          go_ret
          exact ⟨by rw [e.out]; rfl, hB.out⟩
        · have t3 : decide ((200 : Int) < (y.size : Int)) = false := by simp; omega
          have e := Lib.hid (hx.out y hy.out (by omega))
          clear hs hx hno
          go_wp2_with fail
          go_round
          case rel => exact ⟨k + 1, by omega, by omega, by go_num, e⟩
          case measure => simp [intOf]; omega
      · have t2 : decide ((k : Int) ≤ 200) = false := by simp; omega
        have t3 : decide ((L.length : Int) ≤ 200) = false := by simp; omega
        have e : Hid (R = false) := Lib.hid (by
          rw [← hRB.out, decide_eq_false_iff_not]
          rintro ⟨q, _⟩
          omega)
        clear h2
        go_wp2_with fail
        go_ret
        exact ⟨by rw [e.out]; rfl, hB.out⟩
    · obtain rfl : k = L.length := by omega
      have t0 : decide (L.length < L.length) = false := by simp
      have hall : Hid (∀ x ∈ L, x.size ≤ 200) := Lib.hid (by have := ha'.out; rwa [List.take_length] at this)
      by_cases h2 : L.length ≤ 200
      · have t2 : decide ((L.length : Int) ≤ 200) = true := by simp; omega
        by_cases h3 : da.size ≤ 2000
        · have t3 : decide ((da.size : Int) ≤ 2000) = true := by simp; omega
          by_cases h4 : nm.size ≤ 200
          · have t4 : decide ((nm.size : Int) ≤ 200) = true := by simp; omega
            have e : Hid (R = true) := Lib.hid (by
              rw [← hRB.out, decide_eq_true_eq]
              exact ⟨h2, hall.out, h3, h4⟩)
            clear h2 h3 h4 hlt
            go_wp2_with fail
            go_ret
            exact ⟨by rw [e.out]; rfl, hB.out⟩
          · have t4 : decide ((nm.size : Int) ≤ 200) = false := by simp; omega
            have e : Hid (R = false) := Lib.hid (by
              rw [← hRB.out, decide_eq_false_iff_not]
              rintro ⟨_, _, _, q⟩
              omega)
            clear h2 h3 h4 hlt
            go_wp2_with fail
            go_ret
            exact ⟨by rw [e.out]; rfl, hB.out⟩
        · have t3 : decide ((da.size : Int) ≤ 2000) = false := by simp; omega
          have e : Hid (R = false) := Lib.hid (by
            rw [← hRB.out, decide_eq_false_iff_not]
            rintro ⟨_, _, q, _⟩
            omega)
          clear h2 h3 hlt
          go_wp2_with fail
          go_ret
          exact ⟨by rw [e.out]; rfl, hB.out⟩
      · have t2 : decide ((L.length : Int) ≤ 200) = false := by simp; omega
        have e : Hid (R = false) := Lib.hid (by
          rw [← hRB.out, decide_eq_false_iff_not]
          rintro ⟨q, _⟩
          omega)
        clear h2 hlt
        go_wp2_with fail
        go_ret
        exact ⟨by rw [e.out]; rfl, hB.out⟩
end Go.Proofs.Ytphbkbjgjicncaa
