/-
  What 'Few' returns.
-/
import Derived.Test.YtfilolmbppjbjaaGreatCollide
import Derived.Test.YtfilolmbppjbjaaGreatSegs
namespace Go.Proofs.YtfilolmbppjbjaaGreat
open Go Go.RowKit

def shortE (e : Ev) : Bool := decide (e.name.length ≤ 100)
def fewB (l : List Ev) : Bool := (l.take 21).all shortE && decide (l.length ≤ 20)
theorem fewB_fit {l : List Ev} (h : fewB l = true) (hw : ∀ e ∈ l, e.wf) : Fit l ∧ l.length ≤ 20 := by
  unfold fewB at h
  rw [Bool.and_eq_true, decide_eq_true_eq] at h
  have ht : l.take 21 = l := List.take_of_length_le (by omega)
  rw [ht, List.all_eq_true] at h
  exact ⟨fun e he => ⟨hw e he, by simpa [shortE] using h.1 e he⟩, h.2⟩

set_option maxRecDepth 100000 in
set_option maxHeartbeats 1000000 in
theorem few_any (l : List Ev) (hll : (l.length : Int) ≤ 9223372036854775807) (hnl : ∀ e ∈ l, e.name.length ≤ 9223372036854775807) (p : Option Addr) (cap : Nat) (w : World) (hE : EvsAt w.heap.size w p l) :
    Calls Tryz.prog 6 #[.slice p l.length cap] w fun r w' => r = .returned (.bool (fewB l)) ∧ w = w' := by
  have hE' := Lib.hid hE
  have hnl' := Lib.hid hnl
  clear hE hnl
  go_enter Tryz.func6, Tryz.ntmps6
  go_wp2_with fail
  go_loopw [3] (fun i wr => ∃ k : Nat, k ≤ l.length ∧ k ≤ 21 ∧ i = .int .i64 (k : Int) ∧ Hid ((l.take k).all shortE = true) ∧ wr = w) (fun i _ => l.length - (intOf i).toNat)
  case atStart => exact ⟨0, Nat.zero_le _, by omega, rfl, Lib.hid rfl, rfl⟩
  case round =>
    obtain ⟨k, hk, hk21, rfl, hall, rfl⟩ := hrel
    by_cases hlt : k < l.length
    · have hb : (k : Int) < (l.length : Int) := by omega
      by_cases h20 : k ≤ 20
      · have hb2 : (k : Int) ≤ 20 := by omega
        obtain ⟨b, o, rfl, hr⟩ := hE'.out.at k hlt
        have hr' := hr wr (Below.refl _ _)
        have hc := hr' 2 (.string ⟨(l[k]).name.toArray⟩) (by rw [Array.getElem?_toList]; exact evr2 _)
        have hts : Hid ((l.take (k + 1)).all shortE = shortE l[k]) := Lib.hid (by rw [List.take_succ_eq_append_getElem hlt, List.all_append, hall.out]; simp)
        have hno : Hid (shortE l[k] = false → fewB l = false) := Lib.hid (fun h => by
          unfold fewB
          rw [Bool.and_eq_false_iff]
          left
          rw [List.all_eq_false]
          exact ⟨l[k], by rw [List.mem_take_iff_getElem]; exact ⟨k, by omega, rfl⟩, by rw [h]; decide⟩)
        have hnk : (l[k]).name.length ≤ 9223372036854775807 := hnl'.out _ (List.getElem_mem hlt)
        clear hr hr'
        generalize l[k] = e at *
        have hsz : Hid ((⟨e.name.toArray⟩ : ByteArray).size = e.name.length) := Lib.hid (mk_size _)
        have hms := mk_size e.name
        by_cases hs : e.name.length ≤ 100
        · have hd : ((e.name.length : Int) ≤ 100) := by omega
          have hgt : ¬ (100 < (e.name.length : Int)) := by omega
          have hq : Hid (shortE e = true) := Lib.hid (by simpa [shortE] using hs)
          rw [hq.out] at hts
          clear hno hq
          go_wp2_with fail
          go_roundw
          case rel => exact ⟨k + 1, by omega, by omega, by go_num, hts, trivial⟩
          case measure => simp [intOf]; omega
        · have hgt : (100 < (e.name.length : Int)) := by omega
          have hq := Lib.hid (hno.out (by simp [shortE]; omega))
          clear hno hts
          go_wp2_with fail
          go_ret
          exact ⟨by rw [hq.out]; rfl, rfl⟩
      · have hk1 : k = 21 := by omega
        have hb2 : ¬ (k : Int) ≤ 20 := by omega
        have hll2 : ¬ (l.length : Int) ≤ 20 := by omega
        have hq : Hid (fewB l = false) := Lib.hid (by unfold fewB; rw [Bool.and_eq_false_iff]; right; simp; omega)
        go_wp2_with fail
        go_ret
        exact ⟨by rw [hq.out]; rfl, rfl⟩
    · obtain rfl : k = l.length := by omega
      have hb : ¬ (l.length : Int) < (l.length : Int) := by omega
      have hall' : Hid ((l.take 21).all shortE = true) := Lib.hid (by have := hall.out; rw [List.take_length] at this; rw [List.take_of_length_le hk21]; exact this)
      by_cases h20 : l.length ≤ 20
      · have hll2 : (l.length : Int) ≤ 20 := by omega
        have hq : Hid (fewB l = true) := Lib.hid (by unfold fewB; rw [hall'.out]; simpa using h20)
        go_wp2_with fail
        go_ret
        exact ⟨by rw [hq.out]; rfl, rfl⟩
      · have hll2 : ¬ (l.length : Int) ≤ 20 := by omega
        have hq : Hid (fewB l = false) := Lib.hid (by unfold fewB; rw [Bool.and_eq_false_iff]; right; simpa using h20)
        go_wp2_with fail
        go_ret
        exact ⟨by rw [hq.out]; rfl, rfl⟩
end Go.Proofs.YtfilolmbppjbjaaGreat
