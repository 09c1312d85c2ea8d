/-
  What Bytes of the reference returns: a digest's bytes as a text.
-/
import Derived.Test.YtfilolmbppjbjaaGreatSRworld
namespace Go.Proofs.YtfilolmbppjbjaaGreat.sh
open Go.RowKit

set_option maxRecDepth 100000 in
theorem came_nil (W : World) : Came W 1 none 0 0 0 0 [] :=
  ⟨Nat.le_refl _, fun h => absurd h (Nat.lt_irrefl _), fun h => absurd h (Nat.lt_irrefl _), rfl, fun j u h => by simp at h, fun j hj => by omega⟩
set_option maxRecDepth 100000 in
theorem nil_belo {W wr : World} {v : Value} {m r : Nat} {ks : List Value} (h : Upon W 5 1 none 0 0 0 0 [] wr v m ks r) : Belo W.heap.size W wr :=
  ⟨h.kept.1, h.kept.2.1, h.kept.size, fun i hi => h.kept.block hi (fun p ⟨j, hj, _⟩ => absurd hj (by have := h.rFit; omega))⟩

set_option maxHeartbeats 1000000 in
set_option maxRecDepth 100000 in
theorem rbytes_any (d : List UInt8) (hd : d.length = 32) (w : World) :
    Calls Tryz.prog 46 #[.agg (row d)] w fun e w' => e = .returned (.string ⟨d.toArray⟩) ∧ Belo w.heap.size w w' := by
  obtain ⟨i, hi, hz, hsz, hby⟩ := info5'
  have H := Lib.hid (And.intro hi (And.intro hz (And.intro hsz (And.intro hby hd))))
  clear hi hz hsz hby hd
  go_enter Tryz.func46, Tryz.ntmps46
  go_wp2_with fail
  obtain ⟨W, hW⟩ : ∃ W, w.alloc (.cells (row d) 23) = W := ⟨_, rfl⟩
  have hW1 : W.heap[w.heap.size]? = some (.cells (row d) 23) := by rw [← hW, heap_alloc_if, if_pos rfl]
  have hW2 : Belo w.heap.size w W := by rw [← hW]; exact belo_alloc w _
  have HW := Lib.hid (And.intro hW1 hW2)
  rw [hW]
  clear hW hW1 hW2
  go_loopw [3, 4] (fun v j wr => ∃ (k r : Nat) (a : Option Addr) (c : Nat), k ≤ 32 ∧ v = .slice a k c ∧ j = .int .i64 (k : Int) ∧ Hid (Upon W 5 1 none 0 0 0 0 [] wr (.slice a k c) k (byteL (d.take k)) r)) (fun _ j _ => 32 - (intOf j).toNat)
  case atStart => exact ⟨0, 0, none, 0, by omega, rfl, rfl, Upon.start (came_nil W)⟩
  case round =>
    obtain ⟨k, r, a, c, hk, rfl, rfl, hU⟩ := hrel
    by_cases hlt : k < 32
    · have t1 : decide ((k : Int) < 32) = true := by rw [decide_eq_true_eq]; omega
      have hb : (k : Int) < 32 := by omega
      have c1 : wr.cell? ⟨w.heap.size, k, none⟩ = some (.int .u8 ((d.getD k 0).toNat : Int)) := by
        rw [cell_of_row wr _ k _ _ _ (((nil_belo hU.out).block _ (lt_of_some HW.out.1)).trans HW.out.1), row_at _ _ (by rw [H.out.2.2.2.2]; exact hlt)]
      have hts := Lib.hid (take_snocD 0 d k (by rw [H.out.2.2.2.2]; exact hlt))
      revert c1 hts
      generalize d.getD k 0 = x
      intro c1 hts
      have hb1 : 0 + k + 1 ≤ maxLen := by unfold maxLen; omega
      have hb2 : (0 + k + 1) * 1 ≤ 140737488355328 := by omega
      go_wp2_with (first
        | (at_builtin; refine wpList_append_upon _ rfl (.tmp 9) (.tmp 13) 64 64 rfl (came_nil W) i (.int .u8 0) 1 Tryz.underlying64 H.out.1 H.out.2.1 H.out.2.2.1 H.out.2.2.2.1 rfl rfl (hU.out.alloc (came_nil W) _) _ 1 (byteL [x]) rfl (src_one x wr) hb1 hb2 ?_)
        | fail)
      intro v2 w2 hU2
      obtain ⟨a2, c2, rfl⟩ := hU2.shape
      rw [← byteL_append, ← hts.out, Nat.zero_add] at hU2
      have hU2' := Lib.hid hU2
      clear hU2
      rw [Nat.zero_add]
      go_wp2_with fail
      go_roundw
      case rel => exact ⟨k + 1, _, a2, c2, by omega, rfl, by go_num, hU2'⟩
      case measure => simp [intOf]; omega
    · obtain rfl : k = 32 := by omega
      have t1 : decide (((32 : Nat) : Int) < 32) = false := by decide
      obtain ⟨g, o', c9, he, _, _, hcl⟩ := hU.out.value (came_nil W) (by unfold maxLen; omega) (.inr (by omega))
      have hcv : (convert 64 9 (.slice a 32 c)).run Tryz.prog wr = .ok (.string ⟨d.toArray⟩) wr := by
        rw [he, show 0 + 32 = d.length by rw [H.out.2.2.2.2]]
        refine run_convert_bytes_back wr 64 9 5 _ _ _ Tryz.underlying64 Tryz.underlying5 Tryz.underlying9 (fun j hj => ?_)
        rw [H.out.2.2.2.2] at hj
        rw [Addr.add_lit, hcl j (by omega), List.nil_append, List.take_of_length_le (by rw [H.out.2.2.2.2]; omega), byteL_at, List.getElem?_eq_getElem (by rw [H.out.2.2.2.2]; omega)]; rfl
      have hbel := Lib.hid (HW.out.2.trans ((nil_belo hU.out).mono (Nat.le_of_lt (lt_of_some HW.out.1))))
      clear hcl he
      go_wp2_with fail
      go_ret
      exact ⟨rfl, hbel.out⟩
end Go.Proofs.YtfilolmbppjbjaaGreat.sh
