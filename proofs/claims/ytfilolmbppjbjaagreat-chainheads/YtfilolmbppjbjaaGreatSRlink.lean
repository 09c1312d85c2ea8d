/-
  What Link of the reference returns.
-/
import Derived.Test.YtfilolmbppjbjaaGreatSRof
import Derived.Test.YtfilolmbppjbjaaGreatSRbytes
import Derived.Test.YtfilolmbppjbjaaGreatGsha
namespace Go.Proofs.YtfilolmbppjbjaaGreat.sh
open Go.RowKit

set_option maxHeartbeats 1000000 in
set_option maxRecDepth 100000 in
theorem rlink_any (d : List UInt8) (hd : d.length = 32) (b : ByteArray) (hb : b.size ≤ 3900) (w : World) :
    Calls Tryz.prog 24 #[.agg (row d), .string b] w fun e w' => e = .returned (.agg (row (sha (d ++ b.data.toList)))) ∧ Belo w.heap.size w w' := by
  have hB0 : ((w.alloc (.cells (row d) 23)).alloc (.cells d0 23)).heap[w.heap.size]? = some (.cells (row d) 23) := by rw [heap_alloc_if, if_neg (by simp), heap_alloc_if, if_pos rfl]
  have hB1 : ((w.alloc (.cells (row d) 23)).alloc (.cells d0 23)).heap[w.heap.size + 1]? = some (.cells d0 23) := by rw [heap_alloc_if, if_pos (by simp)]
  have hj : Hid ((ByteArray.mk d.toArray ++ b).data.toList = d ++ b.data.toList) := by show _ = _; simp [ByteArray.data_append]
  have hs : (ByteArray.mk d.toArray).size = 32 := by show d.toArray.size = 32; simpa using hd
  have hs2 : (ByteArray.mk d.toArray ++ b).size ≤ 4000 := by rw [ByteArray.size_append]; omega
  have hs1 : (ByteArray.mk d.toArray).size ≤ 32 := by omega
  have hi0 : Hid ((Tryz.prog.info? 23).map (·.size) = some (row d).size) := by show _ = _; rw [row_size, hd]; kernel_rfl
  have hi2 : Hid ((Tryz.prog.info? 23).map (·.size) = some (row (sha (d ++ b.data.toList))).size) := by show _ = _; rw [row_size, sha_length]; kernel_rfl
  have ho2 : Hid (d0.size = (row (sha (d ++ b.data.toList))).size) := by show _ = _; rw [row_size, sha_length]; kernel_rfl
  have hby := Lib.hid (rbytes_any d hd)
  revert hj hs2 hs1 hby
  generalize ByteArray.mk d.toArray = X
  intro hj hs2 hs1 hby
  have hH := Lib.hid hB1
  clear hs hd hB1
  go_enter Tryz.func24, Tryz.ntmps24
  rw [d0_zero] at hB0
  go_wp2_with (with_reducible refine wpList_load_row rfl 23 (.tmp 2) rfl _ rfl 23 (row d) _ hB0 Tryz.underlying23 rfl hi0.out ?_)
  rw [← d0_zero]
  refine (hby.out _).mono ?_
  rintro e v1 ⟨rfl, b1⟩
  go_wp2_with fail
  refine (rof_any _ hs2 _).mono ?_
  rintro e v2 ⟨rfl, b2⟩
  rw [hj.out]
  have hz := b1.size
  simp at hz
  have hr := (b2.block _ (by omega)).trans ((b1.block _ (by simp)).trans hH.out)
  have hbel : Hid (Belo w.heap.size w v2) := (((belo_alloc w _).trans ((belo_alloc _ _).mono (by simp))).trans (b1.mono (by simp; omega))).trans (b2.mono (by omega))
  go_wp2_with (with_reducible refine wpList_store_row rfl 23 (.tmp 4) (.tmp 9) rfl _ (row (sha (d ++ b.data.toList))) rfl rfl 23 d0 hr hi2.out ho2.out (row_one _) ?_)
  exact bodyPost_row 4 23 rfl _ rfl 23 (row (sha (d ++ b.data.toList))) _ (setRow_heap _ _ _ _ _ _ hr) Tryz.underlying23 rfl hi2.out rfl ⟨rfl, hbel.out.setRow (by omega) _⟩
end Go.Proofs.YtfilolmbppjbjaaGreat.sh
