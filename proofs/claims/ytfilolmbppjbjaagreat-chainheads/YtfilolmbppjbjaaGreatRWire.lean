/-
  What Text and Sum of the document's answer (wire) return.
-/
import Derived.Test.YtfilolmbppjbjaaGreatRTells
import Derived.Test.YtfilolmbppjbjaaGreatRnum
namespace Go.Proofs.YtfilolmbppjbjaaGreat
open Go Go.RowKit

set_option maxHeartbeats 400000 in
theorem rtext_any (t : ByteArray) (ht : t.size ≤ 9223372036854775000) (w : World) :
    Calls Tryz.prog 44 #[.string t] w fun e w' => e = .returned (.string (mk (text (li t)))) ∧ Below w.heap.size w w' := by
  have c1 := Lib.hid (fun v => rnum_nat t.size v)
  have hn := num_len (cl t.size)
  have he : Hid (mk (text (li t)) = mk (num (cl t.size)) ++ t) := by
    show _ = _
    apply li_inj
    rw [li_mk', li_app, li_mk']
    unfold text
    rw [li_len]
  have hz : (mk (num (cl t.size))).size ≤ 8 := by rw [size_li, li_mk']; exact hn.2
  rw [he.out]
  clear he hn
  revert c1 hz
  generalize mk (num (cl t.size)) = N
  intro c1 hz
  go_enter Tryz.func44, Tryz.ntmps44
  go_wp2_with fail
  refine (c1.out _).mono ?_
  rintro e w1 ⟨rfl, b1⟩
  go_wp2_with fail
  go_returns
  exact ⟨rfl, b1⟩
theorem below_new (w : World) (o : Obj) : Below w.heap.size w (w.alloc o) := (Below.refl _ _).alloc (Nat.le_refl _) _
set_option maxRecDepth 100000 in
set_option maxHeartbeats 400000 in
theorem rsum_any (d : List UInt8) (hd : d.length = 32) (w : World) :
    Calls Tryz.prog 45 #[.agg (row d)] w fun e w' => e = .returned (.string ⟨d.toArray⟩) ∧ sh.Belo w.heap.size w w' := by
  have hK0 : Hid (KB w.heap.size w [(w.heap.size, .cells (row d) 23)] (w.alloc (.cells (row d) 23))) := Lib.hid ((KW.start w).kb.new _)
  have cb := Lib.hid (fun v => sh.rbytes_any d hd v)
  have hi := Lib.hid (row26 d hd)
  clear hd
  generalize ByteArray.mk d.toArray = X at *
  go_enter Tryz.func45, Tryz.ntmps45
  go_wp2_with (with_reducible refine wpList_load_row rfl 23 (.tmp 1) rfl _ rfl 23 (row d) _ (hK0.out.at 0 rfl) Tryz.underlying23 rfl hi.out ?_)
  refine (cb.out _).mono ?_
  rintro r v ⟨rfl, hB⟩
  have hK1 := Lib.hid (hK0.out.past hB)
  clear hB
  go_wp2_with fail
  go_returns
  exact ⟨rfl, hK1.out.bel⟩
end Go.Proofs.YtfilolmbppjbjaaGreat
