/-
  What Start and Next of the document's answer (chain) return.
-/
import Derived.Test.YtfilolmbppjbjaaGreatRPut
namespace Go.Proofs.YtfilolmbppjbjaaGreat
open Go Go.RowKit

set_option maxRecDepth 100000 in
set_option maxHeartbeats 400000 in
theorem rstart_any (w : World) :
    Calls Tryz.prog 20 #[] w fun r w' => r = .returned (.agg (row startD)) ∧ sh.Belo w.heap.size w w' := by
  have hK0 : Hid (KB w.heap.size w [(w.heap.size, .cells (row zs) 23)] (w.alloc (.cells (row zs) 23))) := Lib.hid ((KW.start w).kb.new _)
  have co : Hid (∀ v, Calls Tryz.prog 36 #[.string ⟨#[99, 101, 110, 111, 116, 97, 112, 104]⟩] v fun e w' => e = .returned (.agg (row startD)) ∧ sh.Belo v.heap.size v w') := Lib.hid (fun v => sh.rof_any _ (by decide) v)
  have hz := zero26
  have hl : Hid (startD.length = 32) := Lib.hid (sha_len _)
  generalize startD = D at *
  go_enter Tryz.func20, Tryz.ntmps20
  go_wp2_with fail
  refine (co.out _).mono ?_
  rintro r v ⟨rfl, hB⟩
  have hK1 := Lib.hid (hK0.out.past hB)
  have hK2 := Lib.hid (hK1.out.row 0 rfl (Nat.le_refl _) (row D))
  clear hB
  go_wp2_with (with_reducible refine wpList_store_row rfl 23 (.tmp 0) (.tmp 1) rfl _ (row D) rfl rfl 23 _ (hK1.out.at 0 rfl) (row26 D hl.out) (row_eq _ _ zs_len hl.out) (row_one D) ?_)
  exact bodyPost_row 0 23 rfl _ rfl 23 (row D) _ (hK2.out.at 0 rfl) Tryz.underlying23 rfl (row26 D hl.out) rfl ⟨rfl, hK2.out.bel⟩

set_option maxRecDepth 100000 in
set_option maxHeartbeats 400000 in
theorem rnext_true (d : List UInt8) (hd : d.length = 32) (e : Ev) (he : e.fit) (hv : okP e = true) (w : World) :
    Calls Tryz.prog 12 #[.agg (row d), .agg (evr e)] w fun r w' => r = .returned (.tuple #[.agg (row (nextD d e)), .bool true]) ∧ sh.Belo w.heap.size w w' := by
  have hi : Hid ((Tryz.prog.info? 34).map (·.size) = some (evr e).size) := Lib.hid (by rw [evr_size, he.w.s]; exact info41)
  have hK0 : Hid (KB w.heap.size w [(w.heap.size + 1 + 1, .cells (row zs) 23), (w.heap.size + 1, .cells (evr e) 34), (w.heap.size, .cells (row d) 23)] (((w.alloc (.cells (row d) 23)).alloc (.cells (evr e) 34)).alloc (.cells (row zs) 23))) := Lib.hid (by
    have := (((KW.start w).new (.cells (row d) 23)).new (.cells (evr e) 34)).new (.cells (row zs) 23); simpa using this.kb)
  have cp := Lib.hid (fun v => reput_true e he hv v)
  have cl : Hid (∀ v, Calls Tryz.prog 24 #[.agg (row d), .string (mk (putE e))] v fun r w' => r = .returned (.agg (row (nextD d e))) ∧ sh.Belo v.heap.size v w') := Lib.hid (fun v => by
    exact sh.rlink_any d hd ⟨(putE e).toArray⟩ (by rw [mk_size]; have := putE_len e he; omega) v)
  have hz := zero26
  have hl : Hid ((nextD d e).length = 32) := Lib.hid (nextD_len _ _)
  have hd' := Lib.hid hd
  generalize nextD d e = D at *
  generalize mk (putE e) = PE at *
  clear hv he hd
  go_enter Tryz.func12, Tryz.ntmps12
  go_wp2_with (with_reducible refine wpList_load_row rfl 34 (.tmp 3) rfl _ rfl 34 (evr e) _ (hK0.out.at 1 rfl) Tryz.underlying34 rfl hi.out ?_)
  refine (cp.out _).mono ?_
  rintro r v ⟨rfl, hB⟩
  have hK1 := Lib.hid (hK0.out.past hB)
  clear hB
  go_wp2_with (with_reducible refine wpList_load_row rfl 23 (.tmp 2) rfl _ rfl 23 (row d) _ (hK1.out.at 2 rfl) Tryz.underlying23 rfl (row26 d hd'.out) ?_)
  refine (cl.out _).mono ?_
  rintro r u ⟨rfl, hB⟩
  have hK2 := Lib.hid (hK1.out.past hB)
  have hK3 := Lib.hid (hK2.out.row 0 rfl (by omega) (row D))
  clear hB
  go_wp2_with (with_reducible refine wpList_store_row rfl 23 (.tmp 4) (.tmp 18) rfl _ (row D) rfl rfl 23 _ (hK2.out.at 0 rfl) (row26 D hl.out) (row_eq _ _ zs_len hl.out) (row_one D) ?_)
  exact bodyPost_row2 4 5 23 rfl _ rfl (.bool true) rfl 23 (row D) _ (hK3.out.at 0 rfl) Tryz.underlying23 rfl (row26 D hl.out) rfl ⟨rfl, hK3.out.bel⟩

set_option maxRecDepth 100000 in
set_option maxHeartbeats 400000 in
theorem rnext_false (d : List UInt8) (_hd : d.length = 32) (e : Ev) (he : e.fit) (hv : okP e = false) (w : World) :
    Calls Tryz.prog 12 #[.agg (row d), .agg (evr e)] w fun r w' => r = .returned (.tuple #[.agg (row zs), .bool false]) ∧ sh.Belo w.heap.size w w' := by
  have hi : Hid ((Tryz.prog.info? 34).map (·.size) = some (evr e).size) := Lib.hid (by rw [evr_size, he.w.s]; exact info41)
  have hK0 : Hid (KB w.heap.size w [(w.heap.size + 1 + 1, .cells (row zs) 23), (w.heap.size + 1, .cells (evr e) 34), (w.heap.size, .cells (row d) 23)] (((w.alloc (.cells (row d) 23)).alloc (.cells (evr e) 34)).alloc (.cells (row zs) 23))) := Lib.hid (by
    have := (((KW.start w).new (.cells (row d) 23)).new (.cells (evr e) 34)).new (.cells (row zs) 23); simpa using this.kb)
  have cp := Lib.hid (fun v => reput_false e he hv v)
  have hz := zero26
  clear hv he
  go_enter Tryz.func12, Tryz.ntmps12
  go_wp2_with (with_reducible refine wpList_load_row rfl 34 (.tmp 3) rfl _ rfl 34 (evr e) _ (hK0.out.at 1 rfl) Tryz.underlying34 rfl hi.out ?_)
  refine (cp.out _).mono ?_
  rintro r v ⟨rfl, hB⟩
  have hK1 := Lib.hid (hK0.out.past hB)
  have hK2 := Lib.hid (hK1.out.row 0 rfl (by omega) (row zs))
  clear hB
  go_wp2_with (first
    | (with_reducible refine wpList_build0 rfl 23 rfl _ build26 ?_)
    | (with_reducible refine wpList_store_row rfl 23 (.tmp 4) (.tmp 15) rfl _ (row zs) rfl rfl 23 _ (hK1.out.at 0 rfl) (row26 zs rfl) rfl (row_one zs) ?_))
  exact bodyPost_row2 4 5 23 rfl _ rfl (.bool false) rfl 23 (row zs) _ (hK2.out.at 0 rfl) Tryz.underlying23 rfl (row26 zs rfl) rfl ⟨rfl, hK2.out.bel⟩
end Go.Proofs.YtfilolmbppjbjaaGreat
