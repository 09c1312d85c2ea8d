/-
  What Put of the document's answer (event) returns.
-/
import Derived.Test.YtfilolmbppjbjaaGreatRValid
import Derived.Test.YtfilolmbppjbjaaGreatChain
namespace Go.Proofs.YtfilolmbppjbjaaGreat
open Go Go.RowKit

theorem tell_at {B : Nat} {w v : World} {b b1 : Nat} {k : Int} {c : Array Value} (h : Hid (KW B w [(b, .cells (TB k) 78), (b1, .cells c 34)] v)) (j : Nat) (x y : Bool) (hx : (TB k)[j]? = some (.bool x)) (hxy : x = y) : v.cell? ⟨b, j, none⟩ = some (.bool y) := by
  subst hxy; exact h.out.cell 0 rfl j hx
set_option maxRecDepth 100000 in
set_option maxHeartbeats 400000 in
theorem reput_false (e : Ev) (he : e.fit) (hv : okP e = false) (w : World) :
    Calls Tryz.prog 23 #[.agg (evr e)] w fun r w' => r = .returned (.tuple #[.string ⟨#[]⟩, .bool false]) ∧ sh.Belo w.heap.size w w' := by
  have hi : Hid ((Tryz.prog.info? 34).map (·.size) = some (evr e).size) := Lib.hid (by rw [evr_size, he.w.s]; exact info41)
  have hK0 : Hid (KW w.heap.size w [(w.heap.size, .cells (evr e) 34)] (w.alloc (.cells (evr e) 34))) := Lib.hid ((KW.start w).new _)
  have cv := Lib.hid (fun v => rvalidE_any e he v)
  rw [hv] at cv
  clear hv he
  go_enter Tryz.func23, Tryz.ntmps23
  go_wp2_with (with_reducible refine wpList_load_row rfl 34 (.tmp 1) rfl _ rfl 34 (evr e) _ (hK0.out.at 0 rfl) Tryz.underlying34 rfl hi.out ?_)
  refine (cv.out _).mono ?_
  rintro r v ⟨rfl, hB⟩
  have hK1 := Lib.hid (hK0.out.past hB)
  clear hB
  go_wp2_with fail
  go_returns
  exact ⟨rfl, hK1.out.kb.bel⟩

set_option maxRecDepth 100000 in
set_option maxHeartbeats 2000000 in
theorem reput_a (e : Ev) (he : e.fit) (hr : 0 ≤ e.kind ∧ e.kind ≤ 7) (htI : tI e.kind = true) (htN : tN e.kind = true) (htT : tT e.kind = false) (htL : tL e.kind = false) (htS : tS e.kind = false) (hE : mk (putE e) = mk (num (clI e.kind)) ++ mk (num (clI e.id)) ++ mk (text e.name)) (hv : okP e = true) (w : World) :
    Calls Tryz.prog 23 #[.agg (evr e)] w fun r w' => r = .returned (.tuple #[.string (mk (putE e)), .bool true]) ∧ sh.Belo w.heap.size w w' := by
  have hi : Hid ((Tryz.prog.info? 34).map (·.size) = some (evr e).size) := Lib.hid (by rw [evr_size, he.w.s]; exact info41)
  have hK0 : Hid (KW w.heap.size w [(w.heap.size, .cells (evr e) 34)] (w.alloc (.cells (evr e) 34))) := Lib.hid ((KW.start w).new _)
  have cv := Lib.hid (fun v => rvalidE_any e he v)
  rw [hv] at cv
  have ct := Lib.hid (fun v => rtells_any e.kind hr v)
  have cK := Lib.hid (fun v => rnum_any e.kind v)
  have zK : (mk (num (clI e.kind))).size ≤ 9 := by rw [mk_size]; exact num_len9 _
  have cid := Lib.hid (fun v => rnum_any e.id v)
  have zid : (mk (num (clI e.id))).size ≤ 9 := by rw [mk_size]; exact num_len9 _
  have cname := Lib.hid (fun v => rtext_any ⟨e.name.toArray⟩ (by have := he.n; rw [mk_size]; omega) v)
  have hli : li ⟨e.name.toArray⟩ = e.name := by simp [li]
  rw [hli] at cname
  have zname : (mk (text e.name)).size ≤ 200 := by rw [size_li, li_mk']; exact Nat.le_trans (text_size e.name) (by have := he.n; omega)
  clear hli
  have gtI := Lib.hid htI
  have gtN := Lib.hid htN
  have gtT := Lib.hid htT
  have gtL := Lib.hid htL
  have gtS := Lib.hid htS
  have hz := zero78
  have gE := Lib.hid hE
  have k0 := hK0.out.cell 0 rfl 0 (evr0 e)
  clear hE hv he hr htI htN htT htL htS
  generalize mk (putE e) = PE at *
  generalize mk (num (clI e.kind)) = NK at *
  generalize mk (num (clI e.id)) = Nid at *
  generalize mk (text e.name) = Nname at *
  go_enter Tryz.func23, Tryz.ntmps23
  go_wp2_with (with_reducible refine wpList_load_row rfl 34 (.tmp 1) rfl _ rfl 34 (evr e) _ (hK0.out.at 0 rfl) Tryz.underlying34 rfl hi.out ?_)
  refine (cv.out _).mono ?_
  rintro r v0 ⟨rfl, hB⟩
  have hKa := Lib.hid (hK0.out.past hB)
  have k1 := hKa.out.cell 0 rfl 0 (evr0 e)
  clear hB k0 hK0
  go_wp2_with fail
  refine (ct.out _).mono ?_
  rintro r v ⟨rfl, hB⟩
  have hKb := Lib.hid (hKa.out.past hB)
  have hKc := Lib.hid (hKb.out.new (.cells #[.bool false, .bool false, .bool false, .bool false, .bool false] 78))
  have hK1 := Lib.hid (hKc.out.row 0 rfl (by have := hKb.out.size; omega) (TB e.kind))
  have k2 := hK1.out.cell 1 rfl 0 (evr0 e)
  clear hB k1 hKa
  go_wp2_with (with_reducible refine wpList_store_row rfl 78 (.tmp 5) (.tmp 13) rfl _ (TB e.kind) rfl rfl 78 _ (hKc.out.at 0 rfl) (TB_info _) (TB_old _) (TB_one _) ?_)
  refine (cK.out _).mono ?_
  rintro r v1 ⟨rfl, hB⟩
  have hK2 := Lib.hid (hK1.out.past hB)
  clear hB k2 hKb hKc hK1
  have t2_0 := tell_at hK2 0 (tI e.kind) true rfl gtI.out
  have t2_1 := tell_at hK2 1 (tN e.kind) true rfl gtN.out
  have t2_2 := tell_at hK2 2 (tT e.kind) false rfl gtT.out
  have t2_3 := tell_at hK2 3 (tL e.kind) false rfl gtL.out
  have t2_4 := tell_at hK2 4 (tS e.kind) false rfl gtS.out
  have f2_id := hK2.out.cell 1 rfl 1 (evr1 e)
  have f2_name := hK2.out.cell 1 rfl 2 (evr2 e)
  go_wp2_with fail
  refine (cid.out _).mono ?_
  rintro r v2 ⟨rfl, hB⟩
  have hK3 := Lib.hid (hK2.out.past hB)
  clear hB
  clear t2_0 t2_1 t2_2 t2_3 t2_4 f2_id f2_name
  have t3_0 := tell_at hK3 0 (tI e.kind) true rfl gtI.out
  have t3_1 := tell_at hK3 1 (tN e.kind) true rfl gtN.out
  have t3_2 := tell_at hK3 2 (tT e.kind) false rfl gtT.out
  have t3_3 := tell_at hK3 3 (tL e.kind) false rfl gtL.out
  have t3_4 := tell_at hK3 4 (tS e.kind) false rfl gtS.out
  have f3_id := hK3.out.cell 1 rfl 1 (evr1 e)
  have f3_name := hK3.out.cell 1 rfl 2 (evr2 e)
  go_wp2_with fail
  refine (cname.out _).mono ?_
  rintro r v3 ⟨rfl, hB⟩
  have hK4 := Lib.hid (hK3.out.past hB)
  clear hB
  obtain ⟨A1, hA1⟩ : ∃ X, NK ++ Nid = X := ⟨_, rfl⟩
  rw [hA1]
  have zA1 : A1.size ≤ 18 := by rw [← hA1, ByteArray.size_append]; omega
  replace hA1 := Lib.hid hA1
  clear t3_0 t3_1 t3_2 t3_3 t3_4 f3_id f3_name
  have t4_0 := tell_at hK4 0 (tI e.kind) true rfl gtI.out
  have t4_1 := tell_at hK4 1 (tN e.kind) true rfl gtN.out
  have t4_2 := tell_at hK4 2 (tT e.kind) false rfl gtT.out
  have t4_3 := tell_at hK4 3 (tL e.kind) false rfl gtL.out
  have t4_4 := tell_at hK4 4 (tS e.kind) false rfl gtS.out
  go_wp2_with fail
  go_returns
  exact ⟨by rw [gE.out, ← hA1.out]; rfl, hK4.out.kb.bel⟩

set_option maxRecDepth 100000 in
set_option maxHeartbeats 2000000 in
theorem reput_b (e : Ev) (he : e.fit) (hr : 0 ≤ e.kind ∧ e.kind ≤ 7) (htI : tI e.kind = true) (htN : tN e.kind = false) (htT : tT e.kind = false) (htL : tL e.kind = true) (htS : tS e.kind = false) (hE : mk (putE e) = mk (num (clI e.kind)) ++ mk (num (clI e.id)) ++ mk (num (clI e.len))) (hv : okP e = true) (w : World) :
    Calls Tryz.prog 23 #[.agg (evr e)] w fun r w' => r = .returned (.tuple #[.string (mk (putE e)), .bool true]) ∧ sh.Belo w.heap.size w w' := by
  have hi : Hid ((Tryz.prog.info? 34).map (·.size) = some (evr e).size) := Lib.hid (by rw [evr_size, he.w.s]; exact info41)
  have hK0 : Hid (KW w.heap.size w [(w.heap.size, .cells (evr e) 34)] (w.alloc (.cells (evr e) 34))) := Lib.hid ((KW.start w).new _)
  have cv := Lib.hid (fun v => rvalidE_any e he v)
  rw [hv] at cv
  have ct := Lib.hid (fun v => rtells_any e.kind hr v)
  have cK := Lib.hid (fun v => rnum_any e.kind v)
  have zK : (mk (num (clI e.kind))).size ≤ 9 := by rw [mk_size]; exact num_len9 _
  have cid := Lib.hid (fun v => rnum_any e.id v)
  have zid : (mk (num (clI e.id))).size ≤ 9 := by rw [mk_size]; exact num_len9 _
  have clen := Lib.hid (fun v => rnum_any e.len v)
  have zlen : (mk (num (clI e.len))).size ≤ 9 := by rw [mk_size]; exact num_len9 _
  have gtI := Lib.hid htI
  have gtN := Lib.hid htN
  have gtT := Lib.hid htT
  have gtL := Lib.hid htL
  have gtS := Lib.hid htS
  have hz := zero78
  have gE := Lib.hid hE
  have k0 := hK0.out.cell 0 rfl 0 (evr0 e)
  clear hE hv he hr htI htN htT htL htS
  generalize mk (putE e) = PE at *
  generalize mk (num (clI e.kind)) = NK at *
  generalize mk (num (clI e.id)) = Nid at *
  generalize mk (num (clI e.len)) = Nlen at *
  go_enter Tryz.func23, Tryz.ntmps23
  go_wp2_with (with_reducible refine wpList_load_row rfl 34 (.tmp 1) rfl _ rfl 34 (evr e) _ (hK0.out.at 0 rfl) Tryz.underlying34 rfl hi.out ?_)
  refine (cv.out _).mono ?_
  rintro r v0 ⟨rfl, hB⟩
  have hKa := Lib.hid (hK0.out.past hB)
  have k1 := hKa.out.cell 0 rfl 0 (evr0 e)
  clear hB k0 hK0
  go_wp2_with fail
  refine (ct.out _).mono ?_
  rintro r v ⟨rfl, hB⟩
  have hKb := Lib.hid (hKa.out.past hB)
  have hKc := Lib.hid (hKb.out.new (.cells #[.bool false, .bool false, .bool false, .bool false, .bool false] 78))
  have hK1 := Lib.hid (hKc.out.row 0 rfl (by have := hKb.out.size; omega) (TB e.kind))
  have k2 := hK1.out.cell 1 rfl 0 (evr0 e)
  clear hB k1 hKa
  go_wp2_with (with_reducible refine wpList_store_row rfl 78 (.tmp 5) (.tmp 13) rfl _ (TB e.kind) rfl rfl 78 _ (hKc.out.at 0 rfl) (TB_info _) (TB_old _) (TB_one _) ?_)
  refine (cK.out _).mono ?_
  rintro r v1 ⟨rfl, hB⟩
  have hK2 := Lib.hid (hK1.out.past hB)
  clear hB k2 hKb hKc hK1
  have t2_0 := tell_at hK2 0 (tI e.kind) true rfl gtI.out
  have t2_1 := tell_at hK2 1 (tN e.kind) false rfl gtN.out
  have t2_2 := tell_at hK2 2 (tT e.kind) false rfl gtT.out
  have t2_3 := tell_at hK2 3 (tL e.kind) true rfl gtL.out
  have t2_4 := tell_at hK2 4 (tS e.kind) false rfl gtS.out
  have f2_id := hK2.out.cell 1 rfl 1 (evr1 e)
  have f2_len := hK2.out.cell 1 rfl 4 (evr4 e)
  go_wp2_with fail
  refine (cid.out _).mono ?_
  rintro r v2 ⟨rfl, hB⟩
  have hK3 := Lib.hid (hK2.out.past hB)
  clear hB
  clear t2_0 t2_1 t2_2 t2_3 t2_4 f2_id f2_len
  have t3_0 := tell_at hK3 0 (tI e.kind) true rfl gtI.out
  have t3_1 := tell_at hK3 1 (tN e.kind) false rfl gtN.out
  have t3_2 := tell_at hK3 2 (tT e.kind) false rfl gtT.out
  have t3_3 := tell_at hK3 3 (tL e.kind) true rfl gtL.out
  have t3_4 := tell_at hK3 4 (tS e.kind) false rfl gtS.out
  have f3_id := hK3.out.cell 1 rfl 1 (evr1 e)
  have f3_len := hK3.out.cell 1 rfl 4 (evr4 e)
  go_wp2_with fail
  refine (clen.out _).mono ?_
  rintro r v3 ⟨rfl, hB⟩
  have hK4 := Lib.hid (hK3.out.past hB)
  clear hB
  obtain ⟨A1, hA1⟩ : ∃ X, NK ++ Nid = X := ⟨_, rfl⟩
  rw [hA1]
  have zA1 : A1.size ≤ 18 := by rw [← hA1, ByteArray.size_append]; omega
  replace hA1 := Lib.hid hA1
  clear t3_0 t3_1 t3_2 t3_3 t3_4 f3_id f3_len
  have t4_0 := tell_at hK4 0 (tI e.kind) true rfl gtI.out
  have t4_1 := tell_at hK4 1 (tN e.kind) false rfl gtN.out
  have t4_2 := tell_at hK4 2 (tT e.kind) false rfl gtT.out
  have t4_3 := tell_at hK4 3 (tL e.kind) true rfl gtL.out
  have t4_4 := tell_at hK4 4 (tS e.kind) false rfl gtS.out
  go_wp2_with fail
  go_returns
  exact ⟨by rw [gE.out, ← hA1.out]; rfl, hK4.out.kb.bel⟩

set_option maxRecDepth 100000 in
set_option maxHeartbeats 2000000 in
theorem reput_c (e : Ev) (he : e.fit) (hr : 0 ≤ e.kind ∧ e.kind ≤ 7) (htI : tI e.kind = true) (htN : tN e.kind = false) (htT : tT e.kind = true) (htL : tL e.kind = true) (htS : tS e.kind = true) (hE : mk (putE e) = mk (num (clI e.kind)) ++ mk (num (clI e.id)) ++ mk (num (clI e.time)) ++ mk (num (clI e.len)) ++ mk e.sum) (hv : okP e = true) (w : World) :
    Calls Tryz.prog 23 #[.agg (evr e)] w fun r w' => r = .returned (.tuple #[.string (mk (putE e)), .bool true]) ∧ sh.Belo w.heap.size w w' := by
  have hi : Hid ((Tryz.prog.info? 34).map (·.size) = some (evr e).size) := Lib.hid (by rw [evr_size, he.w.s]; exact info41)
  have hK0 : Hid (KW w.heap.size w [(w.heap.size, .cells (evr e) 34)] (w.alloc (.cells (evr e) 34))) := Lib.hid ((KW.start w).new _)
  have cv := Lib.hid (fun v => rvalidE_any e he v)
  rw [hv] at cv
  have ct := Lib.hid (fun v => rtells_any e.kind hr v)
  have cK := Lib.hid (fun v => rnum_any e.kind v)
  have zK : (mk (num (clI e.kind))).size ≤ 9 := by rw [mk_size]; exact num_len9 _
  have cid := Lib.hid (fun v => rnum_any e.id v)
  have zid : (mk (num (clI e.id))).size ≤ 9 := by rw [mk_size]; exact num_len9 _
  have ctime := Lib.hid (fun v => rnum_any e.time v)
  have ztime : (mk (num (clI e.time))).size ≤ 9 := by rw [mk_size]; exact num_len9 _
  have clen := Lib.hid (fun v => rnum_any e.len v)
  have zlen : (mk (num (clI e.len))).size ≤ 9 := by rw [mk_size]; exact num_len9 _
  have csum := Lib.hid (fun v => rsum_any e.sum he.w.s v)
  have zsum : (mk e.sum).size ≤ 32 := by rw [mk_size]; exact Nat.le_of_eq he.w.s
  have hls := Lib.hid (fun u (h : u.heap[w.heap.size]? = some (.cells (evr e) 34)) => load_sum e he.w.s u w.heap.size 34 h)
  have gtI := Lib.hid htI
  have gtN := Lib.hid htN
  have gtT := Lib.hid htT
  have gtL := Lib.hid htL
  have gtS := Lib.hid htS
  have hz := zero78
  have gE := Lib.hid hE
  have k0 := hK0.out.cell 0 rfl 0 (evr0 e)
  clear hE hv he hr htI htN htT htL htS
  generalize mk (putE e) = PE at *
  generalize mk (num (clI e.kind)) = NK at *
  generalize mk (num (clI e.id)) = Nid at *
  generalize mk (num (clI e.time)) = Ntime at *
  generalize mk (num (clI e.len)) = Nlen at *
  have hsm : Hid (ByteArray.mk e.sum.toArray = mk e.sum) := Lib.hid rfl
  rw [hsm.out] at csum
  generalize mk e.sum = Nsum at *
  go_enter Tryz.func23, Tryz.ntmps23
  go_wp2_with (with_reducible refine wpList_load_row rfl 34 (.tmp 1) rfl _ rfl 34 (evr e) _ (hK0.out.at 0 rfl) Tryz.underlying34 rfl hi.out ?_)
  refine (cv.out _).mono ?_
  rintro r v0 ⟨rfl, hB⟩
  have hKa := Lib.hid (hK0.out.past hB)
  have k1 := hKa.out.cell 0 rfl 0 (evr0 e)
  clear hB k0 hK0
  go_wp2_with fail
  refine (ct.out _).mono ?_
  rintro r v ⟨rfl, hB⟩
  have hKb := Lib.hid (hKa.out.past hB)
  have hKc := Lib.hid (hKb.out.new (.cells #[.bool false, .bool false, .bool false, .bool false, .bool false] 78))
  have hK1 := Lib.hid (hKc.out.row 0 rfl (by have := hKb.out.size; omega) (TB e.kind))
  have k2 := hK1.out.cell 1 rfl 0 (evr0 e)
  clear hB k1 hKa
  go_wp2_with (with_reducible refine wpList_store_row rfl 78 (.tmp 5) (.tmp 13) rfl _ (TB e.kind) rfl rfl 78 _ (hKc.out.at 0 rfl) (TB_info _) (TB_old _) (TB_one _) ?_)
  refine (cK.out _).mono ?_
  rintro r v1 ⟨rfl, hB⟩
  have hK2 := Lib.hid (hK1.out.past hB)
  clear hB k2 hKb hKc hK1
  have t2_0 := tell_at hK2 0 (tI e.kind) true rfl gtI.out
  have t2_1 := tell_at hK2 1 (tN e.kind) false rfl gtN.out
  have t2_2 := tell_at hK2 2 (tT e.kind) true rfl gtT.out
  have t2_3 := tell_at hK2 3 (tL e.kind) true rfl gtL.out
  have t2_4 := tell_at hK2 4 (tS e.kind) true rfl gtS.out
  have f2_id := hK2.out.cell 1 rfl 1 (evr1 e)
  have f2_time := hK2.out.cell 1 rfl 3 (evr3 e)
  have f2_len := hK2.out.cell 1 rfl 4 (evr4 e)
  go_wp2_with fail
  refine (cid.out _).mono ?_
  rintro r v2 ⟨rfl, hB⟩
  have hK3 := Lib.hid (hK2.out.past hB)
  clear hB
  clear t2_0 t2_1 t2_2 t2_3 t2_4 f2_id f2_time f2_len
  have t3_0 := tell_at hK3 0 (tI e.kind) true rfl gtI.out
  have t3_1 := tell_at hK3 1 (tN e.kind) false rfl gtN.out
  have t3_2 := tell_at hK3 2 (tT e.kind) true rfl gtT.out
  have t3_3 := tell_at hK3 3 (tL e.kind) true rfl gtL.out
  have t3_4 := tell_at hK3 4 (tS e.kind) true rfl gtS.out
  have f3_id := hK3.out.cell 1 rfl 1 (evr1 e)
  have f3_time := hK3.out.cell 1 rfl 3 (evr3 e)
  have f3_len := hK3.out.cell 1 rfl 4 (evr4 e)
  go_wp2_with fail
  refine (ctime.out _).mono ?_
  rintro r v3 ⟨rfl, hB⟩
  have hK4 := Lib.hid (hK3.out.past hB)
  clear hB
  obtain ⟨A1, hA1⟩ : ∃ X, NK ++ Nid = X := ⟨_, rfl⟩
  rw [hA1]
  have zA1 : A1.size ≤ 18 := by rw [← hA1, ByteArray.size_append]; omega
  replace hA1 := Lib.hid hA1
  clear t3_0 t3_1 t3_2 t3_3 t3_4 f3_id f3_time f3_len
  have t4_0 := tell_at hK4 0 (tI e.kind) true rfl gtI.out
  have t4_1 := tell_at hK4 1 (tN e.kind) false rfl gtN.out
  have t4_2 := tell_at hK4 2 (tT e.kind) true rfl gtT.out
  have t4_3 := tell_at hK4 3 (tL e.kind) true rfl gtL.out
  have t4_4 := tell_at hK4 4 (tS e.kind) true rfl gtS.out
  have f4_id := hK4.out.cell 1 rfl 1 (evr1 e)
  have f4_time := hK4.out.cell 1 rfl 3 (evr3 e)
  have f4_len := hK4.out.cell 1 rfl 4 (evr4 e)
  go_wp2_with fail
  refine (clen.out _).mono ?_
  rintro r v4 ⟨rfl, hB⟩
  have hK5 := Lib.hid (hK4.out.past hB)
  clear hB
  obtain ⟨A2, hA2⟩ : ∃ X, A1 ++ Ntime = X := ⟨_, rfl⟩
  rw [hA2]
  have zA2 : A2.size ≤ 27 := by rw [← hA2, ByteArray.size_append]; omega
  replace hA2 := Lib.hid hA2
  clear t4_0 t4_1 t4_2 t4_3 t4_4 f4_id f4_time f4_len
  have t5_0 := tell_at hK5 0 (tI e.kind) true rfl gtI.out
  have t5_1 := tell_at hK5 1 (tN e.kind) false rfl gtN.out
  have t5_2 := tell_at hK5 2 (tT e.kind) true rfl gtT.out
  have t5_3 := tell_at hK5 3 (tL e.kind) true rfl gtL.out
  have t5_4 := tell_at hK5 4 (tS e.kind) true rfl gtS.out
  have f5_id := hK5.out.cell 1 rfl 1 (evr1 e)
  have f5_time := hK5.out.cell 1 rfl 3 (evr3 e)
  have f5_len := hK5.out.cell 1 rfl 4 (evr4 e)
  go_wp2_with (refine sh.wpList_val (by rfl) (.agg (row e.sum)) (by unfold execOp; exact run_val (hls.out _ (hK5.out.at 1 rfl))) ?_)
  refine (csum.out _).mono ?_
  rintro r v5 ⟨rfl, hB⟩
  have hK6 := Lib.hid (hK5.out.kb.past hB)
  clear hB
  obtain ⟨A3, hA3⟩ : ∃ X, A2 ++ Nlen = X := ⟨_, rfl⟩
  rw [hA3]
  have zA3 : A3.size ≤ 36 := by rw [← hA3, ByteArray.size_append]; omega
  replace hA3 := Lib.hid hA3
  clear t5_0 t5_1 t5_2 t5_3 t5_4 f5_id f5_time f5_len
  go_wp2_with fail
  go_returns
  exact ⟨by rw [gE.out, ← hA3.out, ← hA2.out, ← hA1.out]; rfl, hK6.out.bel⟩

set_option maxRecDepth 100000 in
set_option maxHeartbeats 2000000 in
theorem reput_d (e : Ev) (he : e.fit) (hr : 0 ≤ e.kind ∧ e.kind ≤ 7) (htI : tI e.kind = true) (htN : tN e.kind = false) (htT : tT e.kind = true) (htL : tL e.kind = false) (htS : tS e.kind = false) (hE : mk (putE e) = mk (num (clI e.kind)) ++ mk (num (clI e.id)) ++ mk (num (clI e.time))) (hv : okP e = true) (w : World) :
    Calls Tryz.prog 23 #[.agg (evr e)] w fun r w' => r = .returned (.tuple #[.string (mk (putE e)), .bool true]) ∧ sh.Belo w.heap.size w w' := by
  have hi : Hid ((Tryz.prog.info? 34).map (·.size) = some (evr e).size) := Lib.hid (by rw [evr_size, he.w.s]; exact info41)
  have hK0 : Hid (KW w.heap.size w [(w.heap.size, .cells (evr e) 34)] (w.alloc (.cells (evr e) 34))) := Lib.hid ((KW.start w).new _)
  have cv := Lib.hid (fun v => rvalidE_any e he v)
  rw [hv] at cv
  have ct := Lib.hid (fun v => rtells_any e.kind hr v)
  have cK := Lib.hid (fun v => rnum_any e.kind v)
  have zK : (mk (num (clI e.kind))).size ≤ 9 := by rw [mk_size]; exact num_len9 _
  have cid := Lib.hid (fun v => rnum_any e.id v)
  have zid : (mk (num (clI e.id))).size ≤ 9 := by rw [mk_size]; exact num_len9 _
  have ctime := Lib.hid (fun v => rnum_any e.time v)
  have ztime : (mk (num (clI e.time))).size ≤ 9 := by rw [mk_size]; exact num_len9 _
  have gtI := Lib.hid htI
  have gtN := Lib.hid htN
  have gtT := Lib.hid htT
  have gtL := Lib.hid htL
  have gtS := Lib.hid htS
  have hz := zero78
  have gE := Lib.hid hE
  have k0 := hK0.out.cell 0 rfl 0 (evr0 e)
  clear hE hv he hr htI htN htT htL htS
  generalize mk (putE e) = PE at *
  generalize mk (num (clI e.kind)) = NK at *
  generalize mk (num (clI e.id)) = Nid at *
  generalize mk (num (clI e.time)) = Ntime at *
  go_enter Tryz.func23, Tryz.ntmps23
  go_wp2_with (with_reducible refine wpList_load_row rfl 34 (.tmp 1) rfl _ rfl 34 (evr e) _ (hK0.out.at 0 rfl) Tryz.underlying34 rfl hi.out ?_)
  refine (cv.out _).mono ?_
  rintro r v0 ⟨rfl, hB⟩
  have hKa := Lib.hid (hK0.out.past hB)
  have k1 := hKa.out.cell 0 rfl 0 (evr0 e)
  clear hB k0 hK0
  go_wp2_with fail
  refine (ct.out _).mono ?_
  rintro r v ⟨rfl, hB⟩
  have hKb := Lib.hid (hKa.out.past hB)
  have hKc := Lib.hid (hKb.out.new (.cells #[.bool false, .bool false, .bool false, .bool false, .bool false] 78))
  have hK1 := Lib.hid (hKc.out.row 0 rfl (by have := hKb.out.size; omega) (TB e.kind))
  have k2 := hK1.out.cell 1 rfl 0 (evr0 e)
  clear hB k1 hKa
  go_wp2_with (with_reducible refine wpList_store_row rfl 78 (.tmp 5) (.tmp 13) rfl _ (TB e.kind) rfl rfl 78 _ (hKc.out.at 0 rfl) (TB_info _) (TB_old _) (TB_one _) ?_)
  refine (cK.out _).mono ?_
  rintro r v1 ⟨rfl, hB⟩
  have hK2 := Lib.hid (hK1.out.past hB)
  clear hB k2 hKb hKc hK1
  have t2_0 := tell_at hK2 0 (tI e.kind) true rfl gtI.out
  have t2_1 := tell_at hK2 1 (tN e.kind) false rfl gtN.out
  have t2_2 := tell_at hK2 2 (tT e.kind) true rfl gtT.out
  have t2_3 := tell_at hK2 3 (tL e.kind) false rfl gtL.out
  have t2_4 := tell_at hK2 4 (tS e.kind) false rfl gtS.out
  have f2_id := hK2.out.cell 1 rfl 1 (evr1 e)
  have f2_time := hK2.out.cell 1 rfl 3 (evr3 e)
  go_wp2_with fail
  refine (cid.out _).mono ?_
  rintro r v2 ⟨rfl, hB⟩
  have hK3 := Lib.hid (hK2.out.past hB)
  clear hB
  clear t2_0 t2_1 t2_2 t2_3 t2_4 f2_id f2_time
  have t3_0 := tell_at hK3 0 (tI e.kind) true rfl gtI.out
  have t3_1 := tell_at hK3 1 (tN e.kind) false rfl gtN.out
  have t3_2 := tell_at hK3 2 (tT e.kind) true rfl gtT.out
  have t3_3 := tell_at hK3 3 (tL e.kind) false rfl gtL.out
  have t3_4 := tell_at hK3 4 (tS e.kind) false rfl gtS.out
  have f3_id := hK3.out.cell 1 rfl 1 (evr1 e)
  have f3_time := hK3.out.cell 1 rfl 3 (evr3 e)
  go_wp2_with fail
  refine (ctime.out _).mono ?_
  rintro r v3 ⟨rfl, hB⟩
  have hK4 := Lib.hid (hK3.out.past hB)
  clear hB
  obtain ⟨A1, hA1⟩ : ∃ X, NK ++ Nid = X := ⟨_, rfl⟩
  rw [hA1]
  have zA1 : A1.size ≤ 18 := by rw [← hA1, ByteArray.size_append]; omega
  replace hA1 := Lib.hid hA1
  clear t3_0 t3_1 t3_2 t3_3 t3_4 f3_id f3_time
  have t4_0 := tell_at hK4 0 (tI e.kind) true rfl gtI.out
  have t4_1 := tell_at hK4 1 (tN e.kind) false rfl gtN.out
  have t4_2 := tell_at hK4 2 (tT e.kind) true rfl gtT.out
  have t4_3 := tell_at hK4 3 (tL e.kind) false rfl gtL.out
  have t4_4 := tell_at hK4 4 (tS e.kind) false rfl gtS.out
  go_wp2_with fail
  go_returns
  exact ⟨by rw [gE.out, ← hA1.out]; rfl, hK4.out.kb.bel⟩

set_option maxRecDepth 100000 in
set_option maxHeartbeats 2000000 in
theorem reput_e (e : Ev) (he : e.fit) (hr : 0 ≤ e.kind ∧ e.kind ≤ 7) (htI : tI e.kind = true) (htN : tN e.kind = false) (htT : tT e.kind = false) (htL : tL e.kind = false) (htS : tS e.kind = false) (hE : mk (putE e) = mk (num (clI e.kind)) ++ mk (num (clI e.id))) (hv : okP e = true) (w : World) :
    Calls Tryz.prog 23 #[.agg (evr e)] w fun r w' => r = .returned (.tuple #[.string (mk (putE e)), .bool true]) ∧ sh.Belo w.heap.size w w' := by
  have hi : Hid ((Tryz.prog.info? 34).map (·.size) = some (evr e).size) := Lib.hid (by rw [evr_size, he.w.s]; exact info41)
  have hK0 : Hid (KW w.heap.size w [(w.heap.size, .cells (evr e) 34)] (w.alloc (.cells (evr e) 34))) := Lib.hid ((KW.start w).new _)
  have cv := Lib.hid (fun v => rvalidE_any e he v)
  rw [hv] at cv
  have ct := Lib.hid (fun v => rtells_any e.kind hr v)
  have cK := Lib.hid (fun v => rnum_any e.kind v)
  have zK : (mk (num (clI e.kind))).size ≤ 9 := by rw [mk_size]; exact num_len9 _
  have cid := Lib.hid (fun v => rnum_any e.id v)
  have zid : (mk (num (clI e.id))).size ≤ 9 := by rw [mk_size]; exact num_len9 _
  have gtI := Lib.hid htI
  have gtN := Lib.hid htN
  have gtT := Lib.hid htT
  have gtL := Lib.hid htL
  have gtS := Lib.hid htS
  have hz := zero78
  have gE := Lib.hid hE
  have k0 := hK0.out.cell 0 rfl 0 (evr0 e)
  clear hE hv he hr htI htN htT htL htS
  generalize mk (putE e) = PE at *
  generalize mk (num (clI e.kind)) = NK at *
  generalize mk (num (clI e.id)) = Nid at *
  go_enter Tryz.func23, Tryz.ntmps23
  go_wp2_with (with_reducible refine wpList_load_row rfl 34 (.tmp 1) rfl _ rfl 34 (evr e) _ (hK0.out.at 0 rfl) Tryz.underlying34 rfl hi.out ?_)
  refine (cv.out _).mono ?_
  rintro r v0 ⟨rfl, hB⟩
  have hKa := Lib.hid (hK0.out.past hB)
  have k1 := hKa.out.cell 0 rfl 0 (evr0 e)
  clear hB k0 hK0
  go_wp2_with fail
  refine (ct.out _).mono ?_
  rintro r v ⟨rfl, hB⟩
  have hKb := Lib.hid (hKa.out.past hB)
  have hKc := Lib.hid (hKb.out.new (.cells #[.bool false, .bool false, .bool false, .bool false, .bool false] 78))
  have hK1 := Lib.hid (hKc.out.row 0 rfl (by have := hKb.out.size; omega) (TB e.kind))
  have k2 := hK1.out.cell 1 rfl 0 (evr0 e)
  clear hB k1 hKa
  go_wp2_with (with_reducible refine wpList_store_row rfl 78 (.tmp 5) (.tmp 13) rfl _ (TB e.kind) rfl rfl 78 _ (hKc.out.at 0 rfl) (TB_info _) (TB_old _) (TB_one _) ?_)
  refine (cK.out _).mono ?_
  rintro r v1 ⟨rfl, hB⟩
  have hK2 := Lib.hid (hK1.out.past hB)
  clear hB k2 hKb hKc hK1
  have t2_0 := tell_at hK2 0 (tI e.kind) true rfl gtI.out
  have t2_1 := tell_at hK2 1 (tN e.kind) false rfl gtN.out
  have t2_2 := tell_at hK2 2 (tT e.kind) false rfl gtT.out
  have t2_3 := tell_at hK2 3 (tL e.kind) false rfl gtL.out
  have t2_4 := tell_at hK2 4 (tS e.kind) false rfl gtS.out
  have f2_id := hK2.out.cell 1 rfl 1 (evr1 e)
  go_wp2_with fail
  refine (cid.out _).mono ?_
  rintro r v2 ⟨rfl, hB⟩
  have hK3 := Lib.hid (hK2.out.past hB)
  clear hB
  clear t2_0 t2_1 t2_2 t2_3 t2_4 f2_id
  have t3_0 := tell_at hK3 0 (tI e.kind) true rfl gtI.out
  have t3_1 := tell_at hK3 1 (tN e.kind) false rfl gtN.out
  have t3_2 := tell_at hK3 2 (tT e.kind) false rfl gtT.out
  have t3_3 := tell_at hK3 3 (tL e.kind) false rfl gtL.out
  have t3_4 := tell_at hK3 4 (tS e.kind) false rfl gtS.out
  go_wp2_with fail
  go_returns
  exact ⟨by rw [gE.out]; rfl, hK3.out.kb.bel⟩

set_option maxRecDepth 100000 in
set_option maxHeartbeats 2000000 in
theorem reput_f (e : Ev) (he : e.fit) (hr : 0 ≤ e.kind ∧ e.kind ≤ 7) (htI : tI e.kind = false) (htN : tN e.kind = false) (htT : tT e.kind = true) (htL : tL e.kind = false) (htS : tS e.kind = false) (hE : mk (putE e) = mk (num (clI e.kind)) ++ mk (num (clI e.time))) (hv : okP e = true) (w : World) :
    Calls Tryz.prog 23 #[.agg (evr e)] w fun r w' => r = .returned (.tuple #[.string (mk (putE e)), .bool true]) ∧ sh.Belo w.heap.size w w' := by
  have hi : Hid ((Tryz.prog.info? 34).map (·.size) = some (evr e).size) := Lib.hid (by rw [evr_size, he.w.s]; exact info41)
  have hK0 : Hid (KW w.heap.size w [(w.heap.size, .cells (evr e) 34)] (w.alloc (.cells (evr e) 34))) := Lib.hid ((KW.start w).new _)
  have cv := Lib.hid (fun v => rvalidE_any e he v)
  rw [hv] at cv
  have ct := Lib.hid (fun v => rtells_any e.kind hr v)
  have cK := Lib.hid (fun v => rnum_any e.kind v)
  have zK : (mk (num (clI e.kind))).size ≤ 9 := by rw [mk_size]; exact num_len9 _
  have ctime := Lib.hid (fun v => rnum_any e.time v)
  have ztime : (mk (num (clI e.time))).size ≤ 9 := by rw [mk_size]; exact num_len9 _
  have gtI := Lib.hid htI
  have gtN := Lib.hid htN
  have gtT := Lib.hid htT
  have gtL := Lib.hid htL
  have gtS := Lib.hid htS
  have hz := zero78
  have gE := Lib.hid hE
  have k0 := hK0.out.cell 0 rfl 0 (evr0 e)
  clear hE hv he hr htI htN htT htL htS
  generalize mk (putE e) = PE at *
  generalize mk (num (clI e.kind)) = NK at *
  generalize mk (num (clI e.time)) = Ntime at *
  go_enter Tryz.func23, Tryz.ntmps23
  go_wp2_with (with_reducible refine wpList_load_row rfl 34 (.tmp 1) rfl _ rfl 34 (evr e) _ (hK0.out.at 0 rfl) Tryz.underlying34 rfl hi.out ?_)
  refine (cv.out _).mono ?_
  rintro r v0 ⟨rfl, hB⟩
  have hKa := Lib.hid (hK0.out.past hB)
  have k1 := hKa.out.cell 0 rfl 0 (evr0 e)
  clear hB k0 hK0
  go_wp2_with fail
  refine (ct.out _).mono ?_
  rintro r v ⟨rfl, hB⟩
  have hKb := Lib.hid (hKa.out.past hB)
  have hKc := Lib.hid (hKb.out.new (.cells #[.bool false, .bool false, .bool false, .bool false, .bool false] 78))
  have hK1 := Lib.hid (hKc.out.row 0 rfl (by have := hKb.out.size; omega) (TB e.kind))
  have k2 := hK1.out.cell 1 rfl 0 (evr0 e)
  clear hB k1 hKa
  go_wp2_with (with_reducible refine wpList_store_row rfl 78 (.tmp 5) (.tmp 13) rfl _ (TB e.kind) rfl rfl 78 _ (hKc.out.at 0 rfl) (TB_info _) (TB_old _) (TB_one _) ?_)
  refine (cK.out _).mono ?_
  rintro r v1 ⟨rfl, hB⟩
  have hK2 := Lib.hid (hK1.out.past hB)
  clear hB k2 hKb hKc hK1
  have t2_0 := tell_at hK2 0 (tI e.kind) false rfl gtI.out
  have t2_1 := tell_at hK2 1 (tN e.kind) false rfl gtN.out
  have t2_2 := tell_at hK2 2 (tT e.kind) true rfl gtT.out
  have t2_3 := tell_at hK2 3 (tL e.kind) false rfl gtL.out
  have t2_4 := tell_at hK2 4 (tS e.kind) false rfl gtS.out
  have f2_time := hK2.out.cell 1 rfl 3 (evr3 e)
  go_wp2_with fail
  refine (ctime.out _).mono ?_
  rintro r v2 ⟨rfl, hB⟩
  have hK3 := Lib.hid (hK2.out.past hB)
  clear hB
  clear t2_0 t2_1 t2_2 t2_3 t2_4 f2_time
  have t3_0 := tell_at hK3 0 (tI e.kind) false rfl gtI.out
  have t3_1 := tell_at hK3 1 (tN e.kind) false rfl gtN.out
  have t3_2 := tell_at hK3 2 (tT e.kind) true rfl gtT.out
  have t3_3 := tell_at hK3 3 (tL e.kind) false rfl gtL.out
  have t3_4 := tell_at hK3 4 (tS e.kind) false rfl gtS.out
  go_wp2_with fail
  go_returns
  exact ⟨by rw [gE.out]; rfl, hK3.out.kb.bel⟩

theorem mkj (a b : List UInt8) : mk a ++ mk b = mk (a ++ b) := by apply li_inj; rw [li_app, li_mk', li_mk', li_mk']
theorem reput_true (e : Ev) (he : e.fit) (hv : okP e = true) (w : World) :
    Calls Tryz.prog 23 #[.agg (evr e)] w fun r w' => r = .returned (.tuple #[.string (mk (putE e)), .bool true]) ∧ sh.Belo w.heap.size w w' := by
  have hr : 0 ≤ e.kind ∧ e.kind ≤ 7 := Decidable.byContradiction fun h => by rw [okP_no e h] at hv; cases hv
  have hc : e.kind = 0 ∨ e.kind = 1 ∨ e.kind = 2 ∨ e.kind = 3 ∨ e.kind = 4 ∨ e.kind = 5 ∨ e.kind = 6 ∨ e.kind = 7 := by omega
  rcases hc with h | h | h | h | h | h | h | h
  · exact reput_a e he hr (by rw [h]; rfl) (by rw [h]; rfl) (by rw [h]; rfl) (by rw [h]; rfl) (by rw [h]; rfl) (by simp [mkj, putE, putL, partsOf, aboutP, putP, h]) hv w
  · exact reput_b e he hr (by rw [h]; rfl) (by rw [h]; rfl) (by rw [h]; rfl) (by rw [h]; rfl) (by rw [h]; rfl) (by simp [mkj, putE, putL, partsOf, aboutP, putP, h]) hv w
  · exact reput_c e he hr (by rw [h]; rfl) (by rw [h]; rfl) (by rw [h]; rfl) (by rw [h]; rfl) (by rw [h]; rfl) (by simp [mkj, putE, putL, partsOf, aboutP, putP, h]) hv w
  · exact reput_d e he hr (by rw [h]; rfl) (by rw [h]; rfl) (by rw [h]; rfl) (by rw [h]; rfl) (by rw [h]; rfl) (by simp [mkj, putE, putL, partsOf, aboutP, putP, h]) hv w
  · exact reput_a e he hr (by rw [h]; rfl) (by rw [h]; rfl) (by rw [h]; rfl) (by rw [h]; rfl) (by rw [h]; rfl) (by simp [mkj, putE, putL, partsOf, aboutP, putP, h]) hv w
  · exact reput_a e he hr (by rw [h]; rfl) (by rw [h]; rfl) (by rw [h]; rfl) (by rw [h]; rfl) (by rw [h]; rfl) (by simp [mkj, putE, putL, partsOf, aboutP, putP, h]) hv w
  · exact reput_e e he hr (by rw [h]; rfl) (by rw [h]; rfl) (by rw [h]; rfl) (by rw [h]; rfl) (by rw [h]; rfl) (by simp [mkj, putE, putL, partsOf, aboutP, putP, h]) hv w
  · exact reput_f e he hr (by rw [h]; rfl) (by rw [h]; rfl) (by rw [h]; rfl) (by rw [h]; rfl) (by rw [h]; rfl) (by simp [mkj, putE, putL, partsOf, aboutP, putP, h]) hv w
end Go.Proofs.YtfilolmbppjbjaaGreat
