/-
  For every file, any operation and any floor, FileDoes returns true: what any operation comes to, on any file, and the event that tells it, is just what the document says.
  Conditions: none beyond the given statement's own.
-/
import Derived.Test.YtphbkbjgjicncaaRows
import Derived.Test.YtphbkbjgjicncaaRDo
import Derived.Test.YtphbkbjgjicncaaWorks
import Derived.Test.YtphbkbjgjicncaaOpens
import Derived.Test.YtphbkbjgjicncaaOpenOps
import Derived.Test.YtphbkbjgjicncaaEqls
import Derived.Test.YtphbkbjgjicncaaEvEq
import Derived.WalkKit
import Derived.ProofKit
import Derived.OpenShut
import Derived.ShutString
import Derived.ChangeOld
import Derived.Below
namespace Go.Proofs.Ytphbkbjgjicncaa.fileDoes
open Go.ChangeShapes Go.WideShapes Go.ChangeAt Go.RowKit
open Go.ChangeMaps (open_string shut_string)
set_option linter.unusedVariables false

theorem own : ownKnob Try.prog.godebug = none := by kernel_rfl
theorem laidOut : laidOutB Try.prog = true := by kernel_rfl

theorem belo_trod {H : Type} {enc : TypeId × Value → H} {P : Program} {t : TypeId} (hl : laidOutB P = true) (hr : P.readableRec t = true) (hrow : t < P.types.size) {W W' : World} {v : Value} {d : DataW H} {ps : List MemPlace}
    (h : DataW.Trod enc P W 0 (fun _ => true) true t v d ps) (hb : sh.Belo W.heap.size W W') (hlt : ∀ x ∈ ps, x.block < W.heap.size) :
    DataW.Trod enc P W' 0 (fun b => decide (b < W.heap.size)) true t v d ps :=
  WideElems.Trod_stays hl hr hrow h (fun x hx => (Below.mk (w' := { W' with tape := W.tape }) hb.os rfl hb.output hb.size hb.block).same (hlt x hx)) (fun x hx => by simpa using hlt x hx)
theorem below_one (v : World) (c c' : Array Value) (t : TypeId) : Below v.heap.size v ((v.alloc (.cells c t)).setRow v.heap.size c') :=
  below_setRow ((Below.refl _ _).alloc (Nat.le_refl _) _) (Nat.le_refl _) _
theorem below_two (v : World) (c c' d d' : Array Value) (t u : TypeId) : Below v.heap.size v ((((v.alloc (.cells c t)).alloc (.cells d u)).setRow v.heap.size c').setRow (v.heap.size + 1) d') :=
  below_setRow (below_setRow (((Below.refl _ _).alloc (Nat.le_refl _) _).alloc (by rw [World.size_alloc]; omega) _) (Nat.le_refl _) _) (by omega) _
theorem own_one (v : World) (c : Array Value) (t : TypeId) : (v.alloc (.cells c t)).heap[v.heap.size]? = some (.cells c t) := new_at v _

set_option maxHeartbeats 8000000 in
set_option maxRecDepth 100000 in
theorem walk (f : Fl) (L : List ByteArray) (o : Opv) (fl : Int) (w : World) (wf : f.wf w L) (wo : o.wf) (wi : (Lit.int .i64 fl).wf = true) :
    Calls Try.prog 3 #[.agg (flr f), .agg (opr o), .int .i64 fl] w fun e w' => e = .returned (.bool true) ∧ sh.Belo w.heap.size w w' := by
  have cf := Lib.hid (fun v (hb : Below w.heap.size w v) => fewo_any f o L v (wf.at_.on hb) wf.n wf.m)
  have K0 := Lib.hid (KW.two w (.cells (flr f) 24) (.cells (opr o) 27))
  have wf := Lib.hid wf
  have hz := zero27
  have hz3 := zero33
  clear wo wi
  go_enter Try.func3, Try.ntmps3
  go_wp2_with fail
  refine (works_any _).mono ?_
  rintro e v1 ⟨rfl, hb⟩
  have K1 := Lib.hid (K0.out.past hb)
  clear hb K0
  go_wp2_with (first
    | (refine wpList_load_row (by rfl) 24 (.tmp 3) rfl _ rfl 24 _ _ (K1.out.at 1 rfl) Try.underlying24 rfl (row27 _) ?_)
    | (refine wpList_load_row (by rfl) 27 (.tmp 4) rfl _ rfl 27 _ _ (K1.out.at 0 rfl) Try.underlying27 rfl (row26 _) ?_))
  refine (cf.out _ K1.out.bel).mono ?_
  rintro e v2 ⟨rfl, hb⟩
  have K2 := Lib.hid (K1.out.past hb)
  clear hb K1 cf
  cases hfe : foB f L o with
  | false =>
    go_wp2_with fail
    go_ret
    exact ⟨rfl, sh.Belo.of K2.out.bel⟩
  | true =>
  obtain ⟨h1, h2, h3, h4, h5⟩ : L.length ≤ 200 ∧ (∀ x ∈ L, x.size ≤ 200) ∧ f.da.size ≤ 2000 ∧ f.nm.size ≤ 200 ∧ o.tx.size ≤ 700 := by
    unfold foB at hfe
    simp only [Bool.and_eq_true, decide_eq_true_eq] at hfe
    obtain ⟨a1, a2, a3, a4⟩ := fewB_true hfe.1
    exact ⟨a1, a2, a3, a4, hfe.2.1⟩
  have hLs : ∀ y ∈ L, y.size ≤ 1099511627776 := fun y hy => by have := h2 y hy; omega
  have hM := doR_rows f L o fl
  have hE := Lib.hid (doR_len f L o fl)
  have cd := Lib.hid (do_any f o fl L v2 (wf.out.at_.on K2.out.bel) wf.out.n (by omega) hLs (by omega) (by omega))
  have cr := Lib.hid (fun v (hb : Below w.heap.size w v) => rdo_any f o fl L v (wf.out.at_.on hb) wf.out.n h1 hLs (by omega) (by omega) wf.out.c wf.out.nil)
  have ca := Lib.hid (fun v (hb : sh.Belo w.heap.size w v) => append_any f o.tx L v (wf.out.at_.onB hb) wf.out.n (by omega) (by omega) (by omega))
  have cb := Lib.hid (fun v => rappend_any f o.tx v (by omega) (by omega))
  have hA := Lib.hid (app_row f o.tx)
  have hLm : Hid (L.length ≤ maxLen) := wf.out.m |> Lib.hid
  generalize doR f L o fl = R at *
  obtain ⟨g, M, E, code⟩ := R
  dsimp only at hE hM cd cr
  generalize appF f o.tx = A at *
  obtain ⟨h, ac⟩ := A
  dsimp only at ca cb hA
  have hMm : Hid (M.length ≤ maxLen) := Lib.hid (by unfold maxLen; omega)
  clear hfe h1 h2 h3 h4 h5 hLs hM
  go_wp2_with (first
    | (refine wpList_load_row (by rfl) 24 (.tmp 3) rfl _ rfl 24 _ _ (K2.out.at 1 rfl) Try.underlying24 rfl (row27 _) ?_)
    | (refine wpList_load_row (by rfl) 27 (.tmp 4) rfl _ rfl 27 _ _ (K2.out.at 0 rfl) Try.underlying27 rfl (row26 _) ?_))
  refine cd.out.mono ?_
  rintro e v3 ⟨aA, cA, rfl, sA, hb⟩
  have K3 := Lib.hid (K2.out.past hb)
  have S0 := Lib.hid sA.str
  clear hb sA K2 cd
  have K4 := Lib.hid ((K3.out.new (.cells (flr fl0) 24)).new (.cells (evr ev0) 33))
  rw [World.size_alloc] at K4
  have hB := Lib.hid K3.out.size
  have K5 := Lib.hid (K4.out.row 1 rfl hB.out (flr { g with ha := aA, hn := M.length, hc := cA }))
  have K6 := Lib.hid (K5.out.row 0 rfl (Nat.le_succ_of_le hB.out) (evr E))
  have S1 := Lib.hid (S0.out.on (below_two v3 (flr fl0) (flr { g with ha := aA, hn := M.length, hc := cA }) (evr ev0) (evr E) 24 33))
  have g1 : Hid (_ = some (Obj.cells (flr fl0) 24)) := Lib.hid (K4.out.at 1 rfl)
  have g2 : Hid (_ = some (Obj.cells (evr ev0) 33)) := Lib.hid (K5.out.at 0 rfl)
  clear K3 K4 K5 S0
  go_wp2_with (first
    | (refine wpList_store_row (by rfl) 24 (.tmp 9) (.tmp 33) rfl _ (flr { g with ha := aA, hn := M.length, hc := cA }) rfl rfl 24 _ g1.out (row27 _) (flr_same _ _) (flr_one _) ?_)
    | (refine wpList_store_row (by rfl) 33 (.tmp 10) (.tmp 34) rfl _ (evr E) rfl rfl 33 _ g2.out (row33 _ hE.out) (evr_same _ _ z32_len hE.out) (evr_one _) ?_)
    | (refine wpList_load_row (by rfl) 24 (.tmp 3) rfl _ rfl 24 _ _ (K6.out.at 3 rfl) Try.underlying24 rfl (row27 _) ?_)
    | (refine wpList_load_row (by rfl) 27 (.tmp 4) rfl _ rfl 27 _ _ (K6.out.at 2 rfl) Try.underlying27 rfl (row26 _) ?_))
  clear g1 g2 hB
  revert K6 S1
  generalize (((v3.alloc (.cells (flr fl0) 24)).alloc (.cells (evr ev0) 33)).setRow v3.heap.size (flr { g with ha := aA, hn := M.length, hc := cA })).setRow (v3.heap.size + 1) (evr E) = V4
  generalize v3.heap.size = ba
  intro K6 S1
  refine (cr.out _ K6.out.bel).mono ?_
  rintro e v5 ⟨aB, cB, rfl, sB, hb⟩
  have K7 := Lib.hid (K6.out.kb.past hb)
  have S2 := Lib.hid (S1.out.onB hb)
  have T2 := Lib.hid sB
  clear hb sB K6 S1 cr
  have K8 := Lib.hid ((K7.out.new (.cells (flr fl0) 24)).new (.cells (evr ev0) 33))
  rw [World.size_alloc] at K8
  have hB := Lib.hid K7.out.size
  have K9 := Lib.hid (K8.out.row 1 rfl hB.out (flr { g with ha := aB, hn := M.length, hc := cB }))
  have K10 := Lib.hid (K9.out.row 0 rfl (Nat.le_succ_of_le hB.out) (evr E))
  have S3 := Lib.hid (S2.out.on (below_two v5 (flr fl0) (flr { g with ha := aB, hn := M.length, hc := cB }) (evr ev0) (evr E) 24 33))
  have T3 := Lib.hid (T2.out.on (below_two v5 (flr fl0) (flr { g with ha := aB, hn := M.length, hc := cB }) (evr ev0) (evr E) 24 33))
  have g1 : Hid (_ = some (Obj.cells (flr fl0) 24)) := Lib.hid (K8.out.at 1 rfl)
  have g2 : Hid (_ = some (Obj.cells (evr ev0) 33)) := Lib.hid (K9.out.at 0 rfl)
  have c2 := K10.out.cell 4 rfl 2 (y := .string o.tx) rfl
  clear K7 K8 K9 S2 T2
  go_wp2_with (first
    | (refine wpList_store_row (by rfl) 24 (.tmp 12) (.tmp 41) rfl _ (flr { g with ha := aB, hn := M.length, hc := cB }) rfl rfl 24 _ g1.out (row27 _) (flr_same _ _) (flr_one _) ?_)
    | (refine wpList_store_row (by rfl) 33 (.tmp 13) (.tmp 42) rfl _ (evr E) rfl rfl 33 _ g2.out (row33 _ hE.out) (evr_same _ _ z32_len hE.out) (evr_one _) ?_)
    | (refine wpList_load_row (by rfl) 24 (.tmp 3) rfl _ rfl 24 _ _ (K10.out.at 5 rfl) Try.underlying24 rfl (row27 _) ?_))
  clear g1 g2 hB c2
  revert K10 S3 T3
  generalize (((v5.alloc (.cells (flr fl0) 24)).alloc (.cells (evr ev0) 33)).setRow v5.heap.size (flr { g with ha := aB, hn := M.length, hc := cB })).setRow (v5.heap.size + 1) (evr E) = V6
  generalize v5.heap.size = bb
  intro K10 S3 T3
  refine (ca.out _ K10.out.bel).mono ?_
  rintro e v7 ⟨aC, cC, rfl, sC, hb⟩
  have K11 := Lib.hid (K10.out.past (sh.Belo.of hb))
  have S4 := Lib.hid (S3.out.on hb)
  have T4 := Lib.hid (T3.out.on hb)
  have U4 := Lib.hid sC.str
  clear hb sC K10 S3 T3 ca
  have hB := Lib.hid K11.out.size
  have g1 : Hid (_ = some (Obj.cells (flr fl0) 24)) := Lib.hid (own_one v7 (flr fl0) 24)
  have K12 := Lib.hid ((K11.out.new (.cells (flr fl0) 24)).row 0 rfl hB.out (flr { h with ha := aC, hn := L.length, hc := cC }))
  have S5 := Lib.hid (S4.out.on (below_one v7 (flr fl0) (flr { h with ha := aC, hn := L.length, hc := cC }) 24))
  have T5 := Lib.hid (T4.out.on (below_one v7 (flr fl0) (flr { h with ha := aC, hn := L.length, hc := cC }) 24))
  have U5 := Lib.hid (U4.out.on (below_one v7 (flr fl0) (flr { h with ha := aC, hn := L.length, hc := cC }) 24))
  have c2 := K12.out.cell 5 rfl 2 (y := .string o.tx) rfl
  clear K11 S4 T4 U4
  go_wp2_with (first
    | (refine wpList_store_row (by rfl) 24 (.tmp 15) (.tmp 49) rfl _ (flr { h with ha := aC, hn := L.length, hc := cC }) rfl rfl 24 _ g1.out (row27 _) (flr_same _ _) (flr_one _) ?_)
    | (refine wpList_load_row (by rfl) 24 (.tmp 3) rfl _ rfl 24 _ _ (K12.out.at 6 rfl) Try.underlying24 rfl (row27 _) ?_))
  clear g1 hB c2
  revert K12 S5 T5 U5
  generalize (v7.alloc (.cells (flr fl0) 24)).setRow v7.heap.size (flr { h with ha := aC, hn := L.length, hc := cC }) = V8
  generalize v7.heap.size = bc
  intro K12 S5 T5 U5
  refine (cb.out _).mono ?_
  rintro e v9 ⟨rfl, hb⟩
  have K13 := Lib.hid (K12.out.past (sh.Belo.of hb))
  have S6 := Lib.hid (S5.out.on hb)
  have T6 := Lib.hid (T5.out.on hb)
  have U6 := Lib.hid (U5.out.on hb)
  clear hb K12 S5 T5 U5 cb
  have hB := Lib.hid K13.out.size
  have g1 : Hid (_ = some (Obj.cells (flr fl0) 24)) := Lib.hid (own_one v9 (flr fl0) 24)
  have K14 := Lib.hid ((K13.out.new (.cells (flr fl0) 24)).row 0 rfl hB.out (flr h))
  have S7 := Lib.hid (S6.out.on (below_one v9 (flr fl0) (flr h) 24))
  have T7 := Lib.hid (T6.out.on (below_one v9 (flr fl0) (flr h) 24))
  have U7 := Lib.hid (U6.out.on (below_one v9 (flr fl0) (flr h) 24))
  clear K13 S6 T6 U6
  go_upto_region 11 with (refine wpList_store_row (by rfl) 24 (.tmp 17) (.tmp 56) rfl _ (flr h) rfl rfl 24 _ g1.out (row27 _) (flr_same _ _) (flr_one _) ?_)
  clear g1 hB
  revert K14 S7 T7 U7
  generalize (v9.alloc (.cells (flr fl0) 24)).setRow v9.heap.size (flr h) = V10
  generalize v9.heap.size = bd
  intro K14 S7 T7 U7
  have s1 := Lib.hid (rsame_any { g with ha := aA, hn := M.length, hc := cA } { g with ha := aB, hn := M.length, hc := cB } M M V10 S7.out T7.out hMm.out rfl rfl)
  rw [sameB_refl { g with ha := aA, hn := M.length, hc := cA } { g with ha := aB, hn := M.length, hc := cB } M rfl rfl rfl rfl rfl] at s1
  have ee : Hid (∀ v, (Op.equalIn 10000 33 (.agg (evr E)) (.agg (evr E))).run Try.prog v = .ok true v) := Lib.hid (fun v => by rw [eql_ev E E hE.out hE.out, (evB_iff E E).2 rfl])
  go_wp2_with (first
    | (refine wpList_load_row_g (by with_unfolding_all rfl) 24 (.tmp 9) rfl _ rfl 24 _ _ (K14.out.at 5 rfl) Try.underlying24 rfl (row27 _) ?_)
    | (refine wpList_load_row_g (by with_unfolding_all rfl) 24 (.tmp 12) rfl _ rfl 24 _ _ (K14.out.at 3 rfl) Try.underlying24 rfl (row27 _) ?_))
  refine s1.out.mono ?_
  rintro e v11 ⟨rfl, hb⟩
  have K15 := Lib.hid (K14.out.past (sh.Belo.of hb))
  have U8 := Lib.hid (U7.out.on hb)
  clear hb K14 S7 T7 U7 s1
  have s2 := Lib.hid (rsame_any { h with ha := aC, hn := L.length, hc := cC } h L L v11 U8.out (hA.out.1 ▸ wf.out.at_.onB K15.out.bel) hLm.out rfl (hA.out.2.1.trans wf.out.n))
  rw [sameB_refl { h with ha := aC, hn := L.length, hc := cC } h L rfl rfl rfl rfl rfl] at s2
  go_wp2_with (first
    | (refine wpList_load_row_g (by with_unfolding_all rfl) 33 (.tmp 10) rfl _ rfl 33 _ _ (K15.out.at 4 rfl) Try.underlying33 rfl (row33 _ hE.out) ?_)
    | (refine wpList_load_row_g (by with_unfolding_all rfl) 33 (.tmp 13) rfl _ rfl 33 _ _ (K15.out.at 2 rfl) Try.underlying33 rfl (row33 _ hE.out) ?_)
    | (refine wpList_deq_g (by with_unfolding_all rfl) 33 33 (.tmp 65) (.tmp 66) rfl (evr E) (evr E) rfl rfl (by kernel_rfl) true ee.out ?_)
    | (refine wpList_load_row_g (by with_unfolding_all rfl) 24 (.tmp 15) rfl _ rfl 24 _ _ (K15.out.at 1 rfl) Try.underlying24 rfl (row27 _) ?_)
    | (refine wpList_load_row_g (by with_unfolding_all rfl) 24 (.tmp 17) rfl _ rfl 24 _ _ (K15.out.at 0 rfl) Try.underlying24 rfl (row27 _) ?_))
  refine s2.out.mono ?_
  rintro e v12 ⟨rfl, hb⟩
  have K16 := Lib.hid (K15.out.past (sh.Belo.of hb))
  clear hb K15 U8 s2 ee
  go_wp2_with fail
  go_ret
  exact ⟨rfl, K16.out.bel⟩

set_option maxRecDepth 100000 in
theorem lifted (os : Os) (started : os.Started) (H : Type) (enc : TypeId × Value → H) :
    ReturnsInHanded {} Try.checked os 3 .any (Rows.fileDoesSpec.pre6 enc Try.prog Try.f3 Rows.fileDoesRow.domain false) (Rows.fileDoesSpec.post enc Try.prog Try.f3 false true false false) := by
  refine returnsInHanded_of_change (C := Try.checked) own started (by kernel_rfl) Try.func3
    (ChangeSpec.witness6 (enc := enc) (C := Try.checked) false ⟨#[], #[.agg #[.int .i64 0, .string ByteArray.empty, .string ByteArray.empty, .bool false, .int .i64 0, .slice none 0 0], .agg #[.int .i64 0, .string ByteArray.empty, .string ByteArray.empty, .int .i64 0, .int .i64 0, .int .i64 0], .int .i64 0], []⟩ 8 (by kernel_rfl) (by kernel_rfl) (by kernel_rfl) (by kernel_rfl)) ?_
  intro W base args ds gs before hval0 hW hcnd _
  have hval : ∀ (j : Nat) t v, Try.f3.params[j]? = some t → args[j]? = some v → Value.okWide Try.prog W .any base t v := hval0
  have hW' := hW
  obtain ⟨p, q, hA0, hV, rfl, hfz, hnd⟩ := hW
  have hA : DataW.TrodAll enc Try.prog W 0 (fun _ => true) true Try.f3.params.toList args.toList ds p := hA0
  rw [Try.params3] at hA hval
  obtain ⟨v0, vs0, d0, ds0, p0, q0, hargs, rfl, rfl, h0, r0⟩ := trodAll_cons hA
  obtain ⟨v1, vs1, d1, ds1, p1, q1, rfl, rfl, rfl, h1, r1⟩ := trodAll_cons r0
  obtain ⟨v2, vs2, d2, ds2, p2, q2, rfl, rfl, rfl, h2, r2⟩ := trodAll_cons r1
  obtain ⟨rfl, rfl, rfl⟩ := trodAll_nil r2
  obtain rfl : args = #[v0, v1, v2] := by cases args; simp_all
  obtain ⟨rfl, rfl⟩ := trodVars_none hV
  have k0 := h0
  have lt0 : ∀ x ∈ p0, x.block < W.heap.size := by obtain ⟨m, hm⟩ := k0; exact DataW.trod_lt m _ _ _ hm
  obtain ⟨f0, L0, rfl, wf0⟩ := open_file (hval 0 24 v0 rfl rfl) h0
  have k1 := h1
  have lt1 : ∀ x ∈ p1, x.block < W.heap.size := by obtain ⟨m, hm⟩ := k1; exact DataW.trod_lt m _ _ _ hm
  obtain ⟨f1, rfl, wf1⟩ := open_op (hval 1 27 v1 rfl rfl) h1
  obtain ⟨a2, rfl, rfl, rfl, w2⟩ := open_int Try.underlying3 (hval 2 3 v2 rfl rfl) h2
  clear hA0 hval0
  refine (walk f0 L0 f1 a2 W wf0 wf1 w2).mono fun e W' ⟨he, bel⟩ => ?_
  subst he
  exact ⟨_, rfl, _, _, _, [], _, [], hW', trodAll_mk1 (shut_bool Try.underlying4 _), (trodAll_cons_mk (belo_trod laidOut (by kernel_rfl) (of_decide_eq_true (by kernel_rfl)) k0 bel lt0) (trodAll_cons_mk (belo_trod laidOut (by kernel_rfl) (of_decide_eq_true (by kernel_rfl)) k1 bel lt1) (trodAll_cons_mk (shut_int Try.underlying3 w2) trodAll_mk0))), rfl, bel.frame _, fun h => by cases h⟩

theorem over : Rows.fileDoesRow.holds Try.pinned (OpenSpec.ofChange Rows.fileDoesSpec) :=
  OpenClaim.holds_of_wide 3 Try.f3 rfl rfl rfl rfl rfl rfl rfl ⟨rfl, rfl, rfl, rfl, rfl⟩ rfl rfl rfl rfl rfl (by kernel_rfl) Try.func3 (by kernel_rfl)
    (of_decide_eq_true (by kernel_rfl)) (by unfold Func.isWrapper; first | (rw [if_pos (by decide +kernel)]; kernel_rfl) | (rw [if_neg (by decide +kernel)]; exact ⟨rfl, rfl⟩))
    (fun os started H enc _ => lifted os started H enc)

/-- The given statement. -/
theorem fileDoes_proved : Rows.FileDoesSaid :=
  over
#print axioms fileDoes_proved
end Go.Proofs.Ytphbkbjgjicncaa.fileDoes
