/-
  What 'collision' and 'Collide' return.
-/
import Derived.Test.YtfilolmbppjbjaaGreatApart
namespace Go.Proofs.YtfilolmbppjbjaaGreat
open Go Go.RowKit

def ins (l : List Ev) : List (List UInt8) := (told l).map Prod.fst
theorem ins_len (l : List Ev) : (ins l).length = (told l).length := by simp [ins]
def colR (a b : List Ev) : Value := if lastD (told a) = lastD (told b) then apR (ins a) (ins b) else .tuple #[.string ⟨#[]⟩, .string ⟨#[]⟩, .bool false]
theorem own_texts {n₀ : Nat} {w : World} {v : Value} {l : List Ev} (h : w.ownsRow n₀ 9 1 v (told l).length (texts (told l))) : ∃ p c, v = .slice p (ins l).length c ∧ TxAt w.heap.size w p (ins l) := by
  rcases h.2 with ⟨rfl, h0⟩ | ⟨g, cap, cur, rfl, h1, h2, h3, h4, h5, h6⟩
  · have : ins l = [] := List.eq_nil_of_length_eq_zero (by rw [ins_len, h0])
    exact ⟨none, 0, by rw [this]; rfl, .inl this⟩
  · refine ⟨some ⟨g, 0, none⟩, cap, by rw [ins_len], .inr ⟨g, rfl, lt_of_some h2, fun k hk => ?_⟩⟩
    rw [cell_of_row w g k _ _ _ h2]
    have hk' : k < (told l).length := by rw [← ins_len]; exact hk
    have h7 : (cur.toList.take ((told l).length * 1))[k]? = (texts (told l))[k]? := by rw [h6]
    rw [List.getElem?_take_of_lt (by omega), Array.getElem?_toList] at h7
    rw [h7]
    simp [texts, ins, hk']
theorem TxAt.past {B B' : Nat} {w v : World} {p : Option Addr} {l : List (List UInt8)} (h : TxAt B w p l) (hb : Below B w v) (hB : B ≤ B') : TxAt B' v p l := by
  rcases h with h | ⟨g, hp, hg, hc⟩
  · exact .inl h
  · exact .inr ⟨g, hp, by omega, fun k hk => by rw [hb.cell (p := ⟨g, k, none⟩) hg]; exact hc k hk⟩

theorem apR_shape (a b : List (List UInt8)) : ∃ x y z, apR a b = .tuple #[.string x, .string y, .bool z] := by
  unfold apR
  split <;> exact ⟨_, _, _, rfl⟩
/-- Two digests that are compared for not being one. -/
theorem wpList_dne {P : Program} {ops : Array Oper} {rest : List Oper} {op : Oper} {a : Act} {w : World} {Q : Exit → Act → World → Prop} (hgd : op.guard = none) (t t' : TypeId) (x y : Operand) (ho : op.op = .binOp .neq t x y t')
    (c d : Array Value) (hx : a.eval x = .agg c) (hy : a.eval y = .agg d) (hp : P.eqGuardType P.depth t = false) (r : Bool) (hr : ∀ v, (Op.equalIn 10000 t (.agg c) (.agg d)).run P v = .ok r v)
    (h : wpList P ops Q rest (a.put op.dst (.bool (!r))) w) : wpList P ops Q (op :: rest) a w :=
  wpList_plain hgd fun _ hK => by
    unfold Oper.wp execOp
    simp only [ho, hx, hy]
    simp [eqGuard, hp, run_neq_struct, hr, go_sem]
    exact hK _ _ h

set_option maxRecDepth 100000 in
set_option maxHeartbeats 1000000 in
theorem collision_any (la lb : List Ev) (ha : Fit la) (hb : Fit lb) (hna : la.length ≤ 1000) (hnb : lb.length ≤ 1000) (pa pb : Option Addr) (ca cb b1 b2 : Nat) (w : World) (hEa : EvsAt w.heap.size w pa la) (hEb : EvsAt w.heap.size w pb lb)
    (h1 : w.heap[b1]? = some (.cells #[.slice pa la.length ca] 24)) (h2 : w.heap[b2]? = some (.cells #[.slice pb lb.length cb] 24)) :
    Calls Tryz.prog 26 #[.func (.func 34) #[] #[.pointer (some ⟨b1, 0, none⟩)], .func (.func 34) #[] #[.pointer (some ⟨b2, 0, none⟩)]] w fun r w' => r = .returned (colR la lb) ∧ Below w.heap.size w w' := by
  have g1 := Lib.hid (gathered_any la ha hna pa ca b1 w hEa h1)
  have g2 := Lib.hid (fun v h e => gathered_any lb hb hnb pb cb b2 v h e)
  have hla := told_len la
  have hlb := told_len lb
  have hfa := Lib.hid (lastD_len (told la) (fun y hy => (told_fine la ha y hy).2))
  have hfb := Lib.hid (lastD_len (told lb) (fun y hy => (told_fine lb hb y hy).2))
  have hz := zero26
  have hEb' := Lib.hid hEb
  have h2' := Lib.hid h2
  obtain ⟨DA, hDA⟩ : ∃ D, Hid (lastD (told la) = D) := ⟨_, Lib.hid rfl⟩
  obtain ⟨DB, hDB⟩ : ∃ D, Hid (lastD (told lb) = D) := ⟨_, Lib.hid rfl⟩
  rw [hDA.out] at g1 hfa
  rw [hDB.out] at g2 hfb
  clear ha hb hEa hEb h1 h2
  go_enter Tryz.func26, Tryz.ntmps26
  go_wp2_with fail
  refine g1.out.mono ?_
  rintro r w1 ⟨v1, rfl, ho1, hB1⟩
  obtain ⟨p1, c1, hv1, hT1⟩ := own_texts ho1
  have hK1 : Hid (KW w.heap.size w [(w1.heap.size, .cells (row zs) 23)] (w1.alloc (.cells (row zs) 23))) := Lib.hid (((KW.start w).past hB1).new _)
  have hK2 := Lib.hid (hK1.out.row 0 rfl hB1.size (row DA))
  have hT2 : Hid (TxAt ((w1.alloc (.cells (row zs) 23)).setRow w1.heap.size (row DA)).heap.size ((w1.alloc (.cells (row zs) 23)).setRow w1.heap.size (row DA)) p1 (ins la)) := Lib.hid (hT1.past (below_setRow ((Below.refl _ _).alloc (Nat.le_refl _) _) (Nat.le_refl _) _) (by simp [World.setRow]))
  have g3 := Lib.hid (g2.out _ ((hEb'.out.past hK2.out.bel).mono (by simpa [World.setRow] using Nat.le_succ_of_le hB1.size)) ((hK2.out.bel.block _ (lt_of_some h2'.out)).trans h2'.out))
  rw [hv1]
  clear ho1 hT1 g1 g2 hv1 hB1
  go_wp2_with (with_reducible refine wpList_store_row rfl 23 (.tmp 8) (.tmp 15) rfl _ (row DA) rfl rfl 23 _ (hK1.out.at 0 rfl) (row26 _ hfa.out) (row_eq _ _ zs_len hfa.out) (row_one _) ?_)
  refine g3.out.mono ?_
  rintro r w2 ⟨v2, rfl, ho2, hB2⟩
  obtain ⟨p2, c2, hv2, hT3⟩ := own_texts ho2
  have hK3 := Lib.hid ((hK2.out.past hB2).new (.cells (row zs) 23))
  have hK4 := Lib.hid (hK3.out.row 0 rfl (hK2.out.past hB2).size (row DB))
  have hTa : Hid (TxAt ((w2.alloc (.cells (row zs) 23)).setRow w2.heap.size (row DB)).heap.size ((w2.alloc (.cells (row zs) 23)).setRow w2.heap.size (row DB)) p1 (ins la)) := Lib.hid ((hT2.out.past hB2 hB2.size).past (below_setRow ((Below.refl _ _).alloc (Nat.le_refl _) _) (Nat.le_refl _) _) (by simp [World.setRow]))
  have hTb : Hid (TxAt ((w2.alloc (.cells (row zs) 23)).setRow w2.heap.size (row DB)).heap.size ((w2.alloc (.cells (row zs) 23)).setRow w2.heap.size (row DB)) p2 (ins lb)) := Lib.hid (hT3.past (below_setRow ((Below.refl _ _).alloc (Nat.le_refl _) _) (Nat.le_refl _) _) (by simp [World.setRow]))
  rw [hv2]
  have hia := ins_len la
  have hib := ins_len lb
  have ap := Lib.hid (apart_any (ins la) (ins lb) (by omega) (by omega) p1 p2 c1 c2 _ hTa hTb)
  have eq := Lib.hid (eql_dig DA DB hfa.out hfb.out)
  clear ho2 hT3 hT2 g3 hv2 hB2 hia hib
  by_cases he : DA = DB
  · have hc : Hid (colR la lb = apR (ins la) (ins lb)) := Lib.hid (by unfold colR; rw [hDA.out, hDB.out, if_pos he])
    have eq' : Hid (∀ v, (Op.equalIn 10000 23 (.agg (row DA)) (.agg (row DB))).run Tryz.prog v = .ok true v) := Lib.hid (fun v => by rw [eq.out v, he]; simp)
    clear he eq
    go_wp2_with (first
      | (with_reducible refine wpList_store_row rfl 23 (.tmp 10) (.tmp 20) rfl _ (row DB) rfl rfl 23 _ (hK3.out.at 0 rfl) (row26 _ hfb.out) (row_eq _ _ zs_len hfb.out) (row_one _) ?_)
      | (with_reducible refine wpList_load_row rfl 23 (.tmp 8) rfl _ rfl 23 (row DA) _ (hK4.out.at 1 rfl) Tryz.underlying23 rfl (row26 _ hfa.out) ?_)
      | (with_reducible refine wpList_load_row rfl 23 (.tmp 10) rfl _ rfl 23 (row DB) _ (hK4.out.at 0 rfl) Tryz.underlying23 rfl (row26 _ hfb.out) ?_)
      | (with_reducible refine wpList_dne rfl 23 23 (.tmp 21) (.tmp 22) rfl (row DA) (row DB) rfl rfl (by kernel_rfl) true eq'.out ?_))
    refine ap.out.mono ?_
    rintro r w3 ⟨rfl, hB3⟩
    obtain ⟨x, y, z, hR⟩ := apR_shape (ins la) (ins lb)
    rw [hR]
    go_wp2_with fail
    go_ret3
    exact ⟨by rw [hc.out, hR]; rfl, (hK4.out.past hB3).bel⟩
  · have hc : Hid (colR la lb = .tuple #[.string ⟨#[]⟩, .string ⟨#[]⟩, .bool false]) := Lib.hid (by unfold colR; rw [hDA.out, hDB.out, if_neg he])
    have eq' : Hid (∀ v, (Op.equalIn 10000 23 (.agg (row DA)) (.agg (row DB))).run Tryz.prog v = .ok false v) := Lib.hid (fun v => by rw [eq.out v]; simp [he])
    clear he eq ap
    go_wp2_with (first
      | (with_reducible refine wpList_store_row rfl 23 (.tmp 10) (.tmp 20) rfl _ (row DB) rfl rfl 23 _ (hK3.out.at 0 rfl) (row26 _ hfb.out) (row_eq _ _ zs_len hfb.out) (row_one _) ?_)
      | (with_reducible refine wpList_load_row rfl 23 (.tmp 8) rfl _ rfl 23 (row DA) _ (hK4.out.at 1 rfl) Tryz.underlying23 rfl (row26 _ hfa.out) ?_)
      | (with_reducible refine wpList_load_row rfl 23 (.tmp 10) rfl _ rfl 23 (row DB) _ (hK4.out.at 0 rfl) Tryz.underlying23 rfl (row26 _ hfb.out) ?_)
      | (with_reducible refine wpList_dne rfl 23 23 (.tmp 21) (.tmp 22) rfl (row DA) (row DB) rfl rfl (by kernel_rfl) false eq'.out ?_))
    go_ret3
    exact ⟨by rw [hc.out]; rfl, hK4.out.bel⟩
theorem colR_shape (a b : List Ev) : ∃ x y z, colR a b = .tuple #[.string x, .string y, .bool z] := by
  unfold colR
  split
  · exact apR_shape _ _
  · exact ⟨_, _, _, rfl⟩

set_option maxRecDepth 100000 in
set_option maxHeartbeats 1000000 in
theorem collide_any (la lb : List Ev) (ha : Fit la) (hb : Fit lb) (hna : la.length ≤ 1000) (hnb : lb.length ≤ 1000) (pa pb : Option Addr) (ca cb : Nat) (w : World) (hEa : EvsAt w.heap.size w pa la) (hEb : EvsAt w.heap.size w pb lb) :
    Calls Tryz.prog 15 #[.slice pa la.length ca, .slice pb lb.length cb] w fun r w' => r = .returned (colR la lb) ∧ Below w.heap.size w w' := by
  have c1 := Lib.hid (fun v => links_any pa la.length ca v)
  have c2 := Lib.hid (fun v => links_any pb lb.length cb v)
  have hB : Hid (Below w.heap.size w ((w.alloc (.cells #[.slice pa la.length ca] 24)).alloc (.cells #[.slice pb lb.length cb] 24))) := Lib.hid (((Below.refl _ _).alloc (Nat.le_refl _) _).alloc (by simp) _)
  have c3 := Lib.hid (collision_any la lb ha hb hna hnb pa pb ca cb w.heap.size (w.heap.size + 1) ((w.alloc (.cells #[.slice pa la.length ca] 24)).alloc (.cells #[.slice pb lb.length cb] 24)) ((hEa.past hB.out).mono hB.out.size) ((hEb.past hB.out).mono hB.out.size)
    (by rw [heap_alloc_if, if_neg (by simp), heap_alloc_if, if_pos rfl]) (by rw [heap_alloc_if, if_pos (by simp)]))
  obtain ⟨x, y, z, hR⟩ := colR_shape la lb
  have hR' := Lib.hid hR
  clear hEa hEb ha hb hR
  go_enter Tryz.func15, Tryz.ntmps15
  go_wp2_with fail
  refine (c1.out _).mono ?_
  rintro r u ⟨rfl, rfl⟩
  go_wp2_with fail
  refine (c2.out _).mono ?_
  rintro r u ⟨rfl, rfl⟩
  go_wp2_with fail
  refine c3.out.mono ?_
  rintro r u ⟨rfl, hu⟩
  rw [hR'.out]
  go_wp2_with fail
  go_ret3
  exact ⟨by rw [hR'.out]; rfl, hB.out.trans (hu.mono hB.out.size)⟩
end Go.Proofs.YtfilolmbppjbjaaGreat
