/-
  The event that tells an operation: what 'told' of the program returns.
-/
import Derived.Test.YtphbkbjgjicncaaApp2
import Derived.Test.YtphbkbjgjicncaaGsha
import Derived.Deep.RegionHeld3
import Derived.Deep.Cut
namespace Go.Proofs.Ytphbkbjgjicncaa
open Go Go.RowKit

def z32 : List UInt8 := List.replicate 32 0
/-- The event that tells an operation. -/
def tellE (f : Fl) (o : Opv) : Ev :=
  if o.kind = 1 then ⟨o.kind, f.id, [], 0, o.tx.size, z32⟩
  else if o.kind = 2 then ⟨o.kind, f.id, [], o.tm, f.da.size, sh.sha f.da.data.toList⟩
  else if o.kind = 3 then ⟨o.kind, f.id, [], o.tm, 0, z32⟩
  else if o.kind = 4 ∨ o.kind = 5 then ⟨o.kind, f.id, o.tx.data.toList, 0, 0, z32⟩
  else ⟨o.kind, f.id, [], 0, 0, z32⟩

theorem z32_len : z32.length = 32 := by simp [z32]
theorem sha_len (l : List UInt8) : (sh.sha l).length = 32 := sh.sha_length l
theorem tellE_len (f : Fl) (o : Opv) : (tellE f o).sum.length = 32 := by
  unfold tellE
  repeat' split
  all_goals first | exact z32_len | exact sha_len _

/-- The worlds of told, once its event is begun. -/
structure TW (w : World) (f : Fl) (o : Opv) (e : Ev) (v : World) : Prop where
  kw : KW w.heap.size w [(w.heap.size + 1 + 1 + 1, .cells (evr e) 33), (w.heap.size + 1 + 1, .cells (evr ev0) 33), (w.heap.size + 1, .cells (opr o) 27), (w.heap.size, .cells (flr f) 24)] v
theorem TW.c0 {w v : World} {f : Fl} {o : Opv} {e : Ev} (h : TW w f o e v) : v.cell? ⟨w.heap.size + 1, 0, none⟩ = some (.int .i64 o.kind) := h.kw.cell 2 rfl 0 rfl
theorem TW.c2 {w v : World} {f : Fl} {o : Opv} {e : Ev} (h : TW w f o e v) : v.cell? ⟨w.heap.size + 1, 2, none⟩ = some (.string o.tx) := h.kw.cell 2 rfl 2 rfl
theorem TW.c3 {w v : World} {f : Fl} {o : Opv} {e : Ev} (h : TW w f o e v) : v.cell? ⟨w.heap.size + 1, 3, none⟩ = some (.int .i64 o.tm) := h.kw.cell 2 rfl 3 rfl
theorem TW.d2 {w v : World} {f : Fl} {o : Opv} {e : Ev} (h : TW w f o e v) : v.cell? ⟨w.heap.size, 2, none⟩ = some (.string f.da) := h.kw.cell 3 rfl 2 rfl
theorem TW.e2 {w v : World} {f : Fl} {o : Opv} {e : Ev} (h : TW w f o e v) : v.cell? ⟨w.heap.size + 1 + 1 + 1, 2, none⟩ = some (.string ⟨e.name.toArray⟩) := h.kw.cell 0 rfl 2 (evr2 e)
theorem TW.e3 {w v : World} {f : Fl} {o : Opv} {e : Ev} (h : TW w f o e v) : v.cell? ⟨w.heap.size + 1 + 1 + 1, 3, none⟩ = some (.int .i64 e.time) := h.kw.cell 0 rfl 3 (evr3 e)
theorem TW.e4 {w v : World} {f : Fl} {o : Opv} {e : Ev} (h : TW w f o e v) : v.cell? ⟨w.heap.size + 1 + 1 + 1, 4, none⟩ = some (.int .i64 e.len) := h.kw.cell 0 rfl 4 (evr4 e)
theorem TW.fr {w v : World} {f : Fl} {o : Opv} {e : Ev} (h : TW w f o e v) (j : Nat) : v.frozen? ⟨w.heap.size + 1 + 1 + 1, j, none⟩ = false := h.kw.frozen 0 rfl j
theorem TW.name {w v : World} {f : Fl} {o : Opv} {e : Ev} (h : TW w f o e v) (x : ByteArray) : TW w f o { e with name := x.data.toList } (v.setCell ⟨w.heap.size + 1 + 1 + 1, 2, none⟩ (.string x)) := ⟨by
  have := h.kw.set 0 rfl (by omega) 2 (.string x)
  rw [evr_name] at this; exact this⟩
theorem TW.time {w v : World} {f : Fl} {o : Opv} {e : Ev} (h : TW w f o e v) (x : Int) : TW w f o { e with time := x } (v.setCell ⟨w.heap.size + 1 + 1 + 1, 3, none⟩ (.int .i64 x)) := ⟨by
  have := h.kw.set 0 rfl (by omega) 3 (.int .i64 x)
  rw [evr_time] at this; exact this⟩
theorem TW.len {w v : World} {f : Fl} {o : Opv} {e : Ev} (h : TW w f o e v) (x : Int) : TW w f o { e with len := x } (v.setCell ⟨w.heap.size + 1 + 1 + 1, 4, none⟩ (.int .i64 x)) := ⟨by
  have := h.kw.set 0 rfl (by omega) 4 (.int .i64 x)
  rw [evr_len] at this; exact this⟩
theorem TW.sum {w v : World} {f : Fl} {o : Opv} {e : Ev} (h : TW w f o e v) (d : List UInt8) (hd : e.sum.length = d.length) : TW w f o { e with sum := d } (v.setCells (w.heap.size + 1 + 1 + 1) 5 (row d).toList) := ⟨by
  have := KW.mid (t := 33) (by omega) (row d).toList 5 (evr e) h.kw 0 rfl
  rw [evr_sum e d hd] at this; exact this⟩
theorem TW.past {w v v' : World} {f : Fl} {o : Opv} {e : Ev} (h : TW w f o e v) (hb : Below v.heap.size v v') : TW w f o e v' := ⟨h.kw.past hb⟩
theorem TW.drew {w v : World} {f : Fl} {o : Opv} {e : Ev} (h : TW w f o e v) : TW w f o e v.drew := ⟨h.kw.drew⟩
theorem TW.store {w v : World} {f : Fl} {o : Opv} {e : Ev} (h : TW w f o e v) (d : List UInt8) (hd : e.sum.length = 32) (hl : d.length = 32) : (Instr.storeAt 31 (.pointer (some ⟨w.heap.size + 1 + 1 + 1, 5, none⟩)) (.agg (row d))).run Try.prog v = .ok () (v.setCells (w.heap.size + 1 + 1 + 1) 5 (row d).toList) :=
  run_storeAt_mid v _ _ 31 (row d) (h.kw.there 0 rfl 5 _ (by rw [row_size, evr_size, hd, hl]; exact Nat.le_refl _)) (by rw [row_size, hl]; exact info31) (row_one d)
theorem TW.there {w v : World} {f : Fl} {o : Opv} {e : Ev} (h : TW w f o e v) (d : List UInt8) (hd : e.sum.length = 32) (hl : d.length = 32) : v.there (w.heap.size + 1 + 1 + 1) 5 (List.map (fun b => Value.int IntKind.u8 (b.toNat : Int)) d).length :=
  h.kw.there 0 rfl 5 _ (by rw [List.length_map, evr_size, hd, hl]; exact Nat.le_refl _)
theorem row_cells (d : List UInt8) : ∀ v ∈ List.map (fun b => Value.int IntKind.u8 (b.toNat : Int)) d, v.oneCell' = true := fun v hv => by
  obtain ⟨b, _, rfl⟩ := List.mem_map.1 hv
  rfl
theorem row_info (d : List UInt8) (h : d.length = 32) : (Try.prog.info? 31).map (·.size) = some (List.map (fun b => Value.int IntKind.u8 (b.toNat : Int)) d).length := by rw [List.length_map, h]; exact info31
theorem TW.all {w v : World} {f : Fl} {o : Opv} {e : Ev} (h : TW w f o e v) (hl : e.sum.length = 32 := by first | exact z32_len | assumption) : v.cell? ⟨w.heap.size + 1, 3, none⟩ = some (.int .i64 o.tm) ∧ v.cell? ⟨w.heap.size, 2, none⟩ = some (.string f.da) ∧ Hid (∃ e, TW w f o e v ∧ e.sum.length = 32) := ⟨h.c3, h.d2, Lib.hid ⟨e, h, hl⟩⟩
theorem TW.end {w v : World} {f : Fl} {o : Opv} {e : Ev} (h : TW w f o e v) : KW w.heap.size w [(w.heap.size + 1 + 1 + 1, .cells (evr e) 33), (w.heap.size + 1 + 1, .cells (evr e) 33), (w.heap.size + 1, .cells (opr o) 27), (w.heap.size, .cells (flr f) 24)] (v.setRow (w.heap.size + 1 + 1) (evr e)) :=
  h.kw.row 1 rfl (by omega) (evr e)

set_option maxRecDepth 100000 in
set_option maxHeartbeats 4000000 in
theorem told_any (f : Fl) (o : Opv) (w : World) (hd : f.da.size ≤ 4000) :
    Calls Try.prog 31 #[.agg (flr f), .agg (opr o)] w fun e w' => e = .returned (.agg (evr (tellE f o))) ∧ Below w.heap.size w w' := by
  have hK := Lib.hid (KW.four w (.cells (flr f) 24) (.cells (opr o) 27) (.cells (evr ev0) 33) (.cells (evr ev0) 33))
  have hz := zero33
  have c0 : ((((w.alloc (.cells (flr f) 24)).alloc (.cells (opr o) 27)).alloc (.cells (evr ev0) 33))).cell? ⟨w.heap.size + 1, 0, none⟩ = some (.int .i64 o.kind) := (KW.three w _ _ _).cell 1 rfl 0 rfl
  have c1 : ((((w.alloc (.cells (flr f) 24)).alloc (.cells (opr o) 27)).alloc (.cells (evr ev0) 33))).cell? ⟨w.heap.size, 0, none⟩ = some (.int .i64 f.id) := (KW.three w _ _ _).cell 2 rfl 0 rfl
  have hD := Lib.hid (sha_len f.da.data.toList)
  have co := Lib.hid (fun v => sh.of_any f.da hd v)
  have hE : Hid (((evr ev0).setIfInBounds 0 (.int .i64 o.kind)).setIfInBounds 1 (.int .i64 f.id) = evr ⟨o.kind, f.id, [], 0, 0, z32⟩) := Lib.hid (by rw [evr_kind, evr_id]; rfl)
  have K1 : Hid (TW w f o ⟨o.kind, f.id, [], 0, 0, z32⟩ (((((w.alloc (.cells (flr f) 24)).alloc (.cells (opr o) 27)).alloc (.cells (evr ev0) 33)).alloc (.cells (evr ev0) 33)).setRow (w.heap.size + 1 + 1 + 1) (evr ⟨o.kind, f.id, [], 0, 0, z32⟩))) := Lib.hid ⟨hK.out.row 0 rfl (by omega) _⟩
  clear hd
  have hR : Hid (tellE f o = if o.kind = 1 then ⟨o.kind, f.id, [], 0, o.tx.size, z32⟩ else if o.kind = 2 then ⟨o.kind, f.id, [], o.tm, f.da.size, sh.sha f.da.data.toList⟩ else if o.kind = 3 then ⟨o.kind, f.id, [], o.tm, 0, z32⟩ else if o.kind = 4 ∨ o.kind = 5 then ⟨o.kind, f.id, o.tx.data.toList, 0, 0, z32⟩ else ⟨o.kind, f.id, [], 0, 0, z32⟩) := Lib.hid rfl
  generalize tellE f o = R at hR ⊢
  generalize sh.sha f.da.data.toList = D at *
  go_enter Try.func31, Try.ntmps31
  go_upto_region 2 with (refine wpList_store_row (by rfl) 33 (.tmp 5) (.tmp 10) rfl _ (evr ⟨o.kind, f.id, [], 0, 0, z32⟩) rfl (congrArg Value.agg hE.out) 33 _ (hK.out.at 0 rfl) (row33 _ z32_len) (evr_same _ _ z32_len z32_len) (evr_one _) ?_)
  rw [hE.out]
  clear hK c0 c1 hE
  revert K1
  generalize ((((w.alloc (.cells (flr f) 24)).alloc (.cells (opr o) 27)).alloc (.cells (evr ev0) 33)).alloc (.cells (evr ev0) 33)).setRow (w.heap.size + 1 + 1 + 1) (evr ⟨o.kind, f.id, [], 0, 0, z32⟩) = V
  intro K1
  have c0 := K1.out.c0
  by_cases h1 : o.kind = 1
  · rw [if_pos h1] at hR
    have t1 : (o.kind == 1) = true := by simpa using h1
    clear h1
    have c2 := K1.out.c2
    have e4 := K1.out.e4
    have f4 := K1.out.fr 4
    have T2 := Lib.hid (K1.out.len (o.tx.size : Int))
    have hEnd := Lib.hid (T2.out.end)
    have g0 : Hid (_ = some (Obj.cells (evr ⟨o.kind, f.id, [], 0, o.tx.size, z32⟩) 33)) := Lib.hid (T2.out.kw.at 0 rfl)
    have g1 : Hid (_ = some (Obj.cells (evr ev0) 33)) := Lib.hid (T2.out.kw.at 1 rfl)
    go_wp2_with (first
      | (refine wpList_load_row (by rfl) 33 (.tmp 5) rfl _ rfl 33 _ _ g0.out Try.underlying33 rfl (row33 _ z32_len) ?_)
      | (refine wpList_store_row (by rfl) 33 (.tmp 4) (.tmp 43) rfl _ (evr ⟨o.kind, f.id, [], 0, o.tx.size, z32⟩) rfl rfl 33 _ g1.out (row33 _ z32_len) (evr_same _ _ z32_len z32_len) (evr_one _) ?_))
    exact bodyPost_row 4 33 rfl _ rfl 33 _ _ (hEnd.out.at 1 rfl) Try.underlying33 rfl (row33 _ z32_len) rfl ⟨by rw [hR.out], hEnd.out.bel⟩
  rw [if_neg h1] at hR
  have t1 : (o.kind == 1) = false := by simpa using h1
  clear h1
  by_cases h2 : o.kind = 2
  · rw [if_pos h2] at hR
    have t2 : (o.kind == 2) = true := by simpa using h2
    clear h2
    go_upto_region 6 with fail
    have r1 := row_cells D
    have r2 := row_info D hD.out
    go_region_held3 (fun v => v.cell? ⟨w.heap.size + 1, 3, none⟩ = some (.int .i64 o.tm) ∧ v.cell? ⟨w.heap.size, 2, none⟩ = some (.string f.da) ∧ Hid (∃ e, TW w f o e v ∧ e.sum.length = 32))
      (first | exact K1.out.drew.all | exact hS2.out.all | exact (hS2.out.time o.tm).all | exact ((hS2.out.time o.tm).len (f.da.size : Int)).all | exact (((hS2.out.time o.tm).len (f.da.size : Int)).sum D (z32_len.trans hD.out.symm)).all)
      ((first
        | (go_at_call 28; refine (co.out _).mono ?_; rintro e v2 ⟨rfl, g2⟩; have hS2 := Lib.hid (K1.out.drew.past g2); clear g2; have q3 := hS2.out.e3; have p3 := hS2.out.fr 3; have q4 := hS2.out.e4; have p4 := hS2.out.fr 4; have q5 := ((hS2.out.time o.tm).len (f.da.size : Int)).there D z32_len hD.out)))
    have T2 : Hid (TW w f o ⟨o.kind, f.id, [], o.tm, f.da.size, D⟩ (((v2.setCell ⟨w.heap.size + 1 + 1 + 1, 3, none⟩ (.int .i64 o.tm)).setCell ⟨w.heap.size + 1 + 1 + 1, 4, none⟩ (.int .i64 (f.da.size : Int))).setCells (w.heap.size + 1 + 1 + 1) 5 (List.map (fun b => Value.int IntKind.u8 (b.toNat : Int)) D))) := Lib.hid (((hS2.out.time o.tm).len (f.da.size : Int)).sum D (z32_len.trans hD.out.symm))
    clear q3 p3 q4 p4 q5 hS2 r1 r2
    revert T2
    generalize ((v2.setCell ⟨w.heap.size + 1 + 1 + 1, 3, none⟩ (.int .i64 o.tm)).setCell ⟨w.heap.size + 1 + 1 + 1, 4, none⟩ (.int .i64 (f.da.size : Int))).setCells (w.heap.size + 1 + 1 + 1) 5 (List.map (fun b => Value.int IntKind.u8 (b.toNat : Int)) D) = W2
    intro T2
    have hEnd := Lib.hid (T2.out.end)
    have g0 : Hid (_ = some (Obj.cells (evr ⟨o.kind, f.id, [], o.tm, f.da.size, D⟩) 33)) := Lib.hid (T2.out.kw.at 0 rfl)
    have g1 : Hid (_ = some (Obj.cells (evr ev0) 33)) := Lib.hid (T2.out.kw.at 1 rfl)
    go_wp2_with (first
      | (refine wpList_load_row (by rfl) 33 (.tmp 5) rfl _ rfl 33 _ _ g0.out Try.underlying33 rfl (row33 _ hD.out) ?_)
      | (refine wpList_store_row (by rfl) 33 (.tmp 4) (.tmp 43) rfl _ (evr ⟨o.kind, f.id, [], o.tm, f.da.size, D⟩) rfl rfl 33 _ g1.out (row33 _ hD.out) (evr_same _ _ z32_len hD.out) (evr_one _) ?_))
    exact bodyPost_row 4 33 rfl _ rfl 33 _ _ (hEnd.out.at 1 rfl) Try.underlying33 rfl (row33 _ hD.out) rfl ⟨by rw [hR.out], hEnd.out.bel⟩
  rw [if_neg h2] at hR
  have t2 : (o.kind == 2) = false := by simpa using h2
  clear h2
  by_cases h3 : o.kind = 3
  · rw [if_pos h3] at hR
    have t3 : (o.kind == 3) = true := by simpa using h3
    clear h3
    have c3 := K1.out.c3
    have e3 := K1.out.e3
    have f3 := K1.out.fr 3
    have T2 := Lib.hid (K1.out.time o.tm)
    have hEnd := Lib.hid (T2.out.end)
    have g0 : Hid (_ = some (Obj.cells (evr ⟨o.kind, f.id, [], o.tm, 0, z32⟩) 33)) := Lib.hid (T2.out.kw.at 0 rfl)
    have g1 : Hid (_ = some (Obj.cells (evr ev0) 33)) := Lib.hid (T2.out.kw.at 1 rfl)
    go_wp2_with (first
      | (refine wpList_load_row (by rfl) 33 (.tmp 5) rfl _ rfl 33 _ _ g0.out Try.underlying33 rfl (row33 _ z32_len) ?_)
      | (refine wpList_store_row (by rfl) 33 (.tmp 4) (.tmp 43) rfl _ (evr ⟨o.kind, f.id, [], o.tm, 0, z32⟩) rfl rfl 33 _ g1.out (row33 _ z32_len) (evr_same _ _ z32_len z32_len) (evr_one _) ?_))
    exact bodyPost_row 4 33 rfl _ rfl 33 _ _ (hEnd.out.at 1 rfl) Try.underlying33 rfl (row33 _ z32_len) rfl ⟨by rw [hR.out], hEnd.out.bel⟩
  rw [if_neg h3] at hR
  have t3 : (o.kind == 3) = false := by simpa using h3
  clear h3
  have c2 := K1.out.c2
  have e2 := K1.out.e2
  have f2 := K1.out.fr 2
  have T2 := Lib.hid (K1.out.name o.tx)
  by_cases h4 : o.kind = 4
  · rw [if_pos (.inl h4)] at hR
    have t4 : (o.kind == 4) = true := by simpa using h4
    clear h4
    have hEnd := Lib.hid (T2.out.end)
    have g0 : Hid (_ = some (Obj.cells (evr ⟨o.kind, f.id, o.tx.data.toList, 0, 0, z32⟩) 33)) := Lib.hid (T2.out.kw.at 0 rfl)
    have g1 : Hid (_ = some (Obj.cells (evr ev0) 33)) := Lib.hid (T2.out.kw.at 1 rfl)
    go_wp2_with (first
      | (refine wpList_load_row (by rfl) 33 (.tmp 5) rfl _ rfl 33 _ _ g0.out Try.underlying33 rfl (row33 _ z32_len) ?_)
      | (refine wpList_store_row (by rfl) 33 (.tmp 4) (.tmp 43) rfl _ (evr ⟨o.kind, f.id, o.tx.data.toList, 0, 0, z32⟩) rfl rfl 33 _ g1.out (row33 _ z32_len) (evr_same _ _ z32_len z32_len) (evr_one _) ?_))
    exact bodyPost_row 4 33 rfl _ rfl 33 _ _ (hEnd.out.at 1 rfl) Try.underlying33 rfl (row33 _ z32_len) rfl ⟨by rw [hR.out], hEnd.out.bel⟩
  by_cases h5 : o.kind = 5
  · rw [if_pos (.inr h5)] at hR
    have t4 : (o.kind == 4) = false := by simpa using h4
    have t5 : (o.kind == 5) = true := by simpa using h5
    clear h4 h5
    have hEnd := Lib.hid (T2.out.end)
    have g0 : Hid (_ = some (Obj.cells (evr ⟨o.kind, f.id, o.tx.data.toList, 0, 0, z32⟩) 33)) := Lib.hid (T2.out.kw.at 0 rfl)
    have g1 : Hid (_ = some (Obj.cells (evr ev0) 33)) := Lib.hid (T2.out.kw.at 1 rfl)
    go_wp2_with (first
      | (refine wpList_load_row (by rfl) 33 (.tmp 5) rfl _ rfl 33 _ _ g0.out Try.underlying33 rfl (row33 _ z32_len) ?_)
      | (refine wpList_store_row (by rfl) 33 (.tmp 4) (.tmp 43) rfl _ (evr ⟨o.kind, f.id, o.tx.data.toList, 0, 0, z32⟩) rfl rfl 33 _ g1.out (row33 _ z32_len) (evr_same _ _ z32_len z32_len) (evr_one _) ?_))
    exact bodyPost_row 4 33 rfl _ rfl 33 _ _ (hEnd.out.at 1 rfl) Try.underlying33 rfl (row33 _ z32_len) rfl ⟨by rw [hR.out], hEnd.out.bel⟩
  rw [if_neg (by omega)] at hR
  have t4 : (o.kind == 4) = false := by simpa using h4
  have t5 : (o.kind == 5) = false := by simpa using h5
  clear h4 h5 T2
  have hEnd := Lib.hid (K1.out.end)
  have g0 : Hid (_ = some (Obj.cells (evr ⟨o.kind, f.id, [], 0, 0, z32⟩) 33)) := Lib.hid (K1.out.kw.at 0 rfl)
  have g1 : Hid (_ = some (Obj.cells (evr ev0) 33)) := Lib.hid (K1.out.kw.at 1 rfl)
  go_wp2_with (first
    | (refine wpList_load_row (by rfl) 33 (.tmp 5) rfl _ rfl 33 _ _ g0.out Try.underlying33 rfl (row33 _ z32_len) ?_)
    | (refine wpList_store_row (by rfl) 33 (.tmp 4) (.tmp 43) rfl _ (evr ⟨o.kind, f.id, [], 0, 0, z32⟩) rfl rfl 33 _ g1.out (row33 _ z32_len) (evr_same _ _ z32_len z32_len) (evr_one _) ?_))
  exact bodyPost_row 4 33 rfl _ rfl 33 _ _ (hEnd.out.at 1 rfl) Try.underlying33 rfl (row33 _ z32_len) rfl ⟨by rw [hR.out], hEnd.out.bel⟩
end Go.Proofs.Ytphbkbjgjicncaa
