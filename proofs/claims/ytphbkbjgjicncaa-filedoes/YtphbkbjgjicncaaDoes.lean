/-
  What an operation comes to, on a file, and the event that tells it: what Do of the program returns.
-/
import Derived.Test.YtphbkbjgjicncaaDone
import Derived.Test.YtphbkbjgjicncaaTail
namespace Go.Proofs.Ytphbkbjgjicncaa
open Go Go.RowKit

def doR (f : Fl) (L : List ByteArray) (o : Opv) (fl : Int) : Fl × List ByteArray × Ev × Int :=
  if (doneR f L o fl).2.2 = 0 then ((doneR f L o fl).1, (doneR f L o fl).2.1, tellE f o, 0) else (f, L, ev0, (doneR f L o fl).2.2)
/-- What a call comes to that answers a file, an event, and a number. -/
def Res3 (g : Fl) (code : Int) (L : List ByteArray) (E : Ev) (w : World) (e : Ending) (w' : World) : Prop :=
  ∃ a' c', e = .returned (.tuple #[.agg (flr { g with ha := a', hn := L.length, hc := c' }), .agg (evr E), .int .i64 code]) ∧ Fr w.heap.size w' a' L ∧ Below w.heap.size w w'
theorem Fr.past {B : Nat} {w v : World} {a : Option Addr} {L : List ByteArray} (h : Fr B w a L) (hb : Below w.heap.size w v) : Fr B v a L :=
  h.keep hb.size fun b _ hlt => hb.block b hlt

theorem ent31 : ∀ args w, (callFunc 31 args).run Try.prog w = .ok (.enter 31 args) w := enters_of Try.func31 (by kernel_rfl) rfl
theorem results_row3 {P : Program} {fn : Func} {p q r : Tmp} {ty ty' : TypeId} (h : fn.results = #[.cell p ty, .cell q ty', .tmp r]) (tmps : Array Value) (b b' : Nat) (hp : tmps.getD p undef = .pointer (some ⟨b, 0, none⟩)) (hq : tmps.getD q undef = .pointer (some ⟨b', 0, none⟩)) (v1 : Value) (h1 : tmps.getD r undef = v1) (w : World) (t t' : TypeId) (c c' : Array Value) (d d' : TypeDesc)
    (hg : w.heap[b]? = some (.cells c t)) (hu : P.underlying ty = some d) (hd : (match d with | .struct _ | .array _ _ => true | _ => false) = true) (hi : (P.info? ty).map (·.size) = some c.size)
    (hg' : w.heap[b']? = some (.cells c' t')) (hu' : P.underlying ty' = some d') (hd' : (match d' with | .struct _ | .array _ _ => true | _ => false) = true) (hi' : (P.info? ty').map (·.size) = some c'.size) :
    (results fn tmps).run P w = .ok (.tuple #[.agg c, .agg c', v1]) w := by
  have e1 := run_loadVar_row (P := P) w b t ty c (0, 0) d hg hu hd hi
  have e2 := run_loadVar_row (P := P) w b' t' ty' c' (0, 0) d' hg' hu' hd' hi'
  simp only [results, h]
  have hp' : tmps[p]?.getD undef = .pointer (some ⟨b, 0, none⟩) := by simpa using hp
  have hq' : tmps[q]?.getD undef = .pointer (some ⟨b', 0, none⟩) := by simpa using hq
  have h1' : tmps[r]?.getD undef = v1 := by simpa using h1
  simp [hp', hq', h1', e1, e2, asAddr]
theorem bodyPost_row3 {P : Program} {fn : Func} {R : Ending → World → Prop} {a : Act} {w : World} (p q r : Tmp) (ty ty' : TypeId) (h : fn.results = #[.cell p ty, .cell q ty', .tmp r]) (b b' : Nat) (hp : a.tmps.getD p undef = .pointer (some ⟨b, 0, none⟩)) (hq : a.tmps.getD q undef = .pointer (some ⟨b', 0, none⟩)) (v1 : Value) (h1 : a.tmps.getD r undef = v1) (t t' : TypeId) (c c' : Array Value) (d d' : TypeDesc)
    (hg : w.heap[b]? = some (.cells c t)) (hu : P.underlying ty = some d) (hd : (match d with | .struct _ | .array _ _ => true | _ => false) = true) (hi : (P.info? ty).map (·.size) = some c.size)
    (hg' : w.heap[b']? = some (.cells c' t')) (hu' : P.underlying ty' = some d') (hd' : (match d' with | .struct _ | .array _ _ => true | _ => false) = true) (hi' : (P.info? ty').map (·.size) = some c'.size)
    (hdf : a.defers = []) (hR : R (.returned (.tuple #[.agg c, .agg c', v1])) w) : bodyPost P fn R .ret a w :=
  bodyPost_ret (results_row3 h a.tmps b b' hp hq v1 h1 w t t' c c' d d' hg hu hd hi hg' hu' hd' hi') hdf hR

/-- The worlds of Do, behind 'done'. -/
structure DW (w : World) (f : Fl) (o : Opv) (b : Nat) (g : Fl) (a : Option Addr) (L : List ByteArray) (v : World) : Prop where
  kw : KW w.heap.size w [(b, .cells (flr g) 24), (w.heap.size + 1 + 1 + 1, .cells (evr ev0) 33), (w.heap.size + 1 + 1, .cells (flr fl0) 24), (w.heap.size + 1, .cells (opr o) 27), (w.heap.size, .cells (flr f) 24)] v
  fr : Fr (w.heap.size + 1 + 1 + 1 + 1) v a L
theorem DW.past {w v v' : World} {f g : Fl} {o : Opv} {b : Nat} {a : Option Addr} {L : List ByteArray} (h : DW w f o b g a L v) (hb : Below v.heap.size v v') : DW w f o b g a L v' := ⟨h.kw.past hb, h.fr.past hb⟩
theorem DW.drew {w v : World} {f g : Fl} {o : Opv} {b : Nat} {a : Option Addr} {L : List ByteArray} (h : DW w f o b g a L v) : DW w f o b g a L v.drew := ⟨h.kw.drew, h.fr.keep (Nat.le_refl _) fun _ _ _ => rfl⟩
theorem DW.two {w v : World} {f g : Fl} {o : Opv} {b : Nat} {a : Option Addr} {L : List ByteArray} (h : DW w f o b g a L v) (g' : Fl) (E : Ev) :
    KW w.heap.size w [(b, .cells (flr g) 24), (w.heap.size + 1 + 1 + 1, .cells (evr E) 33), (w.heap.size + 1 + 1, .cells (flr g') 24), (w.heap.size + 1, .cells (opr o) 27), (w.heap.size, .cells (flr f) 24)] ((v.setRow (w.heap.size + 1 + 1) (flr g')).setRow (w.heap.size + 1 + 1 + 1) (evr E)) :=
  (h.kw.row 2 rfl (by omega) (flr g')).row 1 rfl (by omega) (evr E)
theorem Fr.two {w v : World} {a : Option Addr} {L : List ByteArray} (h : Fr (w.heap.size + 1 + 1 + 1 + 1) v a L) (x y : Array Value) : Fr w.heap.size ((v.setRow (w.heap.size + 1 + 1) x).setRow (w.heap.size + 1 + 1 + 1) y) a L :=
  ((h.row (b := w.heap.size + 1 + 1) (by omega) x).row (b := w.heap.size + 1 + 1 + 1) (by omega) y).less (by omega)

set_option maxHeartbeats 4000000 in
set_option maxRecDepth 100000 in
theorem do_any (f : Fl) (o : Opv) (fl : Int) (L : List ByteArray) (w : World) (h : StrAt w.heap.size w f.ha L) (hn : f.hn = L.length) (hL : L.length ≤ 1000) (hs : ∀ y ∈ L, y.size ≤ 1099511627776) (hd : f.da.size ≤ 4000) (hx : o.tx.size ≤ 1099511627776) :
    Calls Try.prog 12 #[.agg (flr f), .agg (opr o), .int .i64 fl] w (Res3 (doR f L o fl).1 (doR f L o fl).2.2.2 (doR f L o fl).2.1 (doR f L o fl).2.2.1 w) := by
  obtain ⟨i, nm, da, se, un, ha, n, hc⟩ := f
  dsimp only at h hn hd
  subst hn
  generalize hf0 : (⟨i, nm, da, se, un, ha, L.length, hc⟩ : Fl) = f at *
  have hn : f.hn = L.length := by rw [← hf0]
  have h' : StrAt w.heap.size w f.ha L := by rw [← hf0]; exact h
  have hd' : f.da.size ≤ 4000 := by rw [← hf0]; exact hd
  have hfe := Lib.hid (fun a c => (by rw [← hf0] : ({ f with ha := a, hc := c } : Fl) = { f with ha := a, hn := L.length, hc := c }))
  clear h hd hf0
  have h := h'
  have hd := hd'
  clear h' hd'
  have cd := Lib.hid (fun (v : World) (hb : Below w.heap.size w v) => done_any f o fl L v (h.on hb) hn hL hs hd hx)
  have ct := Lib.hid (fun (v : World) => told_any f o v hd)
  have cs := Lib.hid (fun (v : World) (hb : Below w.heap.size w v) => fsep_any f L v (h.on hb) hn.symm hL)
  have hR : Hid (doR f L o fl = if (doneR f L o fl).2.2 = 0 then ((doneR f L o fl).1, (doneR f L o fl).2.1, tellE f o, 0) else (f, L, ev0, (doneR f L o fl).2.2)) := Lib.hid rfl
  have hT := Lib.hid (tellE_len f o)
  have hn' := Lib.hid hn
  generalize doR f L o fl = R at hR ⊢
  generalize doneR f L o fl = D at hR cd
  obtain ⟨g, M, code⟩ := D
  dsimp only at hR cd
  generalize tellE f o = E at *
  have hK := Lib.hid (KW.four w (.cells (flr f) 24) (.cells (opr o) 27) (.cells (flr fl0) 24) (.cells (evr ev0) 33))
  have hz := zero27
  have hz3 := zero33
  clear h hn hL hs hd hx
  go_enter Try.func12, Try.ntmps12
  go_wp2_with (first
    | (with_reducible refine wpList_load_row (by rfl) 24 (.tmp 3) rfl _ rfl 24 _ _ (hK.out.at 3 rfl) Try.underlying24 rfl (row27 _) ?_)
    | (with_reducible refine wpList_load_row (by rfl) 27 (.tmp 4) rfl _ rfl 27 _ _ (hK.out.at 2 rfl) Try.underlying27 rfl (row26 _) ?_))
  refine (cd.out _ hK.out.bel).mono ?_
  rintro e v ⟨a', c', rfl, hf, hb⟩
  have D0 : Hid (DW w f o v.heap.size { g with ha := a', hn := M.length, hc := c' } a' M ((v.alloc (.cells (flr fl0) 24)).setRow v.heap.size (flr { g with ha := a', hn := M.length, hc := c' }))) := Lib.hid ⟨((hK.out.past hb).new (.cells (flr fl0) 24)).row 0 rfl (by have := hK.out.size; have := hb.size; simp at this; omega) _, by
    have h1 := hf.less (B' := w.heap.size + 1 + 1 + 1 + 1) (by simp)
    exact h1.past (below_setRow ((Below.refl _ _).alloc (Nat.le_refl _) _) (Nat.le_refl _) _)⟩
  have hn1 : Hid ((v.alloc (.cells (flr fl0) 24)).heap[v.heap.size]? = some (.cells (flr fl0) 24)) := Lib.hid (by rw [heap_alloc_if, if_pos rfl])
  clear hf hb hK cd
  by_cases h0 : code = 0
  · subst h0
    rw [if_pos rfl] at hR
    have t1 : ((0 : Int) == 0) = true := rfl
    have t2 : ((0 : Int) != 0) = false := rfl
    clear cs
    go_upto_region 4 with (with_reducible refine wpList_store_row (by rfl) 24 (.tmp 9) (.tmp 16) rfl _ (flr { g with ha := a', hn := M.length, hc := c' }) rfl rfl 24 _ hn1.out (row27 _) (flr_same _ _) (flr_one _) ?_)
    revert D0
    clear hn1
    generalize (v.alloc (.cells (flr fl0) 24)).setRow v.heap.size (flr { g with ha := a', hn := M.length, hc := c' }) = V
    generalize v.heap.size = b
    intro D0
    refine wp_region_class_tail 4 (DW w f o b { g with ha := a', hn := M.length, hc := c' } a' M) (by kernel_rfl) (by kernel_rfl) D0.out.drew ?_
    simp only [List.take_succ_cons, List.take_zero, List.drop_succ_cons, List.drop_zero]
    refine wpQuiet_load (by rfl) 24 (.tmp 9) rfl b rfl 24 _ _ (fun u hu => hu.kw.at 0 rfl) Try.underlying24 rfl (row27 _) ?_
    refine wpQuiet_load (by rfl) 24 (.tmp 3) rfl _ rfl 24 _ _ (fun u hu => hu.kw.at 4 rfl) Try.underlying24 rfl (row27 _) ?_
    refine wpQuiet_load (by rfl) 27 (.tmp 4) rfl _ rfl 27 _ _ (fun u hu => hu.kw.at 3 rfl) Try.underlying27 rfl (row26 _) ?_
    refine wpQuiet_call2 (by rfl) 31 (.tmp 25) (.tmp 26) _ rfl ent31 _ _ rfl rfl _ (fun u hu => (ct.out u).mono (fun e u' he => ⟨he.1, hu.past he.2⟩)) ?_
    simp only [Act.put, List.setIfInBounds_toArray, List.set_cons_zero, List.set_cons_succ]
    refine wpQuiet_nil ?_
    intro u hu
    have K2 := Lib.hid (hu.two { g with ha := a', hn := M.length, hc := c' } E)
    have f2 := Lib.hid (Fr.two hu.fr (flr { g with ha := a', hn := M.length, hc := c' }) (evr E))
    have g1 : Hid (_ = some (Obj.cells (flr fl0) 24)) := Lib.hid (hu.kw.at 2 rfl)
    have g2 : Hid (_ = some (Obj.cells (evr ev0) 33)) := Lib.hid ((hu.kw.row 2 rfl (by omega) (flr { g with ha := a', hn := M.length, hc := c' })).at 1 rfl)
    clear D0 hu
    go_wp2_with (first
      | (refine wpList_store_row (by rfl) 24 (.tmp 6) (.tmp 24) rfl _ (flr { g with ha := a', hn := M.length, hc := c' }) rfl rfl 24 _ g1.out (row27 _) (flr_same _ _) (flr_one _) ?_)
      | (refine wpList_store_row (by rfl) 33 (.tmp 7) (.tmp 27) rfl _ (evr E) rfl rfl 33 _ g2.out (row33 _ hT.out) (evr_same _ _ z32_len hT.out) (evr_one _) ?_))
    exact bodyPost_row3 6 7 8 24 33 rfl _ _ rfl rfl _ rfl 24 33 _ _ _ _ (K2.out.at 2 rfl) Try.underlying24 rfl (row27 _) (K2.out.at 1 rfl) Try.underlying33 rfl (row33 _ hT.out) rfl (by rw [hR.out]; exact ⟨_, _, rfl, f2.out, K2.out.bel⟩)
  · rw [if_neg h0] at hR
    have t1 : (code == 0) = false := by simpa using h0
    have t2 : (code != 0) = true := by simpa using h0
    clear ct hT
    go_wp2_with (first
      | (with_reducible refine wpList_store_row (by rfl) 24 (.tmp 9) (.tmp 16) rfl _ (flr { g with ha := a', hn := M.length, hc := c' }) rfl rfl 24 _ hn1.out (row27 _) (flr_same _ _) (flr_one _) ?_)
      | (with_reducible refine wpList_load_row (by rfl) 24 (.tmp 3) rfl _ rfl 24 _ _ (D0.out.kw.at 4 rfl) Try.underlying24 rfl (row27 _) ?_))
    refine (cs.out _ D0.out.kw.bel).mono ?_
    rintro e v2 ⟨a2, c2, rfl, ho, hb2⟩
    rw [hfe.out a2 c2]
    have D1 := Lib.hid (D0.out.past hb2)
    have hsz := Lib.hid (D0.out.kw.lt 1 rfl)
    have f2 := Lib.hid (Fr.two ((fr_own (hn'.out ▸ ho)).less (B' := w.heap.size + 1 + 1 + 1 + 1) (by have := hsz.out; omega)) (flr { f with ha := a2, hn := L.length, hc := c2 }) (evr ev0))
    have K2 := Lib.hid (D1.out.two { f with ha := a2, hn := L.length, hc := c2 } ev0)
    have g1 : Hid (_ = some (Obj.cells (flr fl0) 24)) := Lib.hid (D1.out.kw.at 2 rfl)
    have g2 : Hid (_ = some (Obj.cells (evr ev0) 33)) := Lib.hid ((D1.out.kw.row 2 rfl (by omega) (flr { f with ha := a2, hn := L.length, hc := c2 })).at 1 rfl)
    clear D0 D1 hn1 ho hb2 hn' hfe cs
    go_wp2_with (first
      | (refine wpList_store_row (by rfl) 24 (.tmp 6) (.tmp 21) rfl _ (flr { f with ha := a2, hn := L.length, hc := c2 }) rfl rfl 24 _ g1.out (row27 _) (flr_same _ _) (flr_one _) ?_)
      | (refine wpList_store_row (by rfl) 33 (.tmp 7) (.tmp 22) rfl _ (evr ev0) rfl rfl 33 _ g2.out (row33 _ z32_len) rfl (evr_one _) ?_))
    exact bodyPost_row3 6 7 8 24 33 rfl _ _ rfl rfl _ rfl 24 33 _ _ _ _ (K2.out.at 2 rfl) Try.underlying24 rfl (row27 _) (K2.out.at 1 rfl) Try.underlying33 rfl (row33 _ z32_len) rfl (by rw [hR.out]; exact ⟨_, _, rfl, f2.out, K2.out.bel⟩)
end Go.Proofs.Ytphbkbjgjicncaa
