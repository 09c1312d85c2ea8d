/-
  What an operation makes of a file: what 'done' of the program returns.
-/
import Derived.Test.YtphbkbjgjicncaaGreatTold
import Derived.Test.YtphbkbjgjicncaaGreatMaps
import Derived.Deep.CutRange
namespace Go.Proofs.YtphbkbjgjicncaaGreat
open Go Go.RowKit

def doneR (f : Fl) (L : List ByteArray) (o : Opv) (fl : Int) : Fl × List ByteArray × Int :=
  if o.kind = 0 then (fl0, [], 4)
  else if o.kind = 1 then ((appF f o.tx).1, L, (appF f o.tx).2)
  else if o.kind = 2 then ((sealF f o.tm).1, L, (sealF f o.tm).2)
  else if o.kind = 3 then ((extF f o.tm).1, L, (extF f o.tm).2)
  else if o.kind = 4 then (f, hldL f.se o.tx L, hldC f.se o.tx L)
  else if o.kind = 5 then (f, rmv o.tx L, rlC o.tx L)
  else if o.kind = 6 then (fl0, [], mayC f fl)
  else (fl0, [], 1)

theorem as_yes (t : TypeId) (v : Value) (w : World) (h : (match Tryz.prog.underlying t with | some (.interface _) => false | some _ => true | none => false) = true) : (Instr.typeAssert (.iface t v) 20 t true).run Tryz.prog w = .ok (.tuple #[v, .bool true]) w := by
  unfold Instr.typeAssert
  cases hu : Tryz.prog.underlying t with
  | none => rw [hu] at h; cases h
  | some d =>
    rw [hu] at h
    simp only [Sem.run_bind, run_underlying hu, Result.andThen_ok]
    cases d <;> first | (cases h; done) | simp
theorem as_no (t u : TypeId) (v : Value) (w : World) (hne : t ≠ u) (h : (match Tryz.prog.underlying u with | some (.interface _) => false | some _ => true | none => false) = true) (hz : (zeroValue u).run Tryz.prog w = .ok .nilFunc w) : (Instr.typeAssert (.iface t v) 20 u true).run Tryz.prog w = .ok (.tuple #[.nilFunc, .bool false]) w := by
  unfold Instr.typeAssert
  cases hu : Tryz.prog.underlying u with
  | none => rw [hu] at h; cases h
  | some d =>
    rw [hu] at h
    simp only [Sem.run_bind, run_underlying hu, Result.andThen_ok]
    cases d <;> first | (cases h; done) | simp [hne, hz, Result.andThen]
theorem as_nil (u : TypeId) (w : World) (h : (match Tryz.prog.underlying u with | some (.interface _) => false | some _ => true | none => false) = true) (hz : (zeroValue u).run Tryz.prog w = .ok .nilFunc w) : (Instr.typeAssert .nilIface 20 u true).run Tryz.prog w = .ok (.tuple #[.nilFunc, .bool false]) w := by
  unfold Instr.typeAssert
  cases hu : Tryz.prog.underlying u with
  | none => rw [hu] at h; cases h
  | some d =>
    rw [hu] at h
    simp only [Sem.run_bind, run_underlying hu, Result.andThen_ok]
    cases d <;> first | (cases h; done) | simp [hz, Result.andThen]
theorem fn81 : (match Tryz.prog.underlying 63 with | some (.interface _) => false | some _ => true | none => false) = true := by kernel_rfl
theorem fn83 : (match Tryz.prog.underlying 66 with | some (.interface _) => false | some _ => true | none => false) = true := by kernel_rfl
theorem fn85 : (match Tryz.prog.underlying 69 with | some (.interface _) => false | some _ => true | none => false) = true := by kernel_rfl
theorem as81 (v : Value) (w : World) : (Instr.typeAssert (.iface 63 v) 20 63 true).run Tryz.prog w = .ok (.tuple #[v, .bool true]) w := as_yes 63 v w fn81
theorem as83 (v : Value) (w : World) : (Instr.typeAssert (.iface 66 v) 20 66 true).run Tryz.prog w = .ok (.tuple #[v, .bool true]) w := as_yes 66 v w fn83
theorem as85 (v : Value) (w : World) : (Instr.typeAssert (.iface 69 v) 20 69 true).run Tryz.prog w = .ok (.tuple #[v, .bool true]) w := as_yes 69 v w fn85
theorem as83_81 (v : Value) (w : World) : (Instr.typeAssert (.iface 66 v) 20 63 true).run Tryz.prog w = .ok (.tuple #[.nilFunc, .bool false]) w := as_no 66 63 v w (by decide) fn81 ((Tryz.zeroValue63 w).trans rfl)
theorem as85_81 (v : Value) (w : World) : (Instr.typeAssert (.iface 69 v) 20 63 true).run Tryz.prog w = .ok (.tuple #[.nilFunc, .bool false]) w := as_no 69 63 v w (by decide) fn81 ((Tryz.zeroValue63 w).trans rfl)
theorem as85_83 (v : Value) (w : World) : (Instr.typeAssert (.iface 69 v) 20 66 true).run Tryz.prog w = .ok (.tuple #[.nilFunc, .bool false]) w := as_no 69 66 v w (by decide) fn83 ((Tryz.zeroValue66 w).trans rfl)
theorem asn_81 (w : World) : (Instr.typeAssert .nilIface 20 63 true).run Tryz.prog w = .ok (.tuple #[.nilFunc, .bool false]) w := as_nil 63 w fn81 ((Tryz.zeroValue63 w).trans rfl)
theorem asn_83 (w : World) : (Instr.typeAssert .nilIface 20 66 true).run Tryz.prog w = .ok (.tuple #[.nilFunc, .bool false]) w := as_nil 66 w fn83 ((Tryz.zeroValue66 w).trans rfl)
theorem asn_85 (w : World) : (Instr.typeAssert .nilIface 20 69 true).run Tryz.prog w = .ok (.tuple #[.nilFunc, .bool false]) w := as_nil 69 w fn85 ((Tryz.zeroValue69 w).trans rfl)

abbrev KD (w : World) (f : Fl) (o : Opv) (g : Fl) (v : World) : Prop := KW w.heap.size w [(w.heap.size + 1 + 1, .cells (flr g) 24), (w.heap.size + 1, .cells (opr o) 31), (w.heap.size, .cells (flr f) 24)] v

set_option maxHeartbeats 4000000 in
set_option maxRecDepth 100000 in
theorem done_any (f : Fl) (o : Opv) (fl : Int) (L : List ByteArray) (w : World) (h : StrAt w.heap.size w f.ha L) (hn : f.hn = L.length) (hL : L.length ≤ 1000) (hs : ∀ y ∈ L, y.size ≤ 1099511627776) (hd : f.da.size ≤ 4000) (hx : o.tx.size ≤ 1099511627776) :
    Calls Tryz.prog 18 #[.agg (flr f), .agg (opr o), .int .i64 fl] w (Res (doneR f L o fl).1 (doneR f L o fl).2.2 (doneR f L o fl).2.1 w) := by
  have hK : Hid (KD w f o fl0 (((w.alloc (.cells (flr f) 24)).alloc (.cells (opr o) 31)).alloc (.cells (flr fl0) 24))) := Lib.hid (KW.three w _ _ _)
  have hz := zero27
  have H := Lib.hid (And.intro h (And.intro hn (And.intro hL (And.intro hs (And.intro hd hx)))))
  have hR : Hid (doneR f L o fl = if o.kind = 0 then (fl0, [], 4) else if o.kind = 1 then ((appF f o.tx).1, L, (appF f o.tx).2) else if o.kind = 2 then ((sealF f o.tm).1, L, (sealF f o.tm).2) else if o.kind = 3 then ((extF f o.tm).1, L, (extF f o.tm).2) else if o.kind = 4 then (f, hldL f.se o.tx L, hldC f.se o.tx L) else if o.kind = 5 then (f, rmv o.tx L, rlC o.tx L) else if o.kind = 6 then (fl0, [], mayC f fl) else (fl0, [], 1)) := Lib.hid rfl
  generalize doneR f L o fl = R at hR ⊢
  clear h hn hL hs hd hx
  go_enter Tryz.func18, Tryz.ntmps18
  go_upto_region 1 with fail
  go_cut [8] from 15 to 18 (fun s wx => s = opV o.kind ∧ Hid (KD w f o fl0 wx))
  case first =>
    have c0 := hK.out.drew.cell 1 rfl 0 (y := .int .i64 o.kind) rfl
    go_region_with (go_at_call 26; refine (operations_any _).mono ?_; rintro e v2 ⟨b, rfl, hb, hge, bl⟩; have hl := look_ops v2 b o.kind hb; have K2 := Lib.hid (hK.out.drew.past bl); have c2 := K2.out.cell 1 rfl 0 (y := .int .i64 o.kind) rfl)
    all_goals (go_wp2_with fail; go_meet; exact ⟨rfl, K2⟩)
  case rest =>
  obtain ⟨rfl, K⟩ := hcut
  clear hK hz
  obtain ⟨h, hn, hL, hs, hd, hx⟩ := H.out
  have H' := Lib.hid (And.intro h (And.intro hn (And.intro hL (And.intro hs (And.intro hd hx)))))
  clear h hn hL hs hd hx H
  by_cases h0 : o.kind = 0
  · rw [if_pos h0] at hR
    have hv : opV o.kind = .iface 69 (.func (.func 31) #[] #[]) := by rw [h0]; rfl
    rw [hv]
    have a1 := as85_81
    have a2 := as85_83
    have a3 := as85
    have cc := Lib.hid (fun (v : World) => exists_any f fl v)
    have hz := zero27
    go_wp2_with (with_reducible refine wpList_load_row (by rfl) 24 (.tmp 3) rfl _ rfl 24 _ _ (K.out.at 2 rfl) Tryz.underlying24 rfl (row27 _) ?_)
    refine (cc.out _).mono ?_
    rintro e v ⟨rfl, hb⟩
    have K1 := Lib.hid (K.out.past hb)
    have K2 := Lib.hid (K1.out.row 0 rfl (by omega) (flr fl0))
    clear hb
    go_wp2_with (refine wpList_store_row (by rfl) 24 (.tmp 6) (.tmp 51) rfl _ (flr fl0) rfl rfl 24 _ (K1.out.at 0 rfl) (row27 _) (flr_same _ _) (flr_one _) ?_)
    exact bodyPost_row2 6 7 24 rfl _ rfl _ rfl 24 _ _ (K2.out.at 0 rfl) Tryz.underlying24 rfl (row27 _) rfl (by rw [hR.out]; exact ⟨none, 0, rfl, .inl rfl, K2.out.bel⟩)
  rw [if_neg h0] at hR
  by_cases h1 : o.kind = 1
  · rw [if_pos h1] at hR
    have hv : opV o.kind = .iface 63 (.func (.func 11) #[] #[]) := by rw [h1]; rfl
    rw [hv]
    have a1 := as81
    have k1 := K.out.cell 1 rfl 2 (y := .string o.tx) rfl
    have cc := Lib.hid (fun (v : World) (hb : Below w.heap.size w v) => by obtain ⟨h, hn, hL, hs, hd, hx⟩ := H'.out; exact append_any f o.tx L v (h.on hb) hn hL (by omega) hx)
    go_wp2_with (with_reducible refine wpList_load_row (by rfl) 24 (.tmp 3) rfl _ rfl 24 _ _ (K.out.at 2 rfl) Tryz.underlying24 rfl (row27 _) ?_)
    refine (cc.out _ K.out.bel).mono ?_
    rintro e v ⟨a', c', rfl, hf, hb⟩
    have K1 := Lib.hid (K.out.past hb)
    have K2 := Lib.hid (K1.out.row 0 rfl (by omega) (flr { (appF f o.tx).1 with ha := a', hn := L.length, hc := c' }))
    have f2 := Lib.hid ((hf.less (B' := w.heap.size + 1 + 1 + 1) (K.out.lt 0 rfl)).row (b := w.heap.size + 1 + 1) (by omega) (flr { (appF f o.tx).1 with ha := a', hn := L.length, hc := c' }))
    clear hf hb
    go_wp2_with (refine wpList_store_row (by rfl) 24 (.tmp 6) (.tmp 30) rfl _ (flr { (appF f o.tx).1 with ha := a', hn := L.length, hc := c' }) rfl rfl 24 _ (K1.out.at 0 rfl) (row27 _) (flr_same _ _) (flr_one _) ?_)
    exact bodyPost_row2 6 7 24 rfl _ rfl _ rfl 24 _ _ (K2.out.at 0 rfl) Tryz.underlying24 rfl (row27 _) rfl (by rw [hR.out]; exact Res.fr f2.out K2.out.bel)
  rw [if_neg h1] at hR
  by_cases h2 : o.kind = 2
  · rw [if_pos h2] at hR
    have hv : opV o.kind = .iface 66 (.func (.func 32) #[] #[]) := by rw [h2]; rfl
    rw [hv]
    have a1 := as83_81
    have a2 := as83
    have k1 := K.out.cell 1 rfl 3 (y := .int .i64 o.tm) rfl
    have cc := Lib.hid (fun (v : World) (hb : Below w.heap.size w v) => by obtain ⟨h, hn, hL, hs, hd, hx⟩ := H'.out; exact seal_any f o.tm L v (h.on hb) hn hL)
    go_wp2_with (with_reducible refine wpList_load_row (by rfl) 24 (.tmp 3) rfl _ rfl 24 _ _ (K.out.at 2 rfl) Tryz.underlying24 rfl (row27 _) ?_)
    refine (cc.out _ K.out.bel).mono ?_
    rintro e v ⟨a', c', rfl, hf, hb⟩
    have K1 := Lib.hid (K.out.past hb)
    have K2 := Lib.hid (K1.out.row 0 rfl (by omega) (flr { (sealF f o.tm).1 with ha := a', hn := L.length, hc := c' }))
    have f2 := Lib.hid ((hf.less (B' := w.heap.size + 1 + 1 + 1) (K.out.lt 0 rfl)).row (b := w.heap.size + 1 + 1) (by omega) (flr { (sealF f o.tm).1 with ha := a', hn := L.length, hc := c' }))
    clear hf hb
    go_wp2_with (refine wpList_store_row (by rfl) 24 (.tmp 6) (.tmp 43) rfl _ (flr { (sealF f o.tm).1 with ha := a', hn := L.length, hc := c' }) rfl rfl 24 _ (K1.out.at 0 rfl) (row27 _) (flr_same _ _) (flr_one _) ?_)
    exact bodyPost_row2 6 7 24 rfl _ rfl _ rfl 24 _ _ (K2.out.at 0 rfl) Tryz.underlying24 rfl (row27 _) rfl (by rw [hR.out]; exact Res.fr f2.out K2.out.bel)
  rw [if_neg h2] at hR
  by_cases h3 : o.kind = 3
  · rw [if_pos h3] at hR
    have hv : opV o.kind = .iface 66 (.func (.func 33) #[] #[]) := by rw [h3]; rfl
    rw [hv]
    have a1 := as83_81
    have a2 := as83
    have k1 := K.out.cell 1 rfl 3 (y := .int .i64 o.tm) rfl
    have cc := Lib.hid (fun (v : World) (hb : Below w.heap.size w v) => by obtain ⟨h, hn, hL, hs, hd, hx⟩ := H'.out; exact extend_any f o.tm L v (h.on hb) hn hL)
    go_wp2_with (with_reducible refine wpList_load_row (by rfl) 24 (.tmp 3) rfl _ rfl 24 _ _ (K.out.at 2 rfl) Tryz.underlying24 rfl (row27 _) ?_)
    refine (cc.out _ K.out.bel).mono ?_
    rintro e v ⟨a', c', rfl, hf, hb⟩
    have K1 := Lib.hid (K.out.past hb)
    have K2 := Lib.hid (K1.out.row 0 rfl (by omega) (flr { (extF f o.tm).1 with ha := a', hn := L.length, hc := c' }))
    have f2 := Lib.hid ((hf.less (B' := w.heap.size + 1 + 1 + 1) (K.out.lt 0 rfl)).row (b := w.heap.size + 1 + 1) (by omega) (flr { (extF f o.tm).1 with ha := a', hn := L.length, hc := c' }))
    clear hf hb
    go_wp2_with (refine wpList_store_row (by rfl) 24 (.tmp 6) (.tmp 43) rfl _ (flr { (extF f o.tm).1 with ha := a', hn := L.length, hc := c' }) rfl rfl 24 _ (K1.out.at 0 rfl) (row27 _) (flr_same _ _) (flr_one _) ?_)
    exact bodyPost_row2 6 7 24 rfl _ rfl _ rfl 24 _ _ (K2.out.at 0 rfl) Tryz.underlying24 rfl (row27 _) rfl (by rw [hR.out]; exact Res.fr f2.out K2.out.bel)
  rw [if_neg h3] at hR
  by_cases h4 : o.kind = 4
  · rw [if_pos h4] at hR
    have hv : opV o.kind = .iface 63 (.func (.func 34) #[] #[]) := by rw [h4]; rfl
    rw [hv]
    have a1 := as81
    have k1 := K.out.cell 1 rfl 2 (y := .string o.tx) rfl
    have cc := Lib.hid (fun (v : World) (hb : Below w.heap.size w v) => by obtain ⟨h, hn, hL, hs, hd, hx⟩ := H'.out; exact hold_any f o.tx L v (h.on hb) hn hL hs hx)
    go_wp2_with (with_reducible refine wpList_load_row (by rfl) 24 (.tmp 3) rfl _ rfl 24 _ _ (K.out.at 2 rfl) Tryz.underlying24 rfl (row27 _) ?_)
    refine (cc.out _ K.out.bel).mono ?_
    rintro e v ⟨a', c', rfl, hf, hb⟩
    have K1 := Lib.hid (K.out.past hb)
    have K2 := Lib.hid (K1.out.row 0 rfl (by omega) (flr { f with ha := a', hn := (hldL f.se o.tx L).length, hc := c' }))
    have f2 := Lib.hid ((hf.less (B' := w.heap.size + 1 + 1 + 1) (K.out.lt 0 rfl)).row (b := w.heap.size + 1 + 1) (by omega) (flr { f with ha := a', hn := (hldL f.se o.tx L).length, hc := c' }))
    clear hf hb
    go_wp2_with (refine wpList_store_row (by rfl) 24 (.tmp 6) (.tmp 30) rfl _ (flr { f with ha := a', hn := (hldL f.se o.tx L).length, hc := c' }) rfl rfl 24 _ (K1.out.at 0 rfl) (row27 _) (flr_same _ _) (flr_one _) ?_)
    exact bodyPost_row2 6 7 24 rfl _ rfl _ rfl 24 _ _ (K2.out.at 0 rfl) Tryz.underlying24 rfl (row27 _) rfl (by rw [hR.out]; exact Res.fr f2.out K2.out.bel)
  rw [if_neg h4] at hR
  by_cases h5 : o.kind = 5
  · rw [if_pos h5] at hR
    have hv : opV o.kind = .iface 63 (.func (.func 35) #[] #[]) := by rw [h5]; rfl
    rw [hv]
    have a1 := as81
    have k1 := K.out.cell 1 rfl 2 (y := .string o.tx) rfl
    have cc := Lib.hid (fun (v : World) (hb : Below w.heap.size w v) => by obtain ⟨h, hn, hL, hs, hd, hx⟩ := H'.out; exact release_any f o.tx L v (h.on hb) hn hL)
    go_wp2_with (with_reducible refine wpList_load_row (by rfl) 24 (.tmp 3) rfl _ rfl 24 _ _ (K.out.at 2 rfl) Tryz.underlying24 rfl (row27 _) ?_)
    refine (cc.out _ K.out.bel).mono ?_
    rintro e v ⟨a', c', rfl, hf, hb⟩
    have K1 := Lib.hid (K.out.past hb)
    have K2 := Lib.hid (K1.out.row 0 rfl (by omega) (flr { f with ha := a', hn := (rmv o.tx L).length, hc := c' }))
    have f2 := Lib.hid ((hf.less (B' := w.heap.size + 1 + 1 + 1) (K.out.lt 0 rfl)).row (b := w.heap.size + 1 + 1) (by omega) (flr { f with ha := a', hn := (rmv o.tx L).length, hc := c' }))
    clear hf hb
    go_wp2_with (refine wpList_store_row (by rfl) 24 (.tmp 6) (.tmp 30) rfl _ (flr { f with ha := a', hn := (rmv o.tx L).length, hc := c' }) rfl rfl 24 _ (K1.out.at 0 rfl) (row27 _) (flr_same _ _) (flr_one _) ?_)
    exact bodyPost_row2 6 7 24 rfl _ rfl _ rfl 24 _ _ (K2.out.at 0 rfl) Tryz.underlying24 rfl (row27 _) rfl (by rw [hR.out]; exact Res.fr f2.out K2.out.bel)
  rw [if_neg h5] at hR
  by_cases h6 : o.kind = 6
  · rw [if_pos h6] at hR
    have hv : opV o.kind = .iface 69 (.func (.func 36) #[] #[]) := by rw [h6]; rfl
    rw [hv]
    have a1 := as85_81
    have a2 := as85_83
    have a3 := as85
    have cc := Lib.hid (fun (v : World) => may_any f fl v)
    have hz := zero27
    go_wp2_with (with_reducible refine wpList_load_row (by rfl) 24 (.tmp 3) rfl _ rfl 24 _ _ (K.out.at 2 rfl) Tryz.underlying24 rfl (row27 _) ?_)
    refine (cc.out _).mono ?_
    rintro e v ⟨rfl, hb⟩
    have K1 := Lib.hid (K.out.past hb)
    have K2 := Lib.hid (K1.out.row 0 rfl (by omega) (flr fl0))
    clear hb
    go_wp2_with (refine wpList_store_row (by rfl) 24 (.tmp 6) (.tmp 51) rfl _ (flr fl0) rfl rfl 24 _ (K1.out.at 0 rfl) (row27 _) (flr_same _ _) (flr_one _) ?_)
    exact bodyPost_row2 6 7 24 rfl _ rfl _ rfl 24 _ _ (K2.out.at 0 rfl) Tryz.underlying24 rfl (row27 _) rfl (by rw [hR.out]; exact ⟨none, 0, rfl, .inl rfl, K2.out.bel⟩)
  rw [if_neg h6] at hR
  have hv : opV o.kind = .nilIface := by unfold opV; simp [h0, h1, h2, h3, h4, h5, h6]
  rw [hv]
  have a1 := asn_81
  have a2 := asn_83
  have a3 := asn_85
  have hz := zero27
  have K2 := Lib.hid (K.out.row 0 rfl (by omega) (flr fl0))
  clear h0 h1 h2 h3 h4 h5 h6
  go_wp2_with (refine wpList_store_row (by rfl) 24 (.tmp 6) (.tmp 56) rfl _ (flr fl0) rfl rfl 24 _ (K.out.at 0 rfl) (row27 _) (flr_same _ _) (flr_one _) ?_)
  exact bodyPost_row2 6 7 24 rfl _ rfl _ rfl 24 _ _ (K2.out.at 0 rfl) Tryz.underlying24 rfl (row27 _) rfl (by rw [hR.out]; exact ⟨none, 0, rfl, .inl rfl, K2.out.bel⟩)
end Go.Proofs.YtphbkbjgjicncaaGreat
