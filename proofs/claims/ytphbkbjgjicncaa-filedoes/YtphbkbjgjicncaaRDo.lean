/-
  What Do of the document's answer returns: for every file and operation.
-/
import Derived.Test.YtphbkbjgjicncaaRSmall
import Derived.Test.YtphbkbjgjicncaaRHold
import Derived.Test.YtphbkbjgjicncaaSRof
import Derived.Test.YtphbkbjgjicncaaDoes
import Derived.Test.YtphbkbjgjicncaaDoReg
import Derived.Test.YtphbkbjgjicncaaRest
namespace Go.Proofs.Ytphbkbjgjicncaa
open Go Go.RowKit
set_option linter.unusedVariables false

/-- Blocks that are known, where the tape is not spoken of. -/
structure KB (B : Nat) (w : World) (L : List (Nat × Obj)) (v : World) : Prop where
  le : B ≤ w.heap.size
  bel : sh.Belo B w v
  has : ∀ x ∈ L, v.heap[x.1]? = some x.2
  nd : (L.map Prod.fst).Nodup
theorem KW.kb {B : Nat} {w v : World} {L : List (Nat × Obj)} (h : KW B w L v) : KB B w L v := ⟨h.le, sh.Belo.of h.bel, h.has, h.nd⟩
theorem KB.kb {B : Nat} {w v : World} {L : List (Nat × Obj)} (h : KB B w L v) : KB B w L v := h
theorem KB.drew {B : Nat} {w v : World} {L : List (Nat × Obj)} (h : KB B w L v) : KB B w L v.drew := ⟨h.le, ⟨h.bel.os, h.bel.output, h.bel.size, h.bel.block⟩, h.has, h.nd⟩
theorem KB.at {B : Nat} {w v : World} {L : List (Nat × Obj)} (h : KB B w L v) (i : Nat) {b : Nat} {o : Obj} (hi : L[i]? = some (b, o)) : v.heap[b]? = some o := h.has (b, o) (List.mem_of_getElem? hi)
theorem KB.size {B : Nat} {w v : World} {L : List (Nat × Obj)} (h : KB B w L v) : B ≤ v.heap.size := Nat.le_trans h.le h.bel.size
theorem KB.lt {B : Nat} {w v : World} {L : List (Nat × Obj)} (h : KB B w L v) (i : Nat) {b : Nat} {o : Obj} (hi : L[i]? = some (b, o)) : b < v.heap.size := lt_of_some (h.at i hi)
theorem KB.past {B : Nat} {w v v' : World} {L : List (Nat × Obj)} (h : KB B w L v) (hb : sh.Belo v.heap.size v v') : KB B w L v' :=
  ⟨h.le, h.bel.trans (hb.mono h.size), fun x hx => (hb.block _ (lt_of_some (h.has x hx))).trans (h.has x hx), h.nd⟩
theorem KB.new {B : Nat} {w v : World} {L : List (Nat × Obj)} (h : KB B w L v) (o : Obj) : KB B w ((v.heap.size, o) :: L) (v.alloc o) :=
  ⟨h.le, sh.Belo.alloc h.bel h.size _, fun x hx => by
    rcases List.mem_cons.1 hx with rfl | hx
    · rw [heap_alloc_if, if_pos rfl]
    · have := h.has x hx
      rw [heap_alloc_if, if_neg (Nat.ne_of_lt (lt_of_some this))]; exact this,
   List.nodup_cons.2 ⟨fun hm => by
      obtain ⟨x, hx, e⟩ := List.mem_map.1 hm
      have := lt_of_some (h.has x hx); omega, h.nd⟩⟩
/-- A block that is known because it lay there before. -/
theorem KB.row {B : Nat} {w v : World} {L : List (Nat × Obj)} (h : KB B w L v) (i : Nat) {b : Nat} {c : Array Value} {t : TypeId} (hi : L[i]? = some (b, .cells c t)) (hb : B ≤ b) (c' : Array Value) : KB B w (L.set i (b, .cells c' t)) (v.setRow b c') := by
  have hil : i < L.length := (List.getElem?_eq_some_iff.1 hi).1
  have hLi : L[i] = (b, .cells c t) := (List.getElem?_eq_some_iff.1 hi).2
  have hmap : (L.set i (b, .cells c' t)).map Prod.fst = L.map Prod.fst := by
    rw [List.map_set]
    apply List.ext_getElem (by simp)
    intro j h1 h2
    rw [List.getElem_set]
    split
    · rename_i e; subst e; simp [hLi]
    · rfl
  refine ⟨h.le, h.bel.setRow hb _, fun x hx => ?_, by rw [hmap]; exact h.nd⟩
  obtain ⟨j, hj, rfl⟩ := List.getElem_of_mem hx
  have hjl : j < L.length := by simpa using hj
  rw [List.getElem_set]
  split
  · exact setRow_heap _ _ _ _ _ _ (h.at i hi)
  · rename_i e
    have hne : L[j].1 ≠ b := by
      intro q
      have hp := List.pairwise_iff_getElem.1 h.nd
      rcases Nat.lt_or_ge i j with hij | hij
      · exact hp i j (by simpa using hil) (by simpa using hjl) hij (by simp [hLi, q])
      · exact hp j i (by simpa using hjl) (by simpa using hil) (by omega) (by simp [hLi, q])
    rw [setRow_other _ _ _ _ hne]
    exact h.has _ (List.getElem_mem hjl)
theorem KB.set {B : Nat} {w v : World} {L : List (Nat × Obj)} (h : KB B w L v) (i : Nat) {b : Nat} {c : Array Value} {t : TypeId} (hi : L[i]? = some (b, .cells c t)) (hb : B ≤ b) (j : Nat) (y : Value) : KB B w (L.set i (b, .cells (c.setIfInBounds j y) t)) (v.setCell ⟨b, j, none⟩ y) := by
  rw [setCell_eq_setRow _ _ _ _ _ _ _ (h.at i hi)]; exact h.row i hi hb _
theorem KB.cell {B : Nat} {w v : World} {L : List (Nat × Obj)} (h : KB B w L v) (i : Nat) {b : Nat} {c : Array Value} {t : TypeId} (hi : L[i]? = some (b, .cells c t)) (j : Nat) {y : Value} (hy : c[j]? = some y) : v.cell? ⟨b, j, none⟩ = some y := (cell_of_row v b j _ _ _ (h.at i hi)).trans hy
theorem KB.frozen {B : Nat} {w v : World} {L : List (Nat × Obj)} (h : KB B w L v) (i : Nat) {b : Nat} {c : Array Value} {t : TypeId} (hi : L[i]? = some (b, .cells c t)) (j : Nat) : v.frozen? ⟨b, j, none⟩ = false := frozen_row (h.at i hi) j

theorem KB.mid {B : Nat} {w : World} {b : Nat} {t : TypeId} (hb : B ≤ b) : ∀ (vs : List Value) (o : Nat) (c : Array Value) {v : World} {L : List (Nat × Obj)} (_ : KB B w L v) (i : Nat) (_ : L[i]? = some (b, .cells c t)), KB B w (L.set i (b, .cells (putA c o vs) t)) (v.setCells b o vs)
  | [], o, c, v, L, h, i, hi => by
    have : L.set i (b, .cells c t) = L := by
      have hl := (List.getElem?_eq_some_iff.1 hi)
      obtain ⟨hl, e⟩ := hl
      rw [← e, List.set_getElem_self]
    show KB B w (L.set i (b, .cells c t)) v
    rw [this]; exact h
  | x :: r, o, c, v, L, h, i, hi => by
    have h1 := h.set i hi hb o x
    have hil : i < L.length := (List.getElem?_eq_some_iff.1 hi).1
    have h2 := KB.mid (t := t) hb r (o + 1) (c.setIfInBounds o x) h1 i (by simp [hil])
    rw [List.set_set] at h2
    exact h2
theorem KB.there {B : Nat} {w v : World} {L : List (Nat × Obj)} (h : KB B w L v) (i : Nat) {b : Nat} {c : Array Value} {t : TypeId} (hi : L[i]? = some (b, .cells c t)) (o n : Nat) (hn : o + n ≤ c.size) : v.there b o n := fun j hj => by
  refine ⟨?_, frozen_row (h.at i hi) _⟩
  rw [cell_of_row v b _ _ _ _ (h.at i hi), Array.getElem?_eq_getElem (by omega)]
  rfl

/-- An operation. -/
theorem StrAt.onB {w v : World} {a : Option Addr} {L : List ByteArray} (h : StrAt w.heap.size w a L) (hb : sh.Belo w.heap.size w v) : StrAt v.heap.size v a L := by
  rcases h with h | ⟨b, o, h1, h2, h3⟩
  · exact .inl h
  · exact .inr ⟨b, o, h1, Nat.lt_of_lt_of_le h2 hb.size, fun k hk => (cell_same (hb.block b h2)).trans (h3 k hk)⟩
theorem op_store_row {P : Program} {ops : Array Oper} {Q : Exit → Act → World → Prop} {K : Act → World → Prop} {a : Act} {w : World} {i : Nat} {op : Oper} (hop : ops[i]? = some op) (hgd : op.guard = none) (ty : TypeId) (x y : Operand) (ho : op.op = .store ty x y)
    (b : Nat) (cells : Array Value) (hx : a.eval x = .pointer (some ⟨b, 0, none⟩)) (hy : a.eval y = .agg cells) (t : TypeId) (old : Array Value)
    (hg : w.heap[b]? = some (.cells old t)) (hi : (P.info? ty).map (·.size) = some cells.size) (hs : old.size = cells.size) (h1 : cells.all (·.oneCell') = true) (d : Option Tmp) (hd : op.dst = d)
    (h : K (a.put d undef) (w.setRow b cells)) : wpOp P ops Q i K a w := by
  subst hd
  refine sh.wpOp_plain hop hgd ?_
  unfold Oper.wp execOp
  simp only [ho, hx, hy, Instr.storeAt, Instr.sureAddr, Sem.run_bind, Sem.run_pure, Result.andThen_ok, run_storeVar_row w b t ty old cells hg hi hs h1]
  exact h

def RRes3 (g : Fl) (code : Int) (L : List ByteArray) (E : Ev) (w : World) (e : Ending) (w' : World) : Prop :=
  ∃ a' c', e = .returned (.tuple #[.agg (flr { g with ha := a', hn := L.length, hc := c' }), .agg (evr E), .int .i64 code]) ∧ StrAt w'.heap.size w' a' L ∧ sh.Belo w.heap.size w w'
theorem rres_same {F : FuncId} {args : Array Value} {g : Fl} {c : Int} {w : World} {n : Nat} {ha : Option Addr} {hc : Nat} (h : Calls Try.prog F args w fun e w' => e = .returned (.tuple #[.agg (flr g), .int .i64 c]) ∧ Below w.heap.size w w')
    (h1 : g.ha = ha) (h2 : g.hn = n) (h3 : g.hc = hc) : Calls Try.prog F args w fun e w' => e = .returned (.tuple #[.agg (flr { g with ha := ha, hn := n, hc := hc }), .int .i64 c]) ∧ Below w.heap.size w w' := by
  have e : ({ g with ha := ha, hn := n, hc := hc } : Fl) = g := by
    obtain ⟨i, nm, da, se, un, a, n, c⟩ := g
    dsimp only at h1 h2 h3
    subst h1 h2 h3
    rfl
  rw [e]
  exact h
theorem app_row (f : Fl) (s : ByteArray) : (appF f s).1.ha = f.ha ∧ (appF f s).1.hn = f.hn ∧ (appF f s).1.hc = f.hc := by
  unfold appF
  repeat' split
  all_goals exact ⟨rfl, rfl, rfl⟩
theorem seal_row (f : Fl) (t : Int) : (sealF f t).1.ha = f.ha ∧ (sealF f t).1.hn = f.hn ∧ (sealF f t).1.hc = f.hc := by
  unfold sealF
  repeat' split
  all_goals exact ⟨rfl, rfl, rfl⟩
theorem ext_row (f : Fl) (t : Int) : (extF f t).1.ha = f.ha ∧ (extF f t).1.hn = f.hn ∧ (extF f t).1.hc = f.hc := by
  unfold extF
  repeat' split
  all_goals exact ⟨rfl, rfl, rfl⟩
theorem doR_ok {f : Fl} {L : List ByteArray} {o : Opv} {fl : Int} (D : Fl × List ByteArray × Int) (h : doneR f L o fl = D) (h0 : D.2.2 = 0) : doR f L o fl = (D.1, D.2.1, tellE f o, 0) := by
  unfold doR; rw [h, if_pos h0]
theorem doR_no {f : Fl} {L : List ByteArray} {o : Opv} {fl : Int} (D : Fl × List ByteArray × Int) (h : doneR f L o fl = D) (h0 : D.2.2 ≠ 0) : doR f L o fl = (f, L, ev0, D.2.2) := by
  unfold doR; rw [h, if_neg h0]
/-- The blocks that are known. -/
abbrev KQ (w : World) (f : Fl) (o : Opv) (bg be : Nat) (g : Fl) (E : Ev) (v : World) : Prop := KW w.heap.size w [(be, .cells (evr E) 33), (bg, .cells (flr g) 24), (w.heap.size + 1 + 1 + 1, .cells (evr ev0) 33), (w.heap.size + 1 + 1, .cells (flr fl0) 24), (w.heap.size + 1, .cells (opr o) 27), (w.heap.size, .cells (flr f) 24)] v
theorem KQ.name {w v : World} {f g : Fl} {o : Opv} {bg be : Nat} {E : Ev} (h : KQ w f o bg be g E v) (hb : w.heap.size ≤ be) (x : ByteArray) : KQ w f o bg be g { E with name := x.data.toList } (v.setCell ⟨be, 2, none⟩ (.string x)) := by
  have := h.set 0 rfl hb 2 (.string x)
  rw [evr_name] at this; exact this
theorem KQ.time {w v : World} {f g : Fl} {o : Opv} {bg be : Nat} {E : Ev} (h : KQ w f o bg be g E v) (hb : w.heap.size ≤ be) (x : Int) : KQ w f o bg be g { E with time := x } (v.setCell ⟨be, 3, none⟩ (.int .i64 x)) := by
  have := h.set 0 rfl hb 3 (.int .i64 x)
  rw [evr_time] at this; exact this
theorem KQ.len {w v : World} {f g : Fl} {o : Opv} {bg be : Nat} {E : Ev} (h : KQ w f o bg be g E v) (hb : w.heap.size ≤ be) (x : Int) : KQ w f o bg be g { E with len := x } (v.setCell ⟨be, 4, none⟩ (.int .i64 x)) := by
  have := h.set 0 rfl hb 4 (.int .i64 x)
  rw [evr_len] at this; exact this
theorem KQ.sum {w v : World} {f g : Fl} {o : Opv} {bg be : Nat} {E : Ev} (h : KQ w f o bg be g E v) (hb : w.heap.size ≤ be) (d : List UInt8) (hd : E.sum.length = d.length) : KQ w f o bg be g { E with sum := d } (v.setCells be 5 (row d).toList) := by
  have := KW.mid (t := 33) hb (row d).toList 5 (evr E) h 0 rfl
  rw [evr_sum E d hd] at this; exact this
def HSq (ha : Option Addr) (L : List ByteArray) (a' : Option Addr) (M : List ByteArray) (B : Nat) (v : World) : Prop := (a' = ha ∧ M = L) ∨ Fr B v a' M
theorem HSq.row {ha a' : Option Addr} {L M : List ByteArray} {B b : Nat} {v : World} (h : HSq ha L a' M B v) (hb : b < B) (c : Array Value) : HSq ha L a' M B (v.setRow b c) := h.imp id (fun q => q.row hb c)
theorem HSq.set {ha a' : Option Addr} {L M : List ByteArray} {B b : Nat} {v : World} (h : HSq ha L a' M B v) (hb : b < B) (j : Nat) (y : Value) : HSq ha L a' M B (v.setCell ⟨b, j, none⟩ y) := h.imp id (fun q => q.set hb j y)
theorem HSq.drew {ha a' : Option Addr} {L M : List ByteArray} {B : Nat} {v : World} (h : HSq ha L a' M B v) : HSq ha L a' M B v.drew := h.imp id (fun q => q.keep (Nat.le_refl _) fun _ _ _ => rfl)
theorem HSq.str {ha a' : Option Addr} {L M : List ByteArray} {B : Nat} {v : World} (h : HSq ha L a' M B v) (hs : StrAt v.heap.size v ha L) : StrAt v.heap.size v a' M := by
  rcases h with ⟨rfl, rfl⟩ | h
  · exact hs
  · exact h.str

set_option maxHeartbeats 8000000 in
set_option maxRecDepth 100000 in
theorem rdo_any (f : Fl) (o : Opv) (fl : Int) (L : List ByteArray) (w : World) (h : StrAt w.heap.size w f.ha L) (hn : f.hn = L.length) (hL : L.length ≤ 200) (hs : ∀ y ∈ L, y.size ≤ 1099511627776) (hd : f.da.size ≤ 4000) (hx : o.tx.size ≤ 1099511627776) (hcc : f.hn ≤ f.hc) (hnil : f.ha = none → f.hc = 0) :
    Calls Try.prog 13 #[.agg (flr f), .agg (opr o), .int .i64 fl] w (RRes3 (doR f L o fl).1 (doR f L o fl).2.2.2 (doR f L o fl).2.1 (doR f L o fl).2.2.1 w) := by
  obtain ⟨i, nm, da, se, un, ha, n, hc⟩ := f
  dsimp only at h hn hd hcc hnil
  subst hn
  have hs0 := Lib.hid (fun (v : World) (hb : sh.Belo w.heap.size w v) => h.onB hb)
  have cA := Lib.hid (fun (v : World) (hb : Below w.heap.size w v) => rres_same (rappend_any ⟨i, nm, da, se, un, ha, L.length, hc⟩ o.tx v hd hx) (app_row _ _).1 (app_row _ _).2.1 (app_row _ _).2.2)
  have cS := Lib.hid (fun (v : World) (hb : Below w.heap.size w v) => rres_same (rseal_any ⟨i, nm, da, se, un, ha, L.length, hc⟩ o.tm v) (seal_row _ _).1 (seal_row _ _).2.1 (seal_row _ _).2.2)
  have cE := Lib.hid (fun (v : World) (hb : Below w.heap.size w v) => rres_same (rextend_any ⟨i, nm, da, se, un, ha, L.length, hc⟩ o.tm v) (ext_row _ _).1 (ext_row _ _).2.1 (ext_row _ _).2.2)
  have cH := Lib.hid (fun (v : World) (hb : Below w.heap.size w v) => rhold_any ⟨i, nm, da, se, un, ha, L.length, hc⟩ o.tx L v (h.on hb) rfl hL hs hx hcc hnil)
  have cR := Lib.hid (fun (v : World) (hb : Below w.heap.size w v) => rrelease_any ⟨i, nm, da, se, un, ha, L.length, hc⟩ o.tx L v (h.on hb) rfl hL hcc hnil)
  have cM := Lib.hid (fun (v : World) => rmay_any ⟨i, nm, da, se, un, ha, L.length, hc⟩ fl v)
  have cO := Lib.hid (fun v => sh.rof_any da hd v)
  have hD := Lib.hid (sha_len da.data.toList)
  have hDn : Hid (doneR ⟨i, nm, da, se, un, ha, L.length, hc⟩ L o fl = if o.kind = 0 then (fl0, [], 4) else if o.kind = 1 then ((appF ⟨i, nm, da, se, un, ha, L.length, hc⟩ o.tx).1, L, (appF ⟨i, nm, da, se, un, ha, L.length, hc⟩ o.tx).2) else if o.kind = 2 then ((sealF ⟨i, nm, da, se, un, ha, L.length, hc⟩ o.tm).1, L, (sealF ⟨i, nm, da, se, un, ha, L.length, hc⟩ o.tm).2) else if o.kind = 3 then ((extF ⟨i, nm, da, se, un, ha, L.length, hc⟩ o.tm).1, L, (extF ⟨i, nm, da, se, un, ha, L.length, hc⟩ o.tm).2) else if o.kind = 4 then (⟨i, nm, da, se, un, ha, L.length, hc⟩, hldL se o.tx L, hldC se o.tx L) else if o.kind = 5 then (⟨i, nm, da, se, un, ha, L.length, hc⟩, rmv o.tx L, rlC o.tx L) else if o.kind = 6 then (fl0, [], mayC ⟨i, nm, da, se, un, ha, L.length, hc⟩ fl) else (fl0, [], 1)) := Lib.hid rfl
  have hTn : Hid (tellE ⟨i, nm, da, se, un, ha, L.length, hc⟩ o = if o.kind = 1 then ⟨o.kind, i, [], 0, o.tx.size, z32⟩ else if o.kind = 2 then ⟨o.kind, i, [], o.tm, da.size, sh.sha da.data.toList⟩ else if o.kind = 3 then ⟨o.kind, i, [], o.tm, 0, z32⟩ else if o.kind = 4 ∨ o.kind = 5 then ⟨o.kind, i, o.tx.data.toList, 0, 0, z32⟩ else ⟨o.kind, i, [], 0, 0, z32⟩) := Lib.hid rfl
  have hRok := Lib.hid (@doR_ok ⟨i, nm, da, se, un, ha, L.length, hc⟩ L o fl)
  have hRno := Lib.hid (@doR_no ⟨i, nm, da, se, un, ha, L.length, hc⟩ L o fl)
  generalize doR ⟨i, nm, da, se, un, ha, L.length, hc⟩ L o fl = R at *
  generalize doneR ⟨i, nm, da, se, un, ha, L.length, hc⟩ L o fl = Dn at *
  generalize tellE ⟨i, nm, da, se, un, ha, L.length, hc⟩ o = T at *
  generalize sh.sha da.data.toList = D at *
  have K0 := Lib.hid (KW.four w (.cells (flr ⟨i, nm, da, se, un, ha, L.length, hc⟩) 24) (.cells (opr o) 27) (.cells (flr fl0) 24) (.cells (evr ev0) 33))
  have hz := zero27
  have hz3 := zero33
  have hE : Hid (((evr ev0).setIfInBounds 0 (.int .i64 o.kind)).setIfInBounds 1 (.int .i64 i) = evr ⟨o.kind, i, [], 0, 0, z32⟩) := Lib.hid (by rw [evr_kind, evr_id]; rfl)
  clear h hL hs hd hx hcc hnil
  go_enter Try.func13, Try.ntmps13
  go_upto_region 1 with fail
  revert K0
  generalize ((((w.alloc (.cells (flr ⟨i, nm, da, se, un, ha, L.length, hc⟩) 24)).alloc (.cells (opr o) 27)).alloc (.cells (flr fl0) 24)).alloc (.cells (evr ev0) 33)) = V0
  intro K0
  have hn0 : Hid ((V0.alloc (.cells (flr fl0) 24)).heap[V0.heap.size]? = some (.cells (flr fl0) 24)) := Lib.hid (by rw [heap_alloc_if, if_pos rfl])
  have hbg := Lib.hid K0.out.size
  have K1 := Lib.hid ((K0.out.new (.cells (flr fl0) 24)).row 0 rfl K0.out.size (flr ⟨i, nm, da, se, un, ha, L.length, hc⟩))
  go_upto_region 2 with (first
    | (refine wpList_load_row (by rfl) 24 (.tmp 3) rfl _ rfl 24 _ _ (K0.out.at 3 rfl) Try.underlying24 rfl (row27 _) ?_)
    | (refine wpList_store_row (by rfl) 24 (.tmp 9) (.tmp 12) rfl _ (flr ⟨i, nm, da, se, un, ha, L.length, hc⟩) rfl rfl 24 _ hn0.out (row27 _) (flr_same _ _) (flr_one _) ?_))
  clear hn0 K0
  revert K1 hbg
  generalize (V0.alloc (.cells (flr fl0) 24)).setRow V0.heap.size (flr ⟨i, nm, da, se, un, ha, L.length, hc⟩) = V1
  generalize V0.heap.size = bg
  intro hbg K1
  have hn0 : Hid ((V1.alloc (.cells (evr ev0) 33)).heap[V1.heap.size]? = some (.cells (evr ev0) 33)) := Lib.hid (by rw [heap_alloc_if, if_pos rfl])
  have hbe := Lib.hid K1.out.size
  have K2 : Hid (KQ w ⟨i, nm, da, se, un, ha, L.length, hc⟩ o bg V1.heap.size ⟨i, nm, da, se, un, ha, L.length, hc⟩ ⟨o.kind, i, [], 0, 0, z32⟩ _) := Lib.hid ((K1.out.new (.cells (evr ev0) 33)).row 0 rfl K1.out.size (evr ⟨o.kind, i, [], 0, 0, z32⟩))
  have c0 := K1.out.cell 3 rfl 0 (y := .int .i64 o.kind) rfl
  have d0 := K1.out.cell 4 rfl 0 (y := .int .i64 i) rfl
  go_upto_region 4 with (refine wpList_store_row (by rfl) 33 (.tmp 11) (.tmp 17) rfl _ (evr ⟨o.kind, i, [], 0, 0, z32⟩) rfl (congrArg Value.agg hE.out) 33 _ hn0.out (row33 _ z32_len) (evr_same _ _ z32_len z32_len) (evr_one _) ?_)
  rw [hE.out]
  clear hn0 c0 d0 hE K1
  revert K2 hbe
  generalize (V1.alloc (.cells (evr ev0) 33)).setRow V1.heap.size (evr ⟨o.kind, i, [], 0, 0, z32⟩) = V2
  generalize V1.heap.size = be
  intro hbe K2
  have c0 := K2.out.cell 4 rfl 0 (y := .int .i64 o.kind) rfl
  by_cases q0 : o.kind = 0
  · have t0 : (o.kind == 0) = true := by simpa using q0
    have hDk : Hid (Dn = (fl0, [], 4)) := Lib.hid (by rw [hDn.out, if_pos q0])
    clear q0 cA cS cE cH cR cM cO hDn hTn
    go_upto_region 27 with fail
    have Kf := Lib.hid ((K2.out.kb.row 3 rfl (by omega) (flr (⟨i, nm, da, se, un, ha, L.length, hc⟩ : Fl))).row 2 rfl (by omega) (evr ev0))
    have g1 : Hid (_ = some (Obj.cells (flr fl0) 24)) := Lib.hid (K2.out.at 3 rfl)
    have g2 : Hid (_ = some (Obj.cells (evr ev0) 33)) := Lib.hid ((K2.out.row 3 rfl (by omega) (flr (⟨i, nm, da, se, un, ha, L.length, hc⟩ : Fl))).at 2 rfl)
    have g5 : Hid (_ = some (Obj.cells (flr (⟨i, nm, da, se, un, ha, L.length, hc⟩ : Fl)) 24)) := Lib.hid (K2.out.at 5 rfl)
    have hsF := Lib.hid (hs0.out _ Kf.out.bel)
    clear K2
    go_wp2_with (first
      | (refine wpList_load_row (by rfl) 24 (.tmp 3) rfl _ rfl 24 _ _ g5.out Try.underlying24 rfl (row27 _) ?_)
      | (refine wpList_store_row (by rfl) 24 (.tmp 6) (.tmp 99) rfl _ (flr (⟨i, nm, da, se, un, ha, L.length, hc⟩ : Fl)) rfl rfl 24 _ (g1.out) (row27 _) (flr_same _ _) (flr_one _) ?_)
      | (refine wpList_store_row (by rfl) 33 (.tmp 7) (.tmp 100) rfl _ (evr ev0) rfl rfl 33 _ (g2.out) (row33 _ z32_len) (evr_same _ _ z32_len z32_len) (evr_one _) ?_))
    exact bodyPost_row3 6 7 8 24 33 rfl _ _ rfl rfl _ rfl 24 33 _ _ _ _ (Kf.out.at 3 rfl) Try.underlying24 rfl (row27 _) (Kf.out.at 2 rfl) Try.underlying33 rfl (row33 _ z32_len) rfl (by rw [hRno.out _ hDk.out (show (4 : Int) ≠ 0 by decide)]; exact ⟨ha, hc, rfl, hsF.out, Kf.out.bel⟩)
  have p0 := Lib.hid q0
  clear q0
  by_cases q1 : o.kind = 1
  · have t0 : (o.kind == 0) = false := by simpa using p0.out
    have t1 : (o.kind == 1) = true := by simpa using q1
    have hDk : Hid (Dn = ((appF (⟨i, nm, da, se, un, ha, L.length, hc⟩ : Fl) o.tx).1, L, (appF (⟨i, nm, da, se, un, ha, L.length, hc⟩ : Fl) o.tx).2)) := Lib.hid (by rw [hDn.out, if_neg p0.out, if_pos q1])
    have hTk : Hid (T = ⟨o.kind, i, [], 0, (o.tx.size : Int), z32⟩) := Lib.hid (by rw [hTn.out, if_pos q1])
    clear q1 hDn hTn cE cH cM cO cR cS
    generalize appF (⟨i, nm, da, se, un, ha, L.length, hc⟩ : Fl) o.tx = A at *
    obtain ⟨gA, kA⟩ := A
    dsimp only at hDk
    have c2 := K2.out.cell 4 rfl 2 (y := .string o.tx) rfl
    go_wp2_with (refine wpList_load_row (by rfl) 24 (.tmp 3) rfl _ rfl 24 _ _ (K2.out.at 5 rfl) Try.underlying24 rfl (row27 _) ?_)
    refine (cA.out _ K2.out.bel).mono ?_
    rintro e v ⟨rfl, hb⟩
    have K3 := Lib.hid (K2.out.past hb)
    clear hb cA K2 c0 c2
    have K4 : Hid (KQ w (⟨i, nm, da, se, un, ha, L.length, hc⟩ : Fl) o bg be (⟨gA.id, gA.nm, gA.da, gA.se, gA.un, ha, L.length, hc⟩ : Fl) (⟨o.kind, i, [], 0, 0, z32⟩ : Ev) (v.setRow bg (flr (⟨gA.id, gA.nm, gA.da, gA.se, gA.un, ha, L.length, hc⟩ : Fl)))) := Lib.hid (K3.out.row 1 rfl hbg.out (flr (⟨gA.id, gA.nm, gA.da, gA.se, gA.un, ha, L.length, hc⟩ : Fl)))
    go_upto_region 9 with (refine wpList_store_row (by rfl) 24 (.tmp 9) (.tmp 29) rfl _ (flr (⟨gA.id, gA.nm, gA.da, gA.se, gA.un, ha, L.length, hc⟩ : Fl)) rfl rfl 24 _ (K3.out.at 1 rfl) (row27 _) (flr_same _ _) (flr_one _) ?_)
    revert K4
    clear K3
    generalize v.setRow bg (flr (⟨gA.id, gA.nm, gA.da, gA.se, gA.un, ha, L.length, hc⟩ : Fl)) = V4
    intro K4
    have c2 := K4.out.cell 4 rfl 2 (y := .string o.tx) rfl
    have e4 := K4.out.cell 0 rfl 4 (y := .int .i64 0) (evr4 _)
    have f4 := K4.out.frozen 0 rfl 4
    have K5 := Lib.hid (KQ.len K4.out hbe.out (o.tx.size : Int))
    go_upto_region 27 with fail
    revert K5
    clear K4 c2 e4 f4
    generalize V4.setCell ⟨be, 4, none⟩ (.int .i64 (o.tx.size : Int)) = V5
    intro K5
    by_cases h0 : kA = 0
    · subst h0
      have t9 : ((0 : Int) != 0) = false := rfl
      go_upto_region 29 with fail
      have Kd := Lib.hid K5.out.kb.drew
      have K2r := Lib.hid (Kd.out.row 3 rfl (by omega) (flr (⟨gA.id, gA.nm, gA.da, gA.se, gA.un, ha, L.length, hc⟩ : Fl)))
      have Kf := Lib.hid (K2r.out.row 2 rfl (by omega) (evr (⟨o.kind, i, [], 0, (o.tx.size : Int), z32⟩ : Ev)))
      have g1 : Hid (_ = some (Obj.cells (flr fl0) 24)) := Lib.hid (Kd.out.at 3 rfl)
      have g2 : Hid (_ = some (Obj.cells (evr ev0) 33)) := Lib.hid (K2r.out.at 2 rfl)
      have hsF : Hid (StrAt _ _ ha _) := Lib.hid (hs0.out _ Kf.out.bel)
      clear K5
      refine wp_region_any (by kernel_rfl) ?_
      change wpAny Try.prog .any _ _ 5 _ _ V5.drew
      refine any_two (i := 0) (k := 1) (by kernel_rfl) ?_ ?_
      · refine op_val rfl (by with_unfolding_all rfl) (some 102) rfl _ (x_load_row 24 (.tmp 9) rfl bg rfl 24 (flr (⟨gA.id, gA.nm, gA.da, gA.se, gA.un, ha, L.length, hc⟩ : Fl)) _ (Kd.out.at 1 rfl) Try.underlying24 rfl (row27 _)) ?_
        simp only [Act.put, List.setIfInBounds_toArray, List.set_cons_zero, List.set_cons_succ]
        refine any_two (i := 1) (k := 2) (by kernel_rfl) ?_ ?_
        · refine op_val rfl (by with_unfolding_all rfl) (some 103) rfl _ (x_load_row 33 (.tmp 11) rfl be rfl 33 (evr (⟨o.kind, i, [], 0, (o.tx.size : Int), z32⟩ : Ev)) _ (Kd.out.at 0 rfl) Try.underlying33 rfl (row33 _ z32_len)) ?_
          simp only [Act.put, List.setIfInBounds_toArray, List.set_cons_zero, List.set_cons_succ]
          refine any_one (i := 2) (by kernel_rfl) ?_
          refine op_store_row rfl rfl 24 (.tmp 6) (.tmp 102) rfl _ (flr (⟨gA.id, gA.nm, gA.da, gA.se, gA.un, ha, L.length, hc⟩ : Fl)) rfl rfl 24 _ g1.out (row27 _) (flr_same _ _) (flr_one _) none rfl ?_
          simp only [Act.put]
          refine any_one (i := 3) (by kernel_rfl) ?_
          refine op_store_row rfl rfl 33 (.tmp 7) (.tmp 103) rfl _ (evr (⟨o.kind, i, [], 0, (o.tx.size : Int), z32⟩ : Ev)) rfl rfl 33 _ g2.out (row33 _ z32_len) (evr_same _ _ z32_len z32_len) (evr_one _) none rfl ?_
          simp only [Act.put]
          refine any_one (i := 4) (by kernel_rfl) ?_
          refine op_val rfl (by with_unfolding_all rfl) (some 8) rfl _ (x_move _ (.inr rfl) (.int .i64 0) rfl) ?_
          simp only [Act.put, List.setIfInBounds_toArray, List.set_cons_zero, List.set_cons_succ]
          refine any_none (by kernel_rfl) ?_
          clear Kd K2r g1 g2
          go_wp2_with fail
          exact bodyPost_row3 6 7 8 24 33 rfl _ _ rfl rfl _ rfl 24 33 _ _ _ _ (Kf.out.at 3 rfl) Try.underlying24 rfl (row27 _) (Kf.out.at 2 rfl) Try.underlying33 rfl (row33 _ z32_len) rfl (by rw [hRok.out _ hDk.out rfl, hTk.out]; exact ⟨ha, hc, rfl, hsF.out, Kf.out.bel⟩)
        · refine op_store_row rfl rfl 24 (.tmp 6) (.tmp 102) rfl _ (flr (⟨gA.id, gA.nm, gA.da, gA.se, gA.un, ha, L.length, hc⟩ : Fl)) rfl rfl 24 _ g1.out (row27 _) (flr_same _ _) (flr_one _) none rfl ?_
          simp only [Act.put]
          refine any_one (i := 1) (by kernel_rfl) ?_
          refine op_val rfl (by with_unfolding_all rfl) (some 103) rfl _ (x_load_row 33 (.tmp 11) rfl be rfl 33 (evr (⟨o.kind, i, [], 0, (o.tx.size : Int), z32⟩ : Ev)) _ (K2r.out.at 0 rfl) Try.underlying33 rfl (row33 _ z32_len)) ?_
          simp only [Act.put, List.setIfInBounds_toArray, List.set_cons_zero, List.set_cons_succ]
          refine any_one (i := 3) (by kernel_rfl) ?_
          refine op_store_row rfl rfl 33 (.tmp 7) (.tmp 103) rfl _ (evr (⟨o.kind, i, [], 0, (o.tx.size : Int), z32⟩ : Ev)) rfl rfl 33 _ g2.out (row33 _ z32_len) (evr_same _ _ z32_len z32_len) (evr_one _) none rfl ?_
          simp only [Act.put]
          refine any_one (i := 4) (by kernel_rfl) ?_
          refine op_val rfl (by with_unfolding_all rfl) (some 8) rfl _ (x_move _ (.inr rfl) (.int .i64 0) rfl) ?_
          simp only [Act.put, List.setIfInBounds_toArray, List.set_cons_zero, List.set_cons_succ]
          refine any_none (by kernel_rfl) ?_
          clear Kd K2r g1 g2
          go_wp2_with fail
          exact bodyPost_row3 6 7 8 24 33 rfl _ _ rfl rfl _ rfl 24 33 _ _ _ _ (Kf.out.at 3 rfl) Try.underlying24 rfl (row27 _) (Kf.out.at 2 rfl) Try.underlying33 rfl (row33 _ z32_len) rfl (by rw [hRok.out _ hDk.out rfl, hTk.out]; exact ⟨ha, hc, rfl, hsF.out, Kf.out.bel⟩)
      · refine op_val rfl (by with_unfolding_all rfl) (some 103) rfl _ (x_load_row 33 (.tmp 11) rfl be rfl 33 (evr (⟨o.kind, i, [], 0, (o.tx.size : Int), z32⟩ : Ev)) _ (Kd.out.at 0 rfl) Try.underlying33 rfl (row33 _ z32_len)) ?_
        simp only [Act.put, List.setIfInBounds_toArray, List.set_cons_zero, List.set_cons_succ]
        refine any_one (i := 0) (by kernel_rfl) ?_
        refine op_val rfl (by with_unfolding_all rfl) (some 102) rfl _ (x_load_row 24 (.tmp 9) rfl bg rfl 24 (flr (⟨gA.id, gA.nm, gA.da, gA.se, gA.un, ha, L.length, hc⟩ : Fl)) _ (Kd.out.at 1 rfl) Try.underlying24 rfl (row27 _)) ?_
        simp only [Act.put, List.setIfInBounds_toArray, List.set_cons_zero, List.set_cons_succ]
        refine any_one (i := 2) (by kernel_rfl) ?_
        refine op_store_row rfl rfl 24 (.tmp 6) (.tmp 102) rfl _ (flr (⟨gA.id, gA.nm, gA.da, gA.se, gA.un, ha, L.length, hc⟩ : Fl)) rfl rfl 24 _ g1.out (row27 _) (flr_same _ _) (flr_one _) none rfl ?_
        simp only [Act.put]
        refine any_one (i := 3) (by kernel_rfl) ?_
        refine op_store_row rfl rfl 33 (.tmp 7) (.tmp 103) rfl _ (evr (⟨o.kind, i, [], 0, (o.tx.size : Int), z32⟩ : Ev)) rfl rfl 33 _ g2.out (row33 _ z32_len) (evr_same _ _ z32_len z32_len) (evr_one _) none rfl ?_
        simp only [Act.put]
        refine any_one (i := 4) (by kernel_rfl) ?_
        refine op_val rfl (by with_unfolding_all rfl) (some 8) rfl _ (x_move _ (.inr rfl) (.int .i64 0) rfl) ?_
        simp only [Act.put, List.setIfInBounds_toArray, List.set_cons_zero, List.set_cons_succ]
        refine any_none (by kernel_rfl) ?_
        clear Kd K2r g1 g2
        go_wp2_with fail
        exact bodyPost_row3 6 7 8 24 33 rfl _ _ rfl rfl _ rfl 24 33 _ _ _ _ (Kf.out.at 3 rfl) Try.underlying24 rfl (row27 _) (Kf.out.at 2 rfl) Try.underlying33 rfl (row33 _ z32_len) rfl (by rw [hRok.out _ hDk.out rfl, hTk.out]; exact ⟨ha, hc, rfl, hsF.out, Kf.out.bel⟩)
    have t9 : (kA != 0) = true := by simpa using h0
    have h1 := Lib.hid h0
    clear h0
    have Kf := Lib.hid ((K5.out.kb.row 3 rfl (by omega) (flr (⟨i, nm, da, se, un, ha, L.length, hc⟩ : Fl))).row 2 rfl (by omega) (evr ev0))
    have g1 : Hid (_ = some (Obj.cells (flr fl0) 24)) := Lib.hid (K5.out.at 3 rfl)
    have g2 : Hid (_ = some (Obj.cells (evr ev0) 33)) := Lib.hid ((K5.out.row 3 rfl (by omega) (flr (⟨i, nm, da, se, un, ha, L.length, hc⟩ : Fl))).at 2 rfl)
    have g5 : Hid (_ = some (Obj.cells (flr (⟨i, nm, da, se, un, ha, L.length, hc⟩ : Fl)) 24)) := Lib.hid (K5.out.at 5 rfl)
    have hsF := Lib.hid (hs0.out _ Kf.out.bel)
    clear K5
    go_wp2_with (first
      | (refine wpList_load_row (by rfl) 24 (.tmp 3) rfl _ rfl 24 _ _ g5.out Try.underlying24 rfl (row27 _) ?_)
      | (refine wpList_store_row (by rfl) 24 (.tmp 6) (.tmp 99) rfl _ (flr (⟨i, nm, da, se, un, ha, L.length, hc⟩ : Fl)) rfl rfl 24 _ (g1.out) (row27 _) (flr_same _ _) (flr_one _) ?_)
      | (refine wpList_store_row (by rfl) 33 (.tmp 7) (.tmp 100) rfl _ (evr ev0) rfl rfl 33 _ (g2.out) (row33 _ z32_len) (evr_same _ _ z32_len z32_len) (evr_one _) ?_))
    exact bodyPost_row3 6 7 8 24 33 rfl _ _ rfl rfl _ rfl 24 33 _ _ _ _ (Kf.out.at 3 rfl) Try.underlying24 rfl (row27 _) (Kf.out.at 2 rfl) Try.underlying33 rfl (row33 _ z32_len) rfl (by rw [hRno.out _ hDk.out h1.out]; exact ⟨ha, hc, rfl, hsF.out, Kf.out.bel⟩)
  have p1 := Lib.hid q1
  clear q1
  by_cases q2 : o.kind = 2
  · have t0 : (o.kind == 0) = false := by simpa using p0.out
    have t1 : (o.kind == 1) = false := by simpa using p1.out
    have t2 : (o.kind == 2) = true := by simpa using q2
    have hDk : Hid (Dn = ((sealF (⟨i, nm, da, se, un, ha, L.length, hc⟩ : Fl) o.tm).1, L, (sealF (⟨i, nm, da, se, un, ha, L.length, hc⟩ : Fl) o.tm).2)) := Lib.hid (by rw [hDn.out, if_neg p0.out, if_neg p1.out, if_pos q2])
    have hTk : Hid (T = ⟨o.kind, i, [], o.tm, (da.size : Int), D⟩) := Lib.hid (by rw [hTn.out, if_neg p1.out, if_pos q2])
    clear q2 hDn hTn cA cE cH cM cR
    generalize sealF (⟨i, nm, da, se, un, ha, L.length, hc⟩ : Fl) o.tm = A at *
    obtain ⟨gA, kA⟩ := A
    dsimp only at hDk
    have c3 := K2.out.cell 4 rfl 3 (y := .int .i64 o.tm) rfl
    go_wp2_with (refine wpList_load_row (by rfl) 24 (.tmp 3) rfl _ rfl 24 _ _ (K2.out.at 5 rfl) Try.underlying24 rfl (row27 _) ?_)
    refine (cS.out _ K2.out.bel).mono ?_
    rintro e v ⟨rfl, hb⟩
    have K3 := Lib.hid (K2.out.past hb)
    clear hb cS K2 c0 c3
    have K4 : Hid (KQ w (⟨i, nm, da, se, un, ha, L.length, hc⟩ : Fl) o bg be (⟨gA.id, gA.nm, gA.da, gA.se, gA.un, ha, L.length, hc⟩ : Fl) (⟨o.kind, i, [], 0, 0, z32⟩ : Ev) (v.setRow bg (flr (⟨gA.id, gA.nm, gA.da, gA.se, gA.un, ha, L.length, hc⟩ : Fl)))) := Lib.hid (K3.out.row 1 rfl hbg.out (flr (⟨gA.id, gA.nm, gA.da, gA.se, gA.un, ha, L.length, hc⟩ : Fl)))
    go_upto_region 12 with (refine wpList_store_row (by rfl) 24 (.tmp 9) (.tmp 42) rfl _ (flr (⟨gA.id, gA.nm, gA.da, gA.se, gA.un, ha, L.length, hc⟩ : Fl)) rfl rfl 24 _ (K3.out.at 1 rfl) (row27 _) (flr_same _ _) (flr_one _) ?_)
    revert K4
    clear K3
    generalize v.setRow bg (flr (⟨gA.id, gA.nm, gA.da, gA.se, gA.un, ha, L.length, hc⟩ : Fl)) = V4
    intro K4
    have c3 := K4.out.cell 4 rfl 3 (y := .int .i64 o.tm) rfl
    have e3 := K4.out.cell 0 rfl 3 (y := .int .i64 0) (evr3 _)
    have f3 := K4.out.frozen 0 rfl 3
    have K5 := Lib.hid (KQ.time K4.out hbe.out o.tm)
    go_upto_region 13 with fail
    revert K5
    clear K4 c3 e3 f3
    generalize V4.setCell ⟨be, 3, none⟩ (.int .i64 o.tm) = V5
    intro K5
    have d2 := K5.out.cell 5 rfl 2 (y := .string da) rfl
    have e4 := K5.out.cell 0 rfl 4 (y := .int .i64 0) (evr4 _)
    have f4 := K5.out.frozen 0 rfl 4
    have K6 := Lib.hid (KQ.len K5.out hbe.out (da.size : Int))
    go_upto_region 14 with fail
    revert K6
    clear K5 d2 e4 f4
    generalize V5.setCell ⟨be, 4, none⟩ (.int .i64 (da.size : Int)) = V6
    intro K6
    have d2 := K6.out.cell 5 rfl 2 (y := .string da) rfl
    go_wp2_with fail
    refine (cO.out _).mono ?_
    rintro e v2 ⟨rfl, hb⟩
    have K7 := Lib.hid (K6.out.kb.past hb)
    clear K6 hb d2 cO
    have q5 : Hid (v2.there be 5 (sh.row D).size) := Lib.hid (K7.out.there 0 rfl 5 _ (by rw [row_size, evr_size, hD.out]; exact Nat.le_refl _))
    have r2 : Hid ((Try.prog.info? 31).map (·.size) = some (sh.row D).size) := Lib.hid (by rw [row_size, hD.out]; exact info31)
    have K8 : Hid (KB w.heap.size w [(be, .cells (evr ⟨o.kind, i, [], o.tm, (da.size : Int), D⟩) 33), _, _, _, _, _] (v2.setCells be 5 (sh.row D).toList)) := Lib.hid (by
      have h9 := KB.mid (t := 33) hbe.out (sh.row D).toList 5 _ K7.out 0 rfl
      rw [evr_sum _ D (z32_len.trans hD.out.symm)] at h9
      exact h9)
    go_upto_region 27 with (refine wpList_store_mid (by rfl) 31 (.tmp 54) (.tmp 53) rfl be 5 (sh.row D) rfl rfl q5.out r2.out (row_one D) ?_)
    revert K8
    clear K7 r2 q5
    generalize v2.setCells be 5 (sh.row D).toList = V8
    intro K8
    by_cases h0 : kA = 0
    · subst h0
      have t9 : ((0 : Int) != 0) = false := rfl
      go_upto_region 29 with fail
      have Kd := Lib.hid K8.out.kb.drew
      have K2r := Lib.hid (Kd.out.row 3 rfl (by omega) (flr (⟨gA.id, gA.nm, gA.da, gA.se, gA.un, ha, L.length, hc⟩ : Fl)))
      have Kf := Lib.hid (K2r.out.row 2 rfl (by omega) (evr (⟨o.kind, i, [], o.tm, (da.size : Int), D⟩ : Ev)))
      have g1 : Hid (_ = some (Obj.cells (flr fl0) 24)) := Lib.hid (Kd.out.at 3 rfl)
      have g2 : Hid (_ = some (Obj.cells (evr ev0) 33)) := Lib.hid (K2r.out.at 2 rfl)
      have hsF : Hid (StrAt _ _ ha _) := Lib.hid (hs0.out _ Kf.out.bel)
      clear K8
      refine wp_region_any (by kernel_rfl) ?_
      change wpAny Try.prog .any _ _ 5 _ _ V8.drew
      refine any_two (i := 0) (k := 1) (by kernel_rfl) ?_ ?_
      · refine op_val rfl (by with_unfolding_all rfl) (some 102) rfl _ (x_load_row 24 (.tmp 9) rfl bg rfl 24 (flr (⟨gA.id, gA.nm, gA.da, gA.se, gA.un, ha, L.length, hc⟩ : Fl)) _ (Kd.out.at 1 rfl) Try.underlying24 rfl (row27 _)) ?_
        simp only [Act.put, List.setIfInBounds_toArray, List.set_cons_zero, List.set_cons_succ]
        refine any_two (i := 1) (k := 2) (by kernel_rfl) ?_ ?_
        · refine op_val rfl (by with_unfolding_all rfl) (some 103) rfl _ (x_load_row 33 (.tmp 11) rfl be rfl 33 (evr (⟨o.kind, i, [], o.tm, (da.size : Int), D⟩ : Ev)) _ (Kd.out.at 0 rfl) Try.underlying33 rfl (row33 _ hD.out)) ?_
          simp only [Act.put, List.setIfInBounds_toArray, List.set_cons_zero, List.set_cons_succ]
          refine any_one (i := 2) (by kernel_rfl) ?_
          refine op_store_row rfl rfl 24 (.tmp 6) (.tmp 102) rfl _ (flr (⟨gA.id, gA.nm, gA.da, gA.se, gA.un, ha, L.length, hc⟩ : Fl)) rfl rfl 24 _ g1.out (row27 _) (flr_same _ _) (flr_one _) none rfl ?_
          simp only [Act.put]
          refine any_one (i := 3) (by kernel_rfl) ?_
          refine op_store_row rfl rfl 33 (.tmp 7) (.tmp 103) rfl _ (evr (⟨o.kind, i, [], o.tm, (da.size : Int), D⟩ : Ev)) rfl rfl 33 _ g2.out (row33 _ hD.out) (evr_same _ _ z32_len hD.out) (evr_one _) none rfl ?_
          simp only [Act.put]
          refine any_one (i := 4) (by kernel_rfl) ?_
          refine op_val rfl (by with_unfolding_all rfl) (some 8) rfl _ (x_move _ (.inr rfl) (.int .i64 0) rfl) ?_
          simp only [Act.put, List.setIfInBounds_toArray, List.set_cons_zero, List.set_cons_succ]
          refine any_none (by kernel_rfl) ?_
          clear Kd K2r g1 g2
          go_wp2_with fail
          exact bodyPost_row3 6 7 8 24 33 rfl _ _ rfl rfl _ rfl 24 33 _ _ _ _ (Kf.out.at 3 rfl) Try.underlying24 rfl (row27 _) (Kf.out.at 2 rfl) Try.underlying33 rfl (row33 _ hD.out) rfl (by rw [hRok.out _ hDk.out rfl, hTk.out]; exact ⟨ha, hc, rfl, hsF.out, Kf.out.bel⟩)
        · refine op_store_row rfl rfl 24 (.tmp 6) (.tmp 102) rfl _ (flr (⟨gA.id, gA.nm, gA.da, gA.se, gA.un, ha, L.length, hc⟩ : Fl)) rfl rfl 24 _ g1.out (row27 _) (flr_same _ _) (flr_one _) none rfl ?_
          simp only [Act.put]
          refine any_one (i := 1) (by kernel_rfl) ?_
          refine op_val rfl (by with_unfolding_all rfl) (some 103) rfl _ (x_load_row 33 (.tmp 11) rfl be rfl 33 (evr (⟨o.kind, i, [], o.tm, (da.size : Int), D⟩ : Ev)) _ (K2r.out.at 0 rfl) Try.underlying33 rfl (row33 _ hD.out)) ?_
          simp only [Act.put, List.setIfInBounds_toArray, List.set_cons_zero, List.set_cons_succ]
          refine any_one (i := 3) (by kernel_rfl) ?_
          refine op_store_row rfl rfl 33 (.tmp 7) (.tmp 103) rfl _ (evr (⟨o.kind, i, [], o.tm, (da.size : Int), D⟩ : Ev)) rfl rfl 33 _ g2.out (row33 _ hD.out) (evr_same _ _ z32_len hD.out) (evr_one _) none rfl ?_
          simp only [Act.put]
          refine any_one (i := 4) (by kernel_rfl) ?_
          refine op_val rfl (by with_unfolding_all rfl) (some 8) rfl _ (x_move _ (.inr rfl) (.int .i64 0) rfl) ?_
          simp only [Act.put, List.setIfInBounds_toArray, List.set_cons_zero, List.set_cons_succ]
          refine any_none (by kernel_rfl) ?_
          clear Kd K2r g1 g2
          go_wp2_with fail
          exact bodyPost_row3 6 7 8 24 33 rfl _ _ rfl rfl _ rfl 24 33 _ _ _ _ (Kf.out.at 3 rfl) Try.underlying24 rfl (row27 _) (Kf.out.at 2 rfl) Try.underlying33 rfl (row33 _ hD.out) rfl (by rw [hRok.out _ hDk.out rfl, hTk.out]; exact ⟨ha, hc, rfl, hsF.out, Kf.out.bel⟩)
      · refine op_val rfl (by with_unfolding_all rfl) (some 103) rfl _ (x_load_row 33 (.tmp 11) rfl be rfl 33 (evr (⟨o.kind, i, [], o.tm, (da.size : Int), D⟩ : Ev)) _ (Kd.out.at 0 rfl) Try.underlying33 rfl (row33 _ hD.out)) ?_
        simp only [Act.put, List.setIfInBounds_toArray, List.set_cons_zero, List.set_cons_succ]
        refine any_one (i := 0) (by kernel_rfl) ?_
        refine op_val rfl (by with_unfolding_all rfl) (some 102) rfl _ (x_load_row 24 (.tmp 9) rfl bg rfl 24 (flr (⟨gA.id, gA.nm, gA.da, gA.se, gA.un, ha, L.length, hc⟩ : Fl)) _ (Kd.out.at 1 rfl) Try.underlying24 rfl (row27 _)) ?_
        simp only [Act.put, List.setIfInBounds_toArray, List.set_cons_zero, List.set_cons_succ]
        refine any_one (i := 2) (by kernel_rfl) ?_
        refine op_store_row rfl rfl 24 (.tmp 6) (.tmp 102) rfl _ (flr (⟨gA.id, gA.nm, gA.da, gA.se, gA.un, ha, L.length, hc⟩ : Fl)) rfl rfl 24 _ g1.out (row27 _) (flr_same _ _) (flr_one _) none rfl ?_
        simp only [Act.put]
        refine any_one (i := 3) (by kernel_rfl) ?_
        refine op_store_row rfl rfl 33 (.tmp 7) (.tmp 103) rfl _ (evr (⟨o.kind, i, [], o.tm, (da.size : Int), D⟩ : Ev)) rfl rfl 33 _ g2.out (row33 _ hD.out) (evr_same _ _ z32_len hD.out) (evr_one _) none rfl ?_
        simp only [Act.put]
        refine any_one (i := 4) (by kernel_rfl) ?_
        refine op_val rfl (by with_unfolding_all rfl) (some 8) rfl _ (x_move _ (.inr rfl) (.int .i64 0) rfl) ?_
        simp only [Act.put, List.setIfInBounds_toArray, List.set_cons_zero, List.set_cons_succ]
        refine any_none (by kernel_rfl) ?_
        clear Kd K2r g1 g2
        go_wp2_with fail
        exact bodyPost_row3 6 7 8 24 33 rfl _ _ rfl rfl _ rfl 24 33 _ _ _ _ (Kf.out.at 3 rfl) Try.underlying24 rfl (row27 _) (Kf.out.at 2 rfl) Try.underlying33 rfl (row33 _ hD.out) rfl (by rw [hRok.out _ hDk.out rfl, hTk.out]; exact ⟨ha, hc, rfl, hsF.out, Kf.out.bel⟩)
    have t9 : (kA != 0) = true := by simpa using h0
    have h1 := Lib.hid h0
    clear h0
    have Kf := Lib.hid ((K8.out.kb.row 3 rfl (by omega) (flr (⟨i, nm, da, se, un, ha, L.length, hc⟩ : Fl))).row 2 rfl (by omega) (evr ev0))
    have g1 : Hid (_ = some (Obj.cells (flr fl0) 24)) := Lib.hid (K8.out.at 3 rfl)
    have g2 : Hid (_ = some (Obj.cells (evr ev0) 33)) := Lib.hid ((K8.out.row 3 rfl (by omega) (flr (⟨i, nm, da, se, un, ha, L.length, hc⟩ : Fl))).at 2 rfl)
    have g5 : Hid (_ = some (Obj.cells (flr (⟨i, nm, da, se, un, ha, L.length, hc⟩ : Fl)) 24)) := Lib.hid (K8.out.at 5 rfl)
    have hsF := Lib.hid (hs0.out _ Kf.out.bel)
    clear K8
    go_wp2_with (first
      | (refine wpList_load_row (by rfl) 24 (.tmp 3) rfl _ rfl 24 _ _ g5.out Try.underlying24 rfl (row27 _) ?_)
      | (refine wpList_store_row (by rfl) 24 (.tmp 6) (.tmp 99) rfl _ (flr (⟨i, nm, da, se, un, ha, L.length, hc⟩ : Fl)) rfl rfl 24 _ (g1.out) (row27 _) (flr_same _ _) (flr_one _) ?_)
      | (refine wpList_store_row (by rfl) 33 (.tmp 7) (.tmp 100) rfl _ (evr ev0) rfl rfl 33 _ (g2.out) (row33 _ z32_len) (evr_same _ _ z32_len z32_len) (evr_one _) ?_))
    exact bodyPost_row3 6 7 8 24 33 rfl _ _ rfl rfl _ rfl 24 33 _ _ _ _ (Kf.out.at 3 rfl) Try.underlying24 rfl (row27 _) (Kf.out.at 2 rfl) Try.underlying33 rfl (row33 _ z32_len) rfl (by rw [hRno.out _ hDk.out h1.out]; exact ⟨ha, hc, rfl, hsF.out, Kf.out.bel⟩)
  have p2 := Lib.hid q2
  clear q2
  by_cases q3 : o.kind = 3
  · have t0 : (o.kind == 0) = false := by simpa using p0.out
    have t1 : (o.kind == 1) = false := by simpa using p1.out
    have t2 : (o.kind == 2) = false := by simpa using p2.out
    have t3 : (o.kind == 3) = true := by simpa using q3
    have hDk : Hid (Dn = ((extF (⟨i, nm, da, se, un, ha, L.length, hc⟩ : Fl) o.tm).1, L, (extF (⟨i, nm, da, se, un, ha, L.length, hc⟩ : Fl) o.tm).2)) := Lib.hid (by rw [hDn.out, if_neg p0.out, if_neg p1.out, if_neg p2.out, if_pos q3])
    have hTk : Hid (T = ⟨o.kind, i, [], o.tm, 0, z32⟩) := Lib.hid (by rw [hTn.out, if_neg p1.out, if_neg p2.out, if_pos q3])
    clear q3 hDn hTn cA cH cM cO cR cS
    generalize extF (⟨i, nm, da, se, un, ha, L.length, hc⟩ : Fl) o.tm = A at *
    obtain ⟨gA, kA⟩ := A
    dsimp only at hDk
    have c3 := K2.out.cell 4 rfl 3 (y := .int .i64 o.tm) rfl
    go_wp2_with (refine wpList_load_row (by rfl) 24 (.tmp 3) rfl _ rfl 24 _ _ (K2.out.at 5 rfl) Try.underlying24 rfl (row27 _) ?_)
    refine (cE.out _ K2.out.bel).mono ?_
    rintro e v ⟨rfl, hb⟩
    have K3 := Lib.hid (K2.out.past hb)
    clear hb cE K2 c0 c3
    have K4 : Hid (KQ w (⟨i, nm, da, se, un, ha, L.length, hc⟩ : Fl) o bg be (⟨gA.id, gA.nm, gA.da, gA.se, gA.un, ha, L.length, hc⟩ : Fl) (⟨o.kind, i, [], 0, 0, z32⟩ : Ev) (v.setRow bg (flr (⟨gA.id, gA.nm, gA.da, gA.se, gA.un, ha, L.length, hc⟩ : Fl)))) := Lib.hid (K3.out.row 1 rfl hbg.out (flr (⟨gA.id, gA.nm, gA.da, gA.se, gA.un, ha, L.length, hc⟩ : Fl)))
    go_upto_region 17 with (refine wpList_store_row (by rfl) 24 (.tmp 9) (.tmp 62) rfl _ (flr (⟨gA.id, gA.nm, gA.da, gA.se, gA.un, ha, L.length, hc⟩ : Fl)) rfl rfl 24 _ (K3.out.at 1 rfl) (row27 _) (flr_same _ _) (flr_one _) ?_)
    revert K4
    clear K3
    generalize v.setRow bg (flr (⟨gA.id, gA.nm, gA.da, gA.se, gA.un, ha, L.length, hc⟩ : Fl)) = V4
    intro K4
    have c3 := K4.out.cell 4 rfl 3 (y := .int .i64 o.tm) rfl
    have e3 := K4.out.cell 0 rfl 3 (y := .int .i64 0) (evr3 _)
    have f3 := K4.out.frozen 0 rfl 3
    have K5 := Lib.hid (KQ.time K4.out hbe.out o.tm)
    go_upto_region 27 with fail
    revert K5
    clear K4 c3 e3 f3
    generalize V4.setCell ⟨be, 3, none⟩ (.int .i64 o.tm) = V5
    intro K5
    by_cases h0 : kA = 0
    · subst h0
      have t9 : ((0 : Int) != 0) = false := rfl
      go_upto_region 29 with fail
      have Kd := Lib.hid K5.out.kb.drew
      have K2r := Lib.hid (Kd.out.row 3 rfl (by omega) (flr (⟨gA.id, gA.nm, gA.da, gA.se, gA.un, ha, L.length, hc⟩ : Fl)))
      have Kf := Lib.hid (K2r.out.row 2 rfl (by omega) (evr (⟨o.kind, i, [], o.tm, 0, z32⟩ : Ev)))
      have g1 : Hid (_ = some (Obj.cells (flr fl0) 24)) := Lib.hid (Kd.out.at 3 rfl)
      have g2 : Hid (_ = some (Obj.cells (evr ev0) 33)) := Lib.hid (K2r.out.at 2 rfl)
      have hsF : Hid (StrAt _ _ ha _) := Lib.hid (hs0.out _ Kf.out.bel)
      clear K5
      refine wp_region_any (by kernel_rfl) ?_
      change wpAny Try.prog .any _ _ 5 _ _ V5.drew
      refine any_two (i := 0) (k := 1) (by kernel_rfl) ?_ ?_
      · refine op_val rfl (by with_unfolding_all rfl) (some 102) rfl _ (x_load_row 24 (.tmp 9) rfl bg rfl 24 (flr (⟨gA.id, gA.nm, gA.da, gA.se, gA.un, ha, L.length, hc⟩ : Fl)) _ (Kd.out.at 1 rfl) Try.underlying24 rfl (row27 _)) ?_
        simp only [Act.put, List.setIfInBounds_toArray, List.set_cons_zero, List.set_cons_succ]
        refine any_two (i := 1) (k := 2) (by kernel_rfl) ?_ ?_
        · refine op_val rfl (by with_unfolding_all rfl) (some 103) rfl _ (x_load_row 33 (.tmp 11) rfl be rfl 33 (evr (⟨o.kind, i, [], o.tm, 0, z32⟩ : Ev)) _ (Kd.out.at 0 rfl) Try.underlying33 rfl (row33 _ z32_len)) ?_
          simp only [Act.put, List.setIfInBounds_toArray, List.set_cons_zero, List.set_cons_succ]
          refine any_one (i := 2) (by kernel_rfl) ?_
          refine op_store_row rfl rfl 24 (.tmp 6) (.tmp 102) rfl _ (flr (⟨gA.id, gA.nm, gA.da, gA.se, gA.un, ha, L.length, hc⟩ : Fl)) rfl rfl 24 _ g1.out (row27 _) (flr_same _ _) (flr_one _) none rfl ?_
          simp only [Act.put]
          refine any_one (i := 3) (by kernel_rfl) ?_
          refine op_store_row rfl rfl 33 (.tmp 7) (.tmp 103) rfl _ (evr (⟨o.kind, i, [], o.tm, 0, z32⟩ : Ev)) rfl rfl 33 _ g2.out (row33 _ z32_len) (evr_same _ _ z32_len z32_len) (evr_one _) none rfl ?_
          simp only [Act.put]
          refine any_one (i := 4) (by kernel_rfl) ?_
          refine op_val rfl (by with_unfolding_all rfl) (some 8) rfl _ (x_move _ (.inr rfl) (.int .i64 0) rfl) ?_
          simp only [Act.put, List.setIfInBounds_toArray, List.set_cons_zero, List.set_cons_succ]
          refine any_none (by kernel_rfl) ?_
          clear Kd K2r g1 g2
          go_wp2_with fail
          exact bodyPost_row3 6 7 8 24 33 rfl _ _ rfl rfl _ rfl 24 33 _ _ _ _ (Kf.out.at 3 rfl) Try.underlying24 rfl (row27 _) (Kf.out.at 2 rfl) Try.underlying33 rfl (row33 _ z32_len) rfl (by rw [hRok.out _ hDk.out rfl, hTk.out]; exact ⟨ha, hc, rfl, hsF.out, Kf.out.bel⟩)
        · refine op_store_row rfl rfl 24 (.tmp 6) (.tmp 102) rfl _ (flr (⟨gA.id, gA.nm, gA.da, gA.se, gA.un, ha, L.length, hc⟩ : Fl)) rfl rfl 24 _ g1.out (row27 _) (flr_same _ _) (flr_one _) none rfl ?_
          simp only [Act.put]
          refine any_one (i := 1) (by kernel_rfl) ?_
          refine op_val rfl (by with_unfolding_all rfl) (some 103) rfl _ (x_load_row 33 (.tmp 11) rfl be rfl 33 (evr (⟨o.kind, i, [], o.tm, 0, z32⟩ : Ev)) _ (K2r.out.at 0 rfl) Try.underlying33 rfl (row33 _ z32_len)) ?_
          simp only [Act.put, List.setIfInBounds_toArray, List.set_cons_zero, List.set_cons_succ]
          refine any_one (i := 3) (by kernel_rfl) ?_
          refine op_store_row rfl rfl 33 (.tmp 7) (.tmp 103) rfl _ (evr (⟨o.kind, i, [], o.tm, 0, z32⟩ : Ev)) rfl rfl 33 _ g2.out (row33 _ z32_len) (evr_same _ _ z32_len z32_len) (evr_one _) none rfl ?_
          simp only [Act.put]
          refine any_one (i := 4) (by kernel_rfl) ?_
          refine op_val rfl (by with_unfolding_all rfl) (some 8) rfl _ (x_move _ (.inr rfl) (.int .i64 0) rfl) ?_
          simp only [Act.put, List.setIfInBounds_toArray, List.set_cons_zero, List.set_cons_succ]
          refine any_none (by kernel_rfl) ?_
          clear Kd K2r g1 g2
          go_wp2_with fail
          exact bodyPost_row3 6 7 8 24 33 rfl _ _ rfl rfl _ rfl 24 33 _ _ _ _ (Kf.out.at 3 rfl) Try.underlying24 rfl (row27 _) (Kf.out.at 2 rfl) Try.underlying33 rfl (row33 _ z32_len) rfl (by rw [hRok.out _ hDk.out rfl, hTk.out]; exact ⟨ha, hc, rfl, hsF.out, Kf.out.bel⟩)
      · refine op_val rfl (by with_unfolding_all rfl) (some 103) rfl _ (x_load_row 33 (.tmp 11) rfl be rfl 33 (evr (⟨o.kind, i, [], o.tm, 0, z32⟩ : Ev)) _ (Kd.out.at 0 rfl) Try.underlying33 rfl (row33 _ z32_len)) ?_
        simp only [Act.put, List.setIfInBounds_toArray, List.set_cons_zero, List.set_cons_succ]
        refine any_one (i := 0) (by kernel_rfl) ?_
        refine op_val rfl (by with_unfolding_all rfl) (some 102) rfl _ (x_load_row 24 (.tmp 9) rfl bg rfl 24 (flr (⟨gA.id, gA.nm, gA.da, gA.se, gA.un, ha, L.length, hc⟩ : Fl)) _ (Kd.out.at 1 rfl) Try.underlying24 rfl (row27 _)) ?_
        simp only [Act.put, List.setIfInBounds_toArray, List.set_cons_zero, List.set_cons_succ]
        refine any_one (i := 2) (by kernel_rfl) ?_
        refine op_store_row rfl rfl 24 (.tmp 6) (.tmp 102) rfl _ (flr (⟨gA.id, gA.nm, gA.da, gA.se, gA.un, ha, L.length, hc⟩ : Fl)) rfl rfl 24 _ g1.out (row27 _) (flr_same _ _) (flr_one _) none rfl ?_
        simp only [Act.put]
        refine any_one (i := 3) (by kernel_rfl) ?_
        refine op_store_row rfl rfl 33 (.tmp 7) (.tmp 103) rfl _ (evr (⟨o.kind, i, [], o.tm, 0, z32⟩ : Ev)) rfl rfl 33 _ g2.out (row33 _ z32_len) (evr_same _ _ z32_len z32_len) (evr_one _) none rfl ?_
        simp only [Act.put]
        refine any_one (i := 4) (by kernel_rfl) ?_
        refine op_val rfl (by with_unfolding_all rfl) (some 8) rfl _ (x_move _ (.inr rfl) (.int .i64 0) rfl) ?_
        simp only [Act.put, List.setIfInBounds_toArray, List.set_cons_zero, List.set_cons_succ]
        refine any_none (by kernel_rfl) ?_
        clear Kd K2r g1 g2
        go_wp2_with fail
        exact bodyPost_row3 6 7 8 24 33 rfl _ _ rfl rfl _ rfl 24 33 _ _ _ _ (Kf.out.at 3 rfl) Try.underlying24 rfl (row27 _) (Kf.out.at 2 rfl) Try.underlying33 rfl (row33 _ z32_len) rfl (by rw [hRok.out _ hDk.out rfl, hTk.out]; exact ⟨ha, hc, rfl, hsF.out, Kf.out.bel⟩)
    have t9 : (kA != 0) = true := by simpa using h0
    have h1 := Lib.hid h0
    clear h0
    have Kf := Lib.hid ((K5.out.kb.row 3 rfl (by omega) (flr (⟨i, nm, da, se, un, ha, L.length, hc⟩ : Fl))).row 2 rfl (by omega) (evr ev0))
    have g1 : Hid (_ = some (Obj.cells (flr fl0) 24)) := Lib.hid (K5.out.at 3 rfl)
    have g2 : Hid (_ = some (Obj.cells (evr ev0) 33)) := Lib.hid ((K5.out.row 3 rfl (by omega) (flr (⟨i, nm, da, se, un, ha, L.length, hc⟩ : Fl))).at 2 rfl)
    have g5 : Hid (_ = some (Obj.cells (flr (⟨i, nm, da, se, un, ha, L.length, hc⟩ : Fl)) 24)) := Lib.hid (K5.out.at 5 rfl)
    have hsF := Lib.hid (hs0.out _ Kf.out.bel)
    clear K5
    go_wp2_with (first
      | (refine wpList_load_row (by rfl) 24 (.tmp 3) rfl _ rfl 24 _ _ g5.out Try.underlying24 rfl (row27 _) ?_)
      | (refine wpList_store_row (by rfl) 24 (.tmp 6) (.tmp 99) rfl _ (flr (⟨i, nm, da, se, un, ha, L.length, hc⟩ : Fl)) rfl rfl 24 _ (g1.out) (row27 _) (flr_same _ _) (flr_one _) ?_)
      | (refine wpList_store_row (by rfl) 33 (.tmp 7) (.tmp 100) rfl _ (evr ev0) rfl rfl 33 _ (g2.out) (row33 _ z32_len) (evr_same _ _ z32_len z32_len) (evr_one _) ?_))
    exact bodyPost_row3 6 7 8 24 33 rfl _ _ rfl rfl _ rfl 24 33 _ _ _ _ (Kf.out.at 3 rfl) Try.underlying24 rfl (row27 _) (Kf.out.at 2 rfl) Try.underlying33 rfl (row33 _ z32_len) rfl (by rw [hRno.out _ hDk.out h1.out]; exact ⟨ha, hc, rfl, hsF.out, Kf.out.bel⟩)
  have p3 := Lib.hid q3
  clear q3
  by_cases q4 : o.kind = 4
  · have t0 : (o.kind == 0) = false := by simpa using p0.out
    have t1 : (o.kind == 1) = false := by simpa using p1.out
    have t2 : (o.kind == 2) = false := by simpa using p2.out
    have t3 : (o.kind == 3) = false := by simpa using p3.out
    have t4 : (o.kind == 4) = true := by simpa using q4
    have hDk : Hid (Dn = ((⟨i, nm, da, se, un, ha, L.length, hc⟩ : Fl), hldL se o.tx L, hldC se o.tx L)) := Lib.hid (by rw [hDn.out, if_neg p0.out, if_neg p1.out, if_neg p2.out, if_neg p3.out, if_pos q4])
    have hTk : Hid (T = ⟨o.kind, i, o.tx.data.toList, 0, 0, z32⟩) := Lib.hid (by rw [hTn.out, if_neg p1.out, if_neg p2.out, if_neg p3.out, if_pos (.inl q4)])
    clear q4 hDn hTn cA cE cM cO cR cS
    generalize hldL se o.tx L = M at *
    generalize hldC se o.tx L = kA at *
    have c2 := K2.out.cell 4 rfl 2 (y := .string o.tx) rfl
    go_wp2_with (refine wpList_load_row (by rfl) 24 (.tmp 3) rfl _ rfl 24 _ _ (K2.out.at 5 rfl) Try.underlying24 rfl (row27 _) ?_)
    refine (cH.out _ K2.out.bel).mono ?_
    rintro e v ⟨a', c', rfl, hsv, hb⟩
    have K3 := Lib.hid (K2.out.past hb)
    have lg := Lib.hid (K2.out.lt 1 rfl)
    have le := Lib.hid (K2.out.lt 0 rfl)
    have l2 := Lib.hid (K2.out.lt 3 rfl)
    have l3 := Lib.hid (K2.out.lt 2 rfl)
    have S3 : Hid (HSq ha L a' M V2.heap.size v) := Lib.hid hsv
    clear hb hsv cH K2 c0 c2
    have K4 : Hid (KQ w (⟨i, nm, da, se, un, ha, L.length, hc⟩ : Fl) o bg be (⟨i, nm, da, se, un, a', M.length, c'⟩ : Fl) (⟨o.kind, i, [], 0, 0, z32⟩ : Ev) (v.setRow bg (flr (⟨i, nm, da, se, un, a', M.length, c'⟩ : Fl)))) := Lib.hid (K3.out.row 1 rfl hbg.out (flr (⟨i, nm, da, se, un, a', M.length, c'⟩ : Fl)))
    have S4 := Lib.hid (S3.out.row lg.out (flr (⟨i, nm, da, se, un, a', M.length, c'⟩ : Fl)))
    go_upto_region 20 with (refine wpList_store_row (by rfl) 24 (.tmp 9) (.tmp 74) rfl _ (flr (⟨i, nm, da, se, un, a', M.length, c'⟩ : Fl)) rfl rfl 24 _ (K3.out.at 1 rfl) (row27 _) (flr_same _ _) (flr_one _) ?_)
    revert K4 S4
    clear K3 S3
    generalize v.setRow bg (flr (⟨i, nm, da, se, un, a', M.length, c'⟩ : Fl)) = V4
    intro K4 S4
    have c2 := K4.out.cell 4 rfl 2 (y := .string o.tx) rfl
    have e2 := K4.out.cell 0 rfl 2 (y := .string ⟨#[]⟩) (evr2 _)
    have f2 := K4.out.frozen 0 rfl 2
    have K5 := Lib.hid (KQ.name K4.out hbe.out o.tx)
    have S5 := Lib.hid (S4.out.set le.out 2 (.string o.tx))
    go_upto_region 27 with fail
    revert K5 S5
    clear K4 S4 c2 e2 f2
    generalize V4.setCell ⟨be, 2, none⟩ (.string o.tx) = V5
    intro K5 S5
    by_cases h0 : kA = 0
    · subst h0
      have t9 : ((0 : Int) != 0) = false := rfl
      go_upto_region 29 with fail
      have Kd := Lib.hid K5.out.kb.drew
      have K2r := Lib.hid (Kd.out.row 3 rfl (by omega) (flr (⟨i, nm, da, se, un, a', M.length, c'⟩ : Fl)))
      have Kf := Lib.hid (K2r.out.row 2 rfl (by omega) (evr (⟨o.kind, i, o.tx.data.toList, 0, 0, z32⟩ : Ev)))
      have g1 : Hid (_ = some (Obj.cells (flr fl0) 24)) := Lib.hid (Kd.out.at 3 rfl)
      have g2 : Hid (_ = some (Obj.cells (evr ev0) 33)) := Lib.hid (K2r.out.at 2 rfl)
      have hsF : Hid (StrAt _ _ a' _) := Lib.hid (HSq.str ((S5.out.drew.row l2.out (flr (⟨i, nm, da, se, un, a', M.length, c'⟩ : Fl))).row l3.out (evr ⟨o.kind, i, o.tx.data.toList, 0, 0, z32⟩)) (hs0.out _ Kf.out.bel))
      clear K5
      refine wp_region_any (by kernel_rfl) ?_
      change wpAny Try.prog .any _ _ 5 _ _ V5.drew
      refine any_two (i := 0) (k := 1) (by kernel_rfl) ?_ ?_
      · refine op_val rfl (by with_unfolding_all rfl) (some 102) rfl _ (x_load_row 24 (.tmp 9) rfl bg rfl 24 (flr (⟨i, nm, da, se, un, a', M.length, c'⟩ : Fl)) _ (Kd.out.at 1 rfl) Try.underlying24 rfl (row27 _)) ?_
        simp only [Act.put, List.setIfInBounds_toArray, List.set_cons_zero, List.set_cons_succ]
        refine any_two (i := 1) (k := 2) (by kernel_rfl) ?_ ?_
        · refine op_val rfl (by with_unfolding_all rfl) (some 103) rfl _ (x_load_row 33 (.tmp 11) rfl be rfl 33 (evr (⟨o.kind, i, o.tx.data.toList, 0, 0, z32⟩ : Ev)) _ (Kd.out.at 0 rfl) Try.underlying33 rfl (row33 _ z32_len)) ?_
          simp only [Act.put, List.setIfInBounds_toArray, List.set_cons_zero, List.set_cons_succ]
          refine any_one (i := 2) (by kernel_rfl) ?_
          refine op_store_row rfl rfl 24 (.tmp 6) (.tmp 102) rfl _ (flr (⟨i, nm, da, se, un, a', M.length, c'⟩ : Fl)) rfl rfl 24 _ g1.out (row27 _) (flr_same _ _) (flr_one _) none rfl ?_
          simp only [Act.put]
          refine any_one (i := 3) (by kernel_rfl) ?_
          refine op_store_row rfl rfl 33 (.tmp 7) (.tmp 103) rfl _ (evr (⟨o.kind, i, o.tx.data.toList, 0, 0, z32⟩ : Ev)) rfl rfl 33 _ g2.out (row33 _ z32_len) (evr_same _ _ z32_len z32_len) (evr_one _) none rfl ?_
          simp only [Act.put]
          refine any_one (i := 4) (by kernel_rfl) ?_
          refine op_val rfl (by with_unfolding_all rfl) (some 8) rfl _ (x_move _ (.inr rfl) (.int .i64 0) rfl) ?_
          simp only [Act.put, List.setIfInBounds_toArray, List.set_cons_zero, List.set_cons_succ]
          refine any_none (by kernel_rfl) ?_
          clear Kd K2r g1 g2
          go_wp2_with fail
          exact bodyPost_row3 6 7 8 24 33 rfl _ _ rfl rfl _ rfl 24 33 _ _ _ _ (Kf.out.at 3 rfl) Try.underlying24 rfl (row27 _) (Kf.out.at 2 rfl) Try.underlying33 rfl (row33 _ z32_len) rfl (by rw [hRok.out _ hDk.out rfl, hTk.out]; exact ⟨a', c', rfl, hsF.out, Kf.out.bel⟩)
        · refine op_store_row rfl rfl 24 (.tmp 6) (.tmp 102) rfl _ (flr (⟨i, nm, da, se, un, a', M.length, c'⟩ : Fl)) rfl rfl 24 _ g1.out (row27 _) (flr_same _ _) (flr_one _) none rfl ?_
          simp only [Act.put]
          refine any_one (i := 1) (by kernel_rfl) ?_
          refine op_val rfl (by with_unfolding_all rfl) (some 103) rfl _ (x_load_row 33 (.tmp 11) rfl be rfl 33 (evr (⟨o.kind, i, o.tx.data.toList, 0, 0, z32⟩ : Ev)) _ (K2r.out.at 0 rfl) Try.underlying33 rfl (row33 _ z32_len)) ?_
          simp only [Act.put, List.setIfInBounds_toArray, List.set_cons_zero, List.set_cons_succ]
          refine any_one (i := 3) (by kernel_rfl) ?_
          refine op_store_row rfl rfl 33 (.tmp 7) (.tmp 103) rfl _ (evr (⟨o.kind, i, o.tx.data.toList, 0, 0, z32⟩ : Ev)) rfl rfl 33 _ g2.out (row33 _ z32_len) (evr_same _ _ z32_len z32_len) (evr_one _) none rfl ?_
          simp only [Act.put]
          refine any_one (i := 4) (by kernel_rfl) ?_
          refine op_val rfl (by with_unfolding_all rfl) (some 8) rfl _ (x_move _ (.inr rfl) (.int .i64 0) rfl) ?_
          simp only [Act.put, List.setIfInBounds_toArray, List.set_cons_zero, List.set_cons_succ]
          refine any_none (by kernel_rfl) ?_
          clear Kd K2r g1 g2
          go_wp2_with fail
          exact bodyPost_row3 6 7 8 24 33 rfl _ _ rfl rfl _ rfl 24 33 _ _ _ _ (Kf.out.at 3 rfl) Try.underlying24 rfl (row27 _) (Kf.out.at 2 rfl) Try.underlying33 rfl (row33 _ z32_len) rfl (by rw [hRok.out _ hDk.out rfl, hTk.out]; exact ⟨a', c', rfl, hsF.out, Kf.out.bel⟩)
      · refine op_val rfl (by with_unfolding_all rfl) (some 103) rfl _ (x_load_row 33 (.tmp 11) rfl be rfl 33 (evr (⟨o.kind, i, o.tx.data.toList, 0, 0, z32⟩ : Ev)) _ (Kd.out.at 0 rfl) Try.underlying33 rfl (row33 _ z32_len)) ?_
        simp only [Act.put, List.setIfInBounds_toArray, List.set_cons_zero, List.set_cons_succ]
        refine any_one (i := 0) (by kernel_rfl) ?_
        refine op_val rfl (by with_unfolding_all rfl) (some 102) rfl _ (x_load_row 24 (.tmp 9) rfl bg rfl 24 (flr (⟨i, nm, da, se, un, a', M.length, c'⟩ : Fl)) _ (Kd.out.at 1 rfl) Try.underlying24 rfl (row27 _)) ?_
        simp only [Act.put, List.setIfInBounds_toArray, List.set_cons_zero, List.set_cons_succ]
        refine any_one (i := 2) (by kernel_rfl) ?_
        refine op_store_row rfl rfl 24 (.tmp 6) (.tmp 102) rfl _ (flr (⟨i, nm, da, se, un, a', M.length, c'⟩ : Fl)) rfl rfl 24 _ g1.out (row27 _) (flr_same _ _) (flr_one _) none rfl ?_
        simp only [Act.put]
        refine any_one (i := 3) (by kernel_rfl) ?_
        refine op_store_row rfl rfl 33 (.tmp 7) (.tmp 103) rfl _ (evr (⟨o.kind, i, o.tx.data.toList, 0, 0, z32⟩ : Ev)) rfl rfl 33 _ g2.out (row33 _ z32_len) (evr_same _ _ z32_len z32_len) (evr_one _) none rfl ?_
        simp only [Act.put]
        refine any_one (i := 4) (by kernel_rfl) ?_
        refine op_val rfl (by with_unfolding_all rfl) (some 8) rfl _ (x_move _ (.inr rfl) (.int .i64 0) rfl) ?_
        simp only [Act.put, List.setIfInBounds_toArray, List.set_cons_zero, List.set_cons_succ]
        refine any_none (by kernel_rfl) ?_
        clear Kd K2r g1 g2
        go_wp2_with fail
        exact bodyPost_row3 6 7 8 24 33 rfl _ _ rfl rfl _ rfl 24 33 _ _ _ _ (Kf.out.at 3 rfl) Try.underlying24 rfl (row27 _) (Kf.out.at 2 rfl) Try.underlying33 rfl (row33 _ z32_len) rfl (by rw [hRok.out _ hDk.out rfl, hTk.out]; exact ⟨a', c', rfl, hsF.out, Kf.out.bel⟩)
    have t9 : (kA != 0) = true := by simpa using h0
    have h1 := Lib.hid h0
    clear h0
    have Kf := Lib.hid ((K5.out.kb.row 3 rfl (by omega) (flr (⟨i, nm, da, se, un, ha, L.length, hc⟩ : Fl))).row 2 rfl (by omega) (evr ev0))
    have g1 : Hid (_ = some (Obj.cells (flr fl0) 24)) := Lib.hid (K5.out.at 3 rfl)
    have g2 : Hid (_ = some (Obj.cells (evr ev0) 33)) := Lib.hid ((K5.out.row 3 rfl (by omega) (flr (⟨i, nm, da, se, un, ha, L.length, hc⟩ : Fl))).at 2 rfl)
    have g5 : Hid (_ = some (Obj.cells (flr (⟨i, nm, da, se, un, ha, L.length, hc⟩ : Fl)) 24)) := Lib.hid (K5.out.at 5 rfl)
    have hsF := Lib.hid (hs0.out _ Kf.out.bel)
    clear K5
    go_wp2_with (first
      | (refine wpList_load_row (by rfl) 24 (.tmp 3) rfl _ rfl 24 _ _ g5.out Try.underlying24 rfl (row27 _) ?_)
      | (refine wpList_store_row (by rfl) 24 (.tmp 6) (.tmp 99) rfl _ (flr (⟨i, nm, da, se, un, ha, L.length, hc⟩ : Fl)) rfl rfl 24 _ (g1.out) (row27 _) (flr_same _ _) (flr_one _) ?_)
      | (refine wpList_store_row (by rfl) 33 (.tmp 7) (.tmp 100) rfl _ (evr ev0) rfl rfl 33 _ (g2.out) (row33 _ z32_len) (evr_same _ _ z32_len z32_len) (evr_one _) ?_))
    exact bodyPost_row3 6 7 8 24 33 rfl _ _ rfl rfl _ rfl 24 33 _ _ _ _ (Kf.out.at 3 rfl) Try.underlying24 rfl (row27 _) (Kf.out.at 2 rfl) Try.underlying33 rfl (row33 _ z32_len) rfl (by rw [hRno.out _ hDk.out h1.out]; exact ⟨ha, hc, rfl, hsF.out, Kf.out.bel⟩)
  have p4 := Lib.hid q4
  clear q4
  by_cases q5 : o.kind = 5
  · have t0 : (o.kind == 0) = false := by simpa using p0.out
    have t1 : (o.kind == 1) = false := by simpa using p1.out
    have t2 : (o.kind == 2) = false := by simpa using p2.out
    have t3 : (o.kind == 3) = false := by simpa using p3.out
    have t4 : (o.kind == 4) = false := by simpa using p4.out
    have t5 : (o.kind == 5) = true := by simpa using q5
    have hDk : Hid (Dn = ((⟨i, nm, da, se, un, ha, L.length, hc⟩ : Fl), rmv o.tx L, rlC o.tx L)) := Lib.hid (by rw [hDn.out, if_neg p0.out, if_neg p1.out, if_neg p2.out, if_neg p3.out, if_neg p4.out, if_pos q5])
    have hTk : Hid (T = ⟨o.kind, i, o.tx.data.toList, 0, 0, z32⟩) := Lib.hid (by rw [hTn.out, if_neg p1.out, if_neg p2.out, if_neg p3.out, if_pos (.inr q5)])
    clear q5 hDn hTn cA cE cH cM cO cS
    generalize rmv o.tx L = M at *
    generalize rlC o.tx L = kA at *
    have c2 := K2.out.cell 4 rfl 2 (y := .string o.tx) rfl
    go_wp2_with (refine wpList_load_row (by rfl) 24 (.tmp 3) rfl _ rfl 24 _ _ (K2.out.at 5 rfl) Try.underlying24 rfl (row27 _) ?_)
    refine (cR.out _ K2.out.bel).mono ?_
    rintro e v ⟨a', c', rfl, hsv, hb⟩
    have K3 := Lib.hid (K2.out.past hb)
    have lg := Lib.hid (K2.out.lt 1 rfl)
    have le := Lib.hid (K2.out.lt 0 rfl)
    have l2 := Lib.hid (K2.out.lt 3 rfl)
    have l3 := Lib.hid (K2.out.lt 2 rfl)
    have S3 : Hid (HSq ha L a' M V2.heap.size v) := Lib.hid hsv
    clear hb hsv cR K2 c0 c2
    have K4 : Hid (KQ w (⟨i, nm, da, se, un, ha, L.length, hc⟩ : Fl) o bg be (⟨i, nm, da, se, un, a', M.length, c'⟩ : Fl) (⟨o.kind, i, [], 0, 0, z32⟩ : Ev) (v.setRow bg (flr (⟨i, nm, da, se, un, a', M.length, c'⟩ : Fl)))) := Lib.hid (K3.out.row 1 rfl hbg.out (flr (⟨i, nm, da, se, un, a', M.length, c'⟩ : Fl)))
    have S4 := Lib.hid (S3.out.row lg.out (flr (⟨i, nm, da, se, un, a', M.length, c'⟩ : Fl)))
    go_upto_region 23 with (refine wpList_store_row (by rfl) 24 (.tmp 9) (.tmp 86) rfl _ (flr (⟨i, nm, da, se, un, a', M.length, c'⟩ : Fl)) rfl rfl 24 _ (K3.out.at 1 rfl) (row27 _) (flr_same _ _) (flr_one _) ?_)
    revert K4 S4
    clear K3 S3
    generalize v.setRow bg (flr (⟨i, nm, da, se, un, a', M.length, c'⟩ : Fl)) = V4
    intro K4 S4
    have c2 := K4.out.cell 4 rfl 2 (y := .string o.tx) rfl
    have e2 := K4.out.cell 0 rfl 2 (y := .string ⟨#[]⟩) (evr2 _)
    have f2 := K4.out.frozen 0 rfl 2
    have K5 := Lib.hid (KQ.name K4.out hbe.out o.tx)
    have S5 := Lib.hid (S4.out.set le.out 2 (.string o.tx))
    go_upto_region 27 with fail
    revert K5 S5
    clear K4 S4 c2 e2 f2
    generalize V4.setCell ⟨be, 2, none⟩ (.string o.tx) = V5
    intro K5 S5
    by_cases h0 : kA = 0
    · subst h0
      have t9 : ((0 : Int) != 0) = false := rfl
      go_upto_region 29 with fail
      have Kd := Lib.hid K5.out.kb.drew
      have K2r := Lib.hid (Kd.out.row 3 rfl (by omega) (flr (⟨i, nm, da, se, un, a', M.length, c'⟩ : Fl)))
      have Kf := Lib.hid (K2r.out.row 2 rfl (by omega) (evr (⟨o.kind, i, o.tx.data.toList, 0, 0, z32⟩ : Ev)))
      have g1 : Hid (_ = some (Obj.cells (flr fl0) 24)) := Lib.hid (Kd.out.at 3 rfl)
      have g2 : Hid (_ = some (Obj.cells (evr ev0) 33)) := Lib.hid (K2r.out.at 2 rfl)
      have hsF : Hid (StrAt _ _ a' _) := Lib.hid (HSq.str ((S5.out.drew.row l2.out (flr (⟨i, nm, da, se, un, a', M.length, c'⟩ : Fl))).row l3.out (evr ⟨o.kind, i, o.tx.data.toList, 0, 0, z32⟩)) (hs0.out _ Kf.out.bel))
      clear K5
      refine wp_region_any (by kernel_rfl) ?_
      change wpAny Try.prog .any _ _ 5 _ _ V5.drew
      refine any_two (i := 0) (k := 1) (by kernel_rfl) ?_ ?_
      · refine op_val rfl (by with_unfolding_all rfl) (some 102) rfl _ (x_load_row 24 (.tmp 9) rfl bg rfl 24 (flr (⟨i, nm, da, se, un, a', M.length, c'⟩ : Fl)) _ (Kd.out.at 1 rfl) Try.underlying24 rfl (row27 _)) ?_
        simp only [Act.put, List.setIfInBounds_toArray, List.set_cons_zero, List.set_cons_succ]
        refine any_two (i := 1) (k := 2) (by kernel_rfl) ?_ ?_
        · refine op_val rfl (by with_unfolding_all rfl) (some 103) rfl _ (x_load_row 33 (.tmp 11) rfl be rfl 33 (evr (⟨o.kind, i, o.tx.data.toList, 0, 0, z32⟩ : Ev)) _ (Kd.out.at 0 rfl) Try.underlying33 rfl (row33 _ z32_len)) ?_
          simp only [Act.put, List.setIfInBounds_toArray, List.set_cons_zero, List.set_cons_succ]
          refine any_one (i := 2) (by kernel_rfl) ?_
          refine op_store_row rfl rfl 24 (.tmp 6) (.tmp 102) rfl _ (flr (⟨i, nm, da, se, un, a', M.length, c'⟩ : Fl)) rfl rfl 24 _ g1.out (row27 _) (flr_same _ _) (flr_one _) none rfl ?_
          simp only [Act.put]
          refine any_one (i := 3) (by kernel_rfl) ?_
          refine op_store_row rfl rfl 33 (.tmp 7) (.tmp 103) rfl _ (evr (⟨o.kind, i, o.tx.data.toList, 0, 0, z32⟩ : Ev)) rfl rfl 33 _ g2.out (row33 _ z32_len) (evr_same _ _ z32_len z32_len) (evr_one _) none rfl ?_
          simp only [Act.put]
          refine any_one (i := 4) (by kernel_rfl) ?_
          refine op_val rfl (by with_unfolding_all rfl) (some 8) rfl _ (x_move _ (.inr rfl) (.int .i64 0) rfl) ?_
          simp only [Act.put, List.setIfInBounds_toArray, List.set_cons_zero, List.set_cons_succ]
          refine any_none (by kernel_rfl) ?_
          clear Kd K2r g1 g2
          go_wp2_with fail
          exact bodyPost_row3 6 7 8 24 33 rfl _ _ rfl rfl _ rfl 24 33 _ _ _ _ (Kf.out.at 3 rfl) Try.underlying24 rfl (row27 _) (Kf.out.at 2 rfl) Try.underlying33 rfl (row33 _ z32_len) rfl (by rw [hRok.out _ hDk.out rfl, hTk.out]; exact ⟨a', c', rfl, hsF.out, Kf.out.bel⟩)
        · refine op_store_row rfl rfl 24 (.tmp 6) (.tmp 102) rfl _ (flr (⟨i, nm, da, se, un, a', M.length, c'⟩ : Fl)) rfl rfl 24 _ g1.out (row27 _) (flr_same _ _) (flr_one _) none rfl ?_
          simp only [Act.put]
          refine any_one (i := 1) (by kernel_rfl) ?_
          refine op_val rfl (by with_unfolding_all rfl) (some 103) rfl _ (x_load_row 33 (.tmp 11) rfl be rfl 33 (evr (⟨o.kind, i, o.tx.data.toList, 0, 0, z32⟩ : Ev)) _ (K2r.out.at 0 rfl) Try.underlying33 rfl (row33 _ z32_len)) ?_
          simp only [Act.put, List.setIfInBounds_toArray, List.set_cons_zero, List.set_cons_succ]
          refine any_one (i := 3) (by kernel_rfl) ?_
          refine op_store_row rfl rfl 33 (.tmp 7) (.tmp 103) rfl _ (evr (⟨o.kind, i, o.tx.data.toList, 0, 0, z32⟩ : Ev)) rfl rfl 33 _ g2.out (row33 _ z32_len) (evr_same _ _ z32_len z32_len) (evr_one _) none rfl ?_
          simp only [Act.put]
          refine any_one (i := 4) (by kernel_rfl) ?_
          refine op_val rfl (by with_unfolding_all rfl) (some 8) rfl _ (x_move _ (.inr rfl) (.int .i64 0) rfl) ?_
          simp only [Act.put, List.setIfInBounds_toArray, List.set_cons_zero, List.set_cons_succ]
          refine any_none (by kernel_rfl) ?_
          clear Kd K2r g1 g2
          go_wp2_with fail
          exact bodyPost_row3 6 7 8 24 33 rfl _ _ rfl rfl _ rfl 24 33 _ _ _ _ (Kf.out.at 3 rfl) Try.underlying24 rfl (row27 _) (Kf.out.at 2 rfl) Try.underlying33 rfl (row33 _ z32_len) rfl (by rw [hRok.out _ hDk.out rfl, hTk.out]; exact ⟨a', c', rfl, hsF.out, Kf.out.bel⟩)
      · refine op_val rfl (by with_unfolding_all rfl) (some 103) rfl _ (x_load_row 33 (.tmp 11) rfl be rfl 33 (evr (⟨o.kind, i, o.tx.data.toList, 0, 0, z32⟩ : Ev)) _ (Kd.out.at 0 rfl) Try.underlying33 rfl (row33 _ z32_len)) ?_
        simp only [Act.put, List.setIfInBounds_toArray, List.set_cons_zero, List.set_cons_succ]
        refine any_one (i := 0) (by kernel_rfl) ?_
        refine op_val rfl (by with_unfolding_all rfl) (some 102) rfl _ (x_load_row 24 (.tmp 9) rfl bg rfl 24 (flr (⟨i, nm, da, se, un, a', M.length, c'⟩ : Fl)) _ (Kd.out.at 1 rfl) Try.underlying24 rfl (row27 _)) ?_
        simp only [Act.put, List.setIfInBounds_toArray, List.set_cons_zero, List.set_cons_succ]
        refine any_one (i := 2) (by kernel_rfl) ?_
        refine op_store_row rfl rfl 24 (.tmp 6) (.tmp 102) rfl _ (flr (⟨i, nm, da, se, un, a', M.length, c'⟩ : Fl)) rfl rfl 24 _ g1.out (row27 _) (flr_same _ _) (flr_one _) none rfl ?_
        simp only [Act.put]
        refine any_one (i := 3) (by kernel_rfl) ?_
        refine op_store_row rfl rfl 33 (.tmp 7) (.tmp 103) rfl _ (evr (⟨o.kind, i, o.tx.data.toList, 0, 0, z32⟩ : Ev)) rfl rfl 33 _ g2.out (row33 _ z32_len) (evr_same _ _ z32_len z32_len) (evr_one _) none rfl ?_
        simp only [Act.put]
        refine any_one (i := 4) (by kernel_rfl) ?_
        refine op_val rfl (by with_unfolding_all rfl) (some 8) rfl _ (x_move _ (.inr rfl) (.int .i64 0) rfl) ?_
        simp only [Act.put, List.setIfInBounds_toArray, List.set_cons_zero, List.set_cons_succ]
        refine any_none (by kernel_rfl) ?_
        clear Kd K2r g1 g2
        go_wp2_with fail
        exact bodyPost_row3 6 7 8 24 33 rfl _ _ rfl rfl _ rfl 24 33 _ _ _ _ (Kf.out.at 3 rfl) Try.underlying24 rfl (row27 _) (Kf.out.at 2 rfl) Try.underlying33 rfl (row33 _ z32_len) rfl (by rw [hRok.out _ hDk.out rfl, hTk.out]; exact ⟨a', c', rfl, hsF.out, Kf.out.bel⟩)
    have t9 : (kA != 0) = true := by simpa using h0
    have h1 := Lib.hid h0
    clear h0
    have Kf := Lib.hid ((K5.out.kb.row 3 rfl (by omega) (flr (⟨i, nm, da, se, un, ha, L.length, hc⟩ : Fl))).row 2 rfl (by omega) (evr ev0))
    have g1 : Hid (_ = some (Obj.cells (flr fl0) 24)) := Lib.hid (K5.out.at 3 rfl)
    have g2 : Hid (_ = some (Obj.cells (evr ev0) 33)) := Lib.hid ((K5.out.row 3 rfl (by omega) (flr (⟨i, nm, da, se, un, ha, L.length, hc⟩ : Fl))).at 2 rfl)
    have g5 : Hid (_ = some (Obj.cells (flr (⟨i, nm, da, se, un, ha, L.length, hc⟩ : Fl)) 24)) := Lib.hid (K5.out.at 5 rfl)
    have hsF := Lib.hid (hs0.out _ Kf.out.bel)
    clear K5
    go_wp2_with (first
      | (refine wpList_load_row (by rfl) 24 (.tmp 3) rfl _ rfl 24 _ _ g5.out Try.underlying24 rfl (row27 _) ?_)
      | (refine wpList_store_row (by rfl) 24 (.tmp 6) (.tmp 99) rfl _ (flr (⟨i, nm, da, se, un, ha, L.length, hc⟩ : Fl)) rfl rfl 24 _ (g1.out) (row27 _) (flr_same _ _) (flr_one _) ?_)
      | (refine wpList_store_row (by rfl) 33 (.tmp 7) (.tmp 100) rfl _ (evr ev0) rfl rfl 33 _ (g2.out) (row33 _ z32_len) (evr_same _ _ z32_len z32_len) (evr_one _) ?_))
    exact bodyPost_row3 6 7 8 24 33 rfl _ _ rfl rfl _ rfl 24 33 _ _ _ _ (Kf.out.at 3 rfl) Try.underlying24 rfl (row27 _) (Kf.out.at 2 rfl) Try.underlying33 rfl (row33 _ z32_len) rfl (by rw [hRno.out _ hDk.out h1.out]; exact ⟨ha, hc, rfl, hsF.out, Kf.out.bel⟩)
  have p5 := Lib.hid q5
  clear q5
  by_cases q6 : o.kind = 6
  · have t0 : (o.kind == 0) = false := by simpa using p0.out
    have t1 : (o.kind == 1) = false := by simpa using p1.out
    have t2 : (o.kind == 2) = false := by simpa using p2.out
    have t3 : (o.kind == 3) = false := by simpa using p3.out
    have t4 : (o.kind == 4) = false := by simpa using p4.out
    have t5 : (o.kind == 5) = false := by simpa using p5.out
    have t6 : (o.kind == 6) = true := by simpa using q6
    have hDk : Hid (Dn = (fl0, [], mayC (⟨i, nm, da, se, un, ha, L.length, hc⟩ : Fl) fl)) := Lib.hid (by rw [hDn.out, if_neg p0.out, if_neg p1.out, if_neg p2.out, if_neg p3.out, if_neg p4.out, if_neg p5.out, if_pos q6])
    have hTk : Hid (T = (⟨o.kind, i, [], 0, 0, z32⟩ : Ev)) := Lib.hid (by rw [hTn.out, if_neg p1.out, if_neg p2.out, if_neg p3.out, if_neg (show ¬ (o.kind = 4 ∨ o.kind = 5) from fun h => h.elim p4.out p5.out)])
    clear q6 hDn hTn cA cS cE cH cR cO
    generalize mayC (⟨i, nm, da, se, un, ha, L.length, hc⟩ : Fl) fl = kA at *
    have K4 : Hid (KQ w _ o bg be fl0 _ (V2.setRow bg (flr fl0))) := Lib.hid (K2.out.row 1 rfl hbg.out (flr fl0))
    go_upto_region 26 with (refine wpList_store_row (by rfl) 24 (.tmp 9) (.tmp 93) rfl _ (flr fl0) rfl rfl 24 _ (K2.out.at 1 rfl) (row27 _) (flr_same _ _) (flr_one _) ?_)
    revert K4
    clear K2 c0
    generalize V2.setRow bg (flr fl0) = V4
    intro K4
    go_wp2_with (refine wpList_load_row (by rfl) 24 (.tmp 3) rfl _ rfl 24 _ _ (K4.out.at 5 rfl) Try.underlying24 rfl (row27 _) ?_)
    refine (cM.out _).mono ?_
    rintro e v ⟨rfl, hb⟩
    have K5 := Lib.hid (K4.out.past hb)
    clear hb K4 cM
    go_upto_region 27 with fail
    by_cases h0 : kA = 0
    · subst h0
      have t9 : ((0 : Int) != 0) = false := rfl
      go_upto_region 29 with fail
      have Kd := Lib.hid K5.out.kb.drew
      have K2r := Lib.hid (Kd.out.row 3 rfl (by omega) (flr fl0))
      have Kf := Lib.hid (K2r.out.row 2 rfl (by omega) (evr (⟨o.kind, i, [], 0, 0, z32⟩ : Ev)))
      have g1 : Hid (_ = some (Obj.cells (flr fl0) 24)) := Lib.hid (Kd.out.at 3 rfl)
      have g2 : Hid (_ = some (Obj.cells (evr ev0) 33)) := Lib.hid (K2r.out.at 2 rfl)
      have hsF := Lib.hid (fun v : World => StrAt.none v.heap.size v none)
      clear K5
      refine wp_region_any (by kernel_rfl) ?_
      change wpAny Try.prog .any _ _ 5 _ _ v.drew
      refine any_two (i := 0) (k := 1) (by kernel_rfl) ?_ ?_
      · refine op_val rfl (by with_unfolding_all rfl) (some 102) rfl _ (x_load_row 24 (.tmp 9) rfl bg rfl 24 (flr fl0) _ (Kd.out.at 1 rfl) Try.underlying24 rfl (row27 _)) ?_
        simp only [Act.put, List.setIfInBounds_toArray, List.set_cons_zero, List.set_cons_succ]
        refine any_two (i := 1) (k := 2) (by kernel_rfl) ?_ ?_
        · refine op_val rfl (by with_unfolding_all rfl) (some 103) rfl _ (x_load_row 33 (.tmp 11) rfl be rfl 33 (evr (⟨o.kind, i, [], 0, 0, z32⟩ : Ev)) _ (Kd.out.at 0 rfl) Try.underlying33 rfl (row33 _ z32_len)) ?_
          simp only [Act.put, List.setIfInBounds_toArray, List.set_cons_zero, List.set_cons_succ]
          refine any_one (i := 2) (by kernel_rfl) ?_
          refine op_store_row rfl rfl 24 (.tmp 6) (.tmp 102) rfl _ (flr fl0) rfl rfl 24 _ g1.out (row27 _) (flr_same _ _) (flr_one _) none rfl ?_
          simp only [Act.put]
          refine any_one (i := 3) (by kernel_rfl) ?_
          refine op_store_row rfl rfl 33 (.tmp 7) (.tmp 103) rfl _ (evr (⟨o.kind, i, [], 0, 0, z32⟩ : Ev)) rfl rfl 33 _ g2.out (row33 _ z32_len) (evr_same _ _ z32_len z32_len) (evr_one _) none rfl ?_
          simp only [Act.put]
          refine any_one (i := 4) (by kernel_rfl) ?_
          refine op_val rfl (by with_unfolding_all rfl) (some 8) rfl _ (x_move _ (.inr rfl) (.int .i64 0) rfl) ?_
          simp only [Act.put, List.setIfInBounds_toArray, List.set_cons_zero, List.set_cons_succ]
          refine any_none (by kernel_rfl) ?_
          clear Kd K2r g1 g2
          go_wp2_with fail
          exact bodyPost_row3 6 7 8 24 33 rfl _ _ rfl rfl _ rfl 24 33 _ _ _ _ (Kf.out.at 3 rfl) Try.underlying24 rfl (row27 _) (Kf.out.at 2 rfl) Try.underlying33 rfl (row33 _ z32_len) rfl (by rw [hRok.out _ hDk.out rfl, hTk.out]; exact ⟨none, 0, rfl, (hsF.out _), Kf.out.bel⟩)
        · refine op_store_row rfl rfl 24 (.tmp 6) (.tmp 102) rfl _ (flr fl0) rfl rfl 24 _ g1.out (row27 _) (flr_same _ _) (flr_one _) none rfl ?_
          simp only [Act.put]
          refine any_one (i := 1) (by kernel_rfl) ?_
          refine op_val rfl (by with_unfolding_all rfl) (some 103) rfl _ (x_load_row 33 (.tmp 11) rfl be rfl 33 (evr (⟨o.kind, i, [], 0, 0, z32⟩ : Ev)) _ (K2r.out.at 0 rfl) Try.underlying33 rfl (row33 _ z32_len)) ?_
          simp only [Act.put, List.setIfInBounds_toArray, List.set_cons_zero, List.set_cons_succ]
          refine any_one (i := 3) (by kernel_rfl) ?_
          refine op_store_row rfl rfl 33 (.tmp 7) (.tmp 103) rfl _ (evr (⟨o.kind, i, [], 0, 0, z32⟩ : Ev)) rfl rfl 33 _ g2.out (row33 _ z32_len) (evr_same _ _ z32_len z32_len) (evr_one _) none rfl ?_
          simp only [Act.put]
          refine any_one (i := 4) (by kernel_rfl) ?_
          refine op_val rfl (by with_unfolding_all rfl) (some 8) rfl _ (x_move _ (.inr rfl) (.int .i64 0) rfl) ?_
          simp only [Act.put, List.setIfInBounds_toArray, List.set_cons_zero, List.set_cons_succ]
          refine any_none (by kernel_rfl) ?_
          clear Kd K2r g1 g2
          go_wp2_with fail
          exact bodyPost_row3 6 7 8 24 33 rfl _ _ rfl rfl _ rfl 24 33 _ _ _ _ (Kf.out.at 3 rfl) Try.underlying24 rfl (row27 _) (Kf.out.at 2 rfl) Try.underlying33 rfl (row33 _ z32_len) rfl (by rw [hRok.out _ hDk.out rfl, hTk.out]; exact ⟨none, 0, rfl, (hsF.out _), Kf.out.bel⟩)
      · refine op_val rfl (by with_unfolding_all rfl) (some 103) rfl _ (x_load_row 33 (.tmp 11) rfl be rfl 33 (evr (⟨o.kind, i, [], 0, 0, z32⟩ : Ev)) _ (Kd.out.at 0 rfl) Try.underlying33 rfl (row33 _ z32_len)) ?_
        simp only [Act.put, List.setIfInBounds_toArray, List.set_cons_zero, List.set_cons_succ]
        refine any_one (i := 0) (by kernel_rfl) ?_
        refine op_val rfl (by with_unfolding_all rfl) (some 102) rfl _ (x_load_row 24 (.tmp 9) rfl bg rfl 24 (flr fl0) _ (Kd.out.at 1 rfl) Try.underlying24 rfl (row27 _)) ?_
        simp only [Act.put, List.setIfInBounds_toArray, List.set_cons_zero, List.set_cons_succ]
        refine any_one (i := 2) (by kernel_rfl) ?_
        refine op_store_row rfl rfl 24 (.tmp 6) (.tmp 102) rfl _ (flr fl0) rfl rfl 24 _ g1.out (row27 _) (flr_same _ _) (flr_one _) none rfl ?_
        simp only [Act.put]
        refine any_one (i := 3) (by kernel_rfl) ?_
        refine op_store_row rfl rfl 33 (.tmp 7) (.tmp 103) rfl _ (evr (⟨o.kind, i, [], 0, 0, z32⟩ : Ev)) rfl rfl 33 _ g2.out (row33 _ z32_len) (evr_same _ _ z32_len z32_len) (evr_one _) none rfl ?_
        simp only [Act.put]
        refine any_one (i := 4) (by kernel_rfl) ?_
        refine op_val rfl (by with_unfolding_all rfl) (some 8) rfl _ (x_move _ (.inr rfl) (.int .i64 0) rfl) ?_
        simp only [Act.put, List.setIfInBounds_toArray, List.set_cons_zero, List.set_cons_succ]
        refine any_none (by kernel_rfl) ?_
        clear Kd K2r g1 g2
        go_wp2_with fail
        exact bodyPost_row3 6 7 8 24 33 rfl _ _ rfl rfl _ rfl 24 33 _ _ _ _ (Kf.out.at 3 rfl) Try.underlying24 rfl (row27 _) (Kf.out.at 2 rfl) Try.underlying33 rfl (row33 _ z32_len) rfl (by rw [hRok.out _ hDk.out rfl, hTk.out]; exact ⟨none, 0, rfl, (hsF.out _), Kf.out.bel⟩)
    have t9 : (kA != 0) = true := by simpa using h0
    have h1 := Lib.hid h0
    clear h0
    have Kf := Lib.hid ((K5.out.kb.row 3 rfl (by omega) (flr (⟨i, nm, da, se, un, ha, L.length, hc⟩ : Fl))).row 2 rfl (by omega) (evr ev0))
    have g1 : Hid (_ = some (Obj.cells (flr fl0) 24)) := Lib.hid (K5.out.at 3 rfl)
    have g2 : Hid (_ = some (Obj.cells (evr ev0) 33)) := Lib.hid ((K5.out.row 3 rfl (by omega) (flr (⟨i, nm, da, se, un, ha, L.length, hc⟩ : Fl))).at 2 rfl)
    have g5 : Hid (_ = some (Obj.cells (flr (⟨i, nm, da, se, un, ha, L.length, hc⟩ : Fl)) 24)) := Lib.hid (K5.out.at 5 rfl)
    have hsF := Lib.hid (hs0.out _ Kf.out.bel)
    clear K5
    go_wp2_with (first
      | (refine wpList_load_row (by rfl) 24 (.tmp 3) rfl _ rfl 24 _ _ g5.out Try.underlying24 rfl (row27 _) ?_)
      | (refine wpList_store_row (by rfl) 24 (.tmp 6) (.tmp 99) rfl _ (flr (⟨i, nm, da, se, un, ha, L.length, hc⟩ : Fl)) rfl rfl 24 _ (g1.out) (row27 _) (flr_same _ _) (flr_one _) ?_)
      | (refine wpList_store_row (by rfl) 33 (.tmp 7) (.tmp 100) rfl _ (evr ev0) rfl rfl 33 _ (g2.out) (row33 _ z32_len) (evr_same _ _ z32_len z32_len) (evr_one _) ?_))
    exact bodyPost_row3 6 7 8 24 33 rfl _ _ rfl rfl _ rfl 24 33 _ _ _ _ (Kf.out.at 3 rfl) Try.underlying24 rfl (row27 _) (Kf.out.at 2 rfl) Try.underlying33 rfl (row33 _ z32_len) rfl (by rw [hRno.out _ hDk.out h1.out]; exact ⟨ha, hc, rfl, hsF.out, Kf.out.bel⟩)
  have p6 := Lib.hid q6
  clear q6
  have t0 : (o.kind == 0) = false := by simpa using p0.out
  have t1 : (o.kind == 1) = false := by simpa using p1.out
  have t2 : (o.kind == 2) = false := by simpa using p2.out
  have t3 : (o.kind == 3) = false := by simpa using p3.out
  have t4 : (o.kind == 4) = false := by simpa using p4.out
  have t5 : (o.kind == 5) = false := by simpa using p5.out
  have t6 : (o.kind == 6) = false := by simpa using p6.out
  have hDk : Hid (Dn = (fl0, [], 1)) := Lib.hid (by rw [hDn.out, if_neg p0.out, if_neg p1.out, if_neg p2.out, if_neg p3.out, if_neg p4.out, if_neg p5.out, if_neg p6.out])
  clear cA cS cE cH cR cM cO hDn hTn p0 p1 p2 p3 p4 p5 p6
  go_upto_region 27 with fail
  have Kf := Lib.hid ((K2.out.kb.row 3 rfl (by omega) (flr (⟨i, nm, da, se, un, ha, L.length, hc⟩ : Fl))).row 2 rfl (by omega) (evr ev0))
  have g1 : Hid (_ = some (Obj.cells (flr fl0) 24)) := Lib.hid (K2.out.at 3 rfl)
  have g2 : Hid (_ = some (Obj.cells (evr ev0) 33)) := Lib.hid ((K2.out.row 3 rfl (by omega) (flr (⟨i, nm, da, se, un, ha, L.length, hc⟩ : Fl))).at 2 rfl)
  have g5 : Hid (_ = some (Obj.cells (flr (⟨i, nm, da, se, un, ha, L.length, hc⟩ : Fl)) 24)) := Lib.hid (K2.out.at 5 rfl)
  have hsF := Lib.hid (hs0.out _ Kf.out.bel)
  clear K2
  go_wp2_with (first
    | (refine wpList_load_row (by rfl) 24 (.tmp 3) rfl _ rfl 24 _ _ g5.out Try.underlying24 rfl (row27 _) ?_)
    | (refine wpList_store_row (by rfl) 24 (.tmp 6) (.tmp 99) rfl _ (flr (⟨i, nm, da, se, un, ha, L.length, hc⟩ : Fl)) rfl rfl 24 _ (g1.out) (row27 _) (flr_same _ _) (flr_one _) ?_)
    | (refine wpList_store_row (by rfl) 33 (.tmp 7) (.tmp 100) rfl _ (evr ev0) rfl rfl 33 _ (g2.out) (row33 _ z32_len) (evr_same _ _ z32_len z32_len) (evr_one _) ?_))
  exact bodyPost_row3 6 7 8 24 33 rfl _ _ rfl rfl _ rfl 24 33 _ _ _ _ (Kf.out.at 3 rfl) Try.underlying24 rfl (row27 _) (Kf.out.at 2 rfl) Try.underlying33 rfl (row33 _ z32_len) rfl (by rw [hRno.out _ hDk.out (show (1 : Int) ≠ 0 by decide)]; exact ⟨ha, hc, rfl, hsF.out, Kf.out.bel⟩)
end Go.Proofs.Ytphbkbjgjicncaa
