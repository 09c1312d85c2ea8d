/-
  For every file, any operations and any floor, FileStays returns true: a file that may be stays one that may be, whatever is done; and each event that tells it may be.
  Conditions: none beyond the given statement's own.
-/
import Derived.Test.YtphbkbjgjicncaaGreatRows
import Derived.Test.YtphbkbjgjicncaaGreatWorks
import Derived.Test.YtphbkbjgjicncaaGreatOpens
import Derived.Test.YtphbkbjgjicncaaGreatOpenOps
import Derived.Test.YtphbkbjgjicncaaGreatDoReg
import Derived.Test.YtphbkbjgjicncaaGreatStay
import Derived.Test.YtphbkbjgjicncaaGreatWide
import Derived.Test.YtphbkbjgjicncaaGreatShut
import Derived.Test.YtphbkbjgjicncaaGreatEValid
import Derived.WalkKit
import Derived.ProofKit
import Derived.OpenShut
import Derived.ShutString
import Derived.ChangeOld
import Derived.Below
namespace Go.Proofs.YtphbkbjgjicncaaGreat.fileStays
open Go.ChangeShapes Go.WideShapes Go.ChangeAt Go.RowKit
open Go.ChangeMaps (open_string shut_string)
set_option linter.unusedVariables false

theorem own : ownKnob Tryz.prog.godebug = none := by kernel_rfl
theorem laidOut : laidOutB Tryz.prog = true := by kernel_rfl

/-- The worlds of the rounds: the file that is held now, in block b. -/
structure FV (w : World) (b : Nat) (f : Fl) (L : List ByteArray) (v : World) : Prop where
  kw : KW w.heap.size w [(b, .cells (flr f) 24)] v
  at_ : StrAt v.heap.size v f.ha L
  n : f.hn = L.length
theorem FV.past {w v v' : World} {b : Nat} {f : Fl} {L : List ByteArray} (h : FV w b f L v) (hb : Below v.heap.size v v') : FV w b f L v' := ⟨h.kw.past hb, h.at_.on hb, h.n⟩
theorem FV.drew {w v : World} {b : Nat} {f : Fl} {L : List ByteArray} (h : FV w b f L v) : FV w b f L v.drew := h.past (Below.refl _ _).drew
theorem doR_valid (f : Fl) (L : List ByteArray) (o : Opv) (fl : Int) (hv : vlB f L = true) (hc : (doR f L o fl).2.2.2 = 0) (h6 : o.kind ≠ 6) :
    vlB (doR f L o fl).1 (doR f L o fl).2.1 = true ∧ (doR f L o fl).1.id = f.id ∧ (doR f L o fl).1.nm = f.nm := by
  unfold doR at hc ⊢
  by_cases h0 : (doneR f L o fl).2.2 = 0
  · rw [if_pos h0]; exact do_valid f L o fl hv h0 h6
  · rw [if_neg h0] at hc; exact absurd hc h0
theorem vl_same (f : Fl) (a : Option Addr) (n c : Nat) (L : List ByteArray) : vlB { f with ha := a, hn := n, hc := c } L = vlB f L := rfl
theorem new_code (i : Int) (s : ByteArray) : ((newF i s).2 = 2 ∧ (newF i s).1 = fl0) ∨ ((newF i s).2 = 1 ∧ (newF i s).1 = fl0) ∨ ((newF i s).2 = 0 ∧ (newF i s).1 = ⟨i, s, em, false, 0, none, 0, 0⟩ ∧ vlB (newF i s).1 [] = true) := by
  unfold newF
  by_cases h1 : vdB s = false
  · rw [if_pos h1]; exact .inl ⟨rfl, rfl⟩
  rw [if_neg h1]
  by_cases h2 : gvB i = false
  · rw [if_pos h2]; exact .inr (.inl ⟨rfl, rfl⟩)
  rw [if_neg h2]
  refine .inr (.inr ⟨rfl, rfl, (vl_iff _ _).2 ⟨by simpa using h2, by simpa using h1, by show em.size ≤ 600; decide, by show (0 : Int) ≤ 0; decide, by show (0 : Int) ≤ 1099511627776; decide, .inr ⟨rfl, rfl⟩, rfl⟩⟩)

theorem doR_mem (f : Fl) (L : List ByteArray) (o : Opv) (fl : Int) (z : ByteArray) (hz : z ∈ (doR f L o fl).2.1) : z ∈ L ∨ z = o.tx := by
  have h1 : z ∈ rmv o.tx L → z ∈ L := fun h => by
    unfold rmv at h
    split at h
    · exact (List.eraseIdx_sublist _ _).subset h
    · exact h
  have h2 : z ∈ hldL f.se o.tx L → z ∈ L ∨ z = o.tx := fun h => by
    unfold hldL at h
    split at h
    · rw [ins_at] at h
      rcases (ins_mem_iff _ _ _).1 h with h | h
      · exact .inr h
      · exact .inl h
    · exact .inl h
  unfold doR at hz
  split at hz
  · unfold doneR at hz
    repeat' split at hz
    all_goals first | exact .inl hz | exact h2 hz | exact .inl (h1 hz) | (exact absurd hz (by simp))
  · exact .inl hz

section
variable {P : Program} {ops : Array Oper} {rest : List Oper} {o : Oper} {a : Act} {w : World} {Q : Exit → Act → World → Prop}
theorem wpList_dne_g (hw : Region.wanted o (yielded ops a.tmps) = true) (t t' : TypeId) (x y : Operand) (ho : o.op = .binOp .neq t x y t') (c d : Array Value) (hx : a.eval x = .agg c) (hy : a.eval y = .agg d) (hp : P.eqGuardType P.depth t = false) (r : Bool) (hr : ∀ w, (Op.equalIn 10000 t (.agg c) (.agg d)).run P w = .ok r w)
    (h : wpList P ops Q rest (a.put o.dst (.bool (!r))) w) : wpList P ops Q (o :: rest) a w :=
  wpList_exec_g hw _ (by unfold execOp; simp only [ho, hx, hy]; simp [eqGuard, hp, run_neq_struct, hr, go_sem]) h
end
theorem field31 (z o : Nat) (v : World) : (Instr.fieldAt 31 (.pointer (some ⟨z, o, none⟩)) 0).run Tryz.prog v = .ok (.pointer (some ⟨z, o, none⟩)) v := by
  unfold Instr.fieldAt; simp [go_sem, run_underlying Tryz.underlying31]
theorem ent5 : ∀ args w, (callFunc 5 args).run Tryz.prog w = .ok (.enter 5 args) w := enters_of Tryz.func5 (by kernel_rfl) rfl
theorem ent9 : ∀ args w, (callFunc 9 args).run Tryz.prog w = .ok (.enter 9 args) w := enters_of Tryz.func9 (by kernel_rfl) rfl
theorem wi_yes {n a b : Int} (h1 : a ≤ n) (h2 : n ≤ b) : ev.wi n a b = true := by unfold ev.wi; simp [h1, h2]
/-- What is told of what was done may be. -/
theorem told_ok (f : Fl) (L : List ByteArray) (o : Opv) (fl : Int) (hv : vlB f L = true) (hc : (doneR f L o fl).2.2 = 0) : ev.okP (tellE f o) = true := by
  obtain ⟨v1, v2, v3, v4, v5, v6, v7⟩ := (vl_iff f L).1 hv
  obtain ⟨g1, g2⟩ : 1 ≤ f.id ∧ f.id ≤ 1099511627776 := by simpa [gvB] using v1
  have hid := wi_yes g1 g2
  unfold doneR at hc
  by_cases h0 : o.kind = 0
  · rw [if_pos h0] at hc; cases hc
  rw [if_neg h0] at hc
  by_cases h1 : o.kind = 1
  · rw [if_pos h1] at hc
    have hs : o.tx.size ≠ 0 ∧ o.tx.size ≤ 600 := by
      unfold appF at hc
      split at hc
      · cases hc
      split at hc
      · cases hc
      split at hc
      · cases hc
      · rename_i q1 q2; exact ⟨q1, by omega⟩
    have ht : tellE f o = ⟨1, f.id, [], 0, (o.tx.size : Int), z32⟩ := by unfold tellE; rw [if_pos h1, h1]
    rw [ht]
    have hl := wi_yes (n := (o.tx.size : Int)) (a := 1) (b := 600) (by omega) (by omega)
    unfold ev.okP
    rw [Bool.and_eq_true]
    refine ⟨?_, (evB_iff _ _).2 rfl⟩
    show (ev.wi 1 0 7 && (ev.wi f.id 1 1099511627776 && (ev.wi (o.tx.size : Int) 1 600 && true))) = true
    rw [hid, hl]; rfl
  rw [if_neg h1] at hc
  by_cases h2 : o.kind = 2
  · rw [if_pos h2] at hc
    have hs : tmB o.tm = true := by
      unfold sealF at hc
      split at hc
      · cases hc
      split at hc
      · cases hc
      · rename_i q; simpa using q
    have hs' : 0 ≤ o.tm ∧ o.tm ≤ 1099511627776 := by simpa [tmB] using hs
    have ht : tellE f o = ⟨2, f.id, [], o.tm, (f.da.size : Int), sh.sha f.da.data.toList⟩ := by unfold tellE; rw [if_neg h1, if_pos h2, h2]
    rw [ht]
    have hl := wi_yes (n := (f.da.size : Int)) (a := 0) (b := 600) (by omega) (by omega)
    have hm := wi_yes hs'.1 hs'.2
    unfold ev.okP
    rw [Bool.and_eq_true]
    refine ⟨?_, (evB_iff _ _).2 rfl⟩
    show (ev.wi 2 0 7 && (ev.wi f.id 1 1099511627776 && (ev.wi o.tm 0 1099511627776 && (ev.wi (f.da.size : Int) 0 600 && (true && true))))) = true
    rw [hid, hl, hm]; rfl
  rw [if_neg h2] at hc
  by_cases h3 : o.kind = 3
  · rw [if_pos h3] at hc
    have hs : tmB o.tm = true := by
      unfold extF at hc
      split at hc
      · cases hc
      split at hc
      · cases hc
      · rename_i q; simpa using q
    have hs' : 0 ≤ o.tm ∧ o.tm ≤ 1099511627776 := by simpa [tmB] using hs
    have ht : tellE f o = ⟨3, f.id, [], o.tm, 0, z32⟩ := by unfold tellE; rw [if_neg h1, if_neg h2, if_pos h3, h3]
    rw [ht]
    have hm := wi_yes hs'.1 hs'.2
    unfold ev.okP
    rw [Bool.and_eq_true]
    refine ⟨?_, (evB_iff _ _).2 rfl⟩
    show (ev.wi 3 0 7 && (ev.wi f.id 1 1099511627776 && (ev.wi o.tm 0 1099511627776 && true))) = true
    rw [hid, hm]; rfl
  rw [if_neg h3] at hc
  by_cases h4 : o.kind = 4
  · rw [if_pos h4] at hc
    have hs : nm.vld o.tx.data.toList = true := by
      have hc : hldC f.se o.tx L = 0 := hc
      rcases hold_code f.se o.tx L with ⟨_, _, q, _⟩ | ⟨q, _⟩
      · exact q
      · exact absurd hc q
    have ht : tellE f o = ⟨4, f.id, o.tx.data.toList, 0, 0, z32⟩ := by unfold tellE; rw [if_neg h1, if_neg h2, if_neg h3, if_pos (.inl h4), h4]
    rw [ht]
    unfold ev.okP
    rw [Bool.and_eq_true]
    refine ⟨?_, (evB_iff _ _).2 rfl⟩
    show (ev.wi 4 0 7 && (ev.wi f.id 1 1099511627776 && (nm.vld o.tx.data.toList && true))) = true
    rw [hid, hs]; rfl
  rw [if_neg h4] at hc
  by_cases h5 : o.kind = 5
  · rw [if_pos h5] at hc
    have hs : nm.vld o.tx.data.toList = true := by
      have hc : rlC o.tx L = 0 := hc
      unfold rlC at hc
      split at hc
      · rename_i q
        exact ((tog_iff L).1 v7).2.1 o.tx ((Lib.idxOfS_nonneg_iff L o.tx).1 q)
      · cases hc
    have ht : tellE f o = ⟨5, f.id, o.tx.data.toList, 0, 0, z32⟩ := by unfold tellE; rw [if_neg h1, if_neg h2, if_neg h3, if_pos (.inr h5), h5]
    rw [ht]
    unfold ev.okP
    rw [Bool.and_eq_true]
    refine ⟨?_, (evB_iff _ _).2 rfl⟩
    show (ev.wi 5 0 7 && (ev.wi f.id 1 1099511627776 && (nm.vld o.tx.data.toList && true))) = true
    rw [hid, hs]; rfl
  rw [if_neg h5] at hc
  by_cases h6 : o.kind = 6
  · have ht : tellE f o = ⟨6, f.id, [], 0, 0, z32⟩ := by unfold tellE; rw [if_neg h1, if_neg h2, if_neg h3, if_neg (show ¬ (o.kind = 4 ∨ o.kind = 5) from fun q => q.elim h4 h5), h6]
    rw [ht]
    unfold ev.okP
    rw [Bool.and_eq_true]
    refine ⟨?_, (evB_iff _ _).2 rfl⟩
    show (ev.wi 6 0 7 && (ev.wi f.id 1 1099511627776 && true)) = true
    rw [hid]; rfl
  · rw [if_neg h6] at hc; cases hc
theorem tell_kind (f : Fl) (o : Opv) : (tellE f o).kind = o.kind ∧ (tellE f o).id = f.id ∧ (tellE f o).name.length ≤ o.tx.size := by
  unfold tellE
  repeat' split
  all_goals exact ⟨rfl, rfl, by first | exact Nat.zero_le _ | (rw [Array.length_toList]; exact Nat.le_refl _)⟩
/-- What Do answers, by its code. -/
theorem doR_no (f : Fl) (L : List ByteArray) (o : Opv) (fl : Int) (h : (doR f L o fl).2.2.2 ≠ 0) : (doR f L o fl).1 = f ∧ (doR f L o fl).2.1 = L ∧ (doR f L o fl).2.2.1 = ev0 := by
  unfold doR at h ⊢
  by_cases h0 : (doneR f L o fl).2.2 = 0
  · rw [if_pos h0] at h; exact absurd rfl h
  · rw [if_neg h0]; exact ⟨rfl, rfl, rfl⟩
theorem doR_ok (f : Fl) (L : List ByteArray) (o : Opv) (fl : Int) (h : (doR f L o fl).2.2.2 = 0) : (doneR f L o fl).2.2 = 0 ∧ (doR f L o fl).2.2.1 = tellE f o ∧ (o.kind = 6 → (doR f L o fl).1 = fl0 ∧ (doR f L o fl).2.1 = []) := by
  unfold doR at h ⊢
  by_cases h0 : (doneR f L o fl).2.2 = 0
  · rw [if_pos h0]
    refine ⟨h0, rfl, fun h6 => ?_⟩
    unfold doneR
    rw [if_neg (by omega), if_neg (by omega), if_neg (by omega), if_neg (by omega), if_neg (by omega), if_neg (by omega), if_pos h6]
    exact ⟨rfl, rfl⟩
  · rw [if_neg h0] at h; exact absurd h h0
abbrev KS (w : World) (bf bA bB : Nat) (g : Fl) (h : Fl) (e : Ev) (v : World) : Prop := KW w.heap.size w [(bB, .cells (evr e) 35), (bA, .cells (flr h) 24), (bf, .cells (flr g) 24)] v

set_option maxHeartbeats 8000000 in
set_option maxRecDepth 100000 in
theorem walk (f : Fl) (L : List ByteArray) (l : List Opv) (p1 : Option Addr) (c1 : Nat) (fl : Int) (w : World) (wf : f.wf w L) (hE : OpsAt w.heap.size w p1 l) (hO : ∀ o ∈ l, o.wf) (hm : l.length ≤ maxLen) (wi : (Lit.int .i64 fl).wf = true) :
    Calls Tryz.prog 3 #[.agg (flr f), .slice p1 l.length c1, .int .i64 fl] w fun e w' => e = .returned (.bool true) ∧ Below w.heap.size w w' := by
  have hz := zero27
  have hz3 := zero33
  have EE := Lib.hid hE
  have OO := Lib.hid hO
  have WF := Lib.hid wf
  unfold maxLen at hm
  have K0 := Lib.hid ((KW.start w).new (.cells (flr f) 24))
  have cv := Lib.hid (fun v (hb : Below w.heap.size w v) => validf_wide f L v (wf.at_.on hb) wf.n wf.m wf.s wf.nm)
  clear hE hO wi wf
  go_enter Tryz.func3, Tryz.ntmps3
  go_wp2_with fail
  refine (works_any _).mono ?_
  rintro e v1 ⟨rfl, hb⟩
  have K1 := Lib.hid (K0.out.past hb)
  clear hb K0
  by_cases h20 : 20 < l.length
  · have t1 : decide ((20 : Int) < (l.length : Int)) = true := decide_eq_true (by omega)
    have t2 : (20 : Int) < (l.length : Int) := by omega
    clear hm h20
    generalize l.length = n2 at *
    go_wp2_with fail
    go_ret
    exact ⟨rfl, K1.out.bel⟩
  have t1 : decide ((20 : Int) < (l.length : Int)) = false := decide_eq_false (by omega)
  have t2 : ¬ (20 : Int) < (l.length : Int) := by omega
  have h20' : l.length ≤ 20 := by omega
  clear h20 hm
  go_wp2_with (refine wpList_load_row_g (by with_unfolding_all rfl) 24 (.tmp 3) rfl _ rfl 24 _ _ (K1.out.at 0 rfl) Tryz.underlying24 rfl (row27 _) ?_)
  refine (cv.out _ K1.out.bel).mono ?_
  rintro e v2 ⟨rfl, hb⟩
  have K2 := Lib.hid (K1.out.past hb)
  clear hb K1 cv
  cases hvl : vlB f L with
  | false =>
    go_wp2_with fail
    go_ret
    exact ⟨rfl, K2.out.bel⟩
  | true =>
  have st : Hid (FV w w.heap.size f L v2) := Lib.hid ⟨K2.out, WF.out.at_.on K2.out.bel, WF.out.n⟩
  have hv0 := Lib.hid hvl
  clear hvl K2
  go_wp2_with fail
  clear t1 t2
  go_loopw [8] (fun j wr => ∃ (k : Nat) (g : Fl) (M : List ByteArray), k ≤ l.length ∧ j = .int .i64 (k : Int) ∧ Hid (FV w w.heap.size g M wr) ∧ Hid (vlB g M = true ∧ M.length ≤ maxLen ∧ (∀ y ∈ M, y.size ≤ maxLen) ∧ g.nm.size ≤ maxLen)) (fun j _ => l.length - (intOf j).toNat)
  case atStart => exact ⟨0, f, L, Nat.zero_le _, rfl, st, Lib.hid ⟨hv0.out, WF.out.m, WF.out.s, WF.out.nm⟩⟩
  case round =>
    obtain ⟨k, g, M, hk, rfl, S, hg⟩ := hrel
    rename_i wr
    clear st hv0
    by_cases hlt : k < l.length
    · have hlt' : (k : Int) < (l.length : Int) := by omega
      have hlt2 : decide (k < l.length) = true := by simpa using hlt
      rcases EE.out with h0 | ⟨b1, o1, rfl, l1, hc1⟩
      · rw [h0] at hlt; simp at hlt
      have hR := Lib.hid (fun (u : World) (hu : Below w.heap.size w u) => load_op b1 (o1 + k * 6) l[k] u (rangeAt_past (hc1 k hlt) hu l1))
      have hQ0 := Lib.hid (fun (u : World) (hu : Below w.heap.size w u) => (rangeAt_past (hc1 k hlt) hu l1 0 (.int .i64 l[k].kind) rfl : u.cell? ⟨b1, o1 + k * 6 + 0, none⟩ = some (.int .i64 l[k].kind)))
      have wo := Lib.hid (OO.out l[k] (List.getElem_mem hlt))
      clear hc1
      generalize l[k] = o at *
      simp only [Nat.add_zero] at hQ0
      have cf := Lib.hid (fun (u : World) (hu : FV w w.heap.size g M u) => fewo_any g o M u hu.at_ hu.n hg.out.2.1)
      go_upto_region 9 with fail
      refine wp_region_class (FV w w.heap.size g M) (by kernel_rfl) (by kernel_rfl) S.out.drew ?_
      refine wpQuiet_load (by rfl) 24 (.tmp 3) rfl _ rfl 24 (flr g) _ (fun u hu => hu.kw.at 0 rfl) Tryz.underlying24 rfl (row27 _) ?_
      simp only [Act.put, List.setIfInBounds_toArray, List.set_cons_zero, List.set_cons_succ]
      refine wpQuiet_move (by rfl) _ (.inl rfl) (.slice (some ⟨b1, o1, none⟩) l.length c1) rfl ?_
      simp only [Act.put, List.setIfInBounds_toArray, List.set_cons_zero, List.set_cons_succ]
      refine wpQuiet_move (by rfl) _ (.inl rfl) (.int .i64 (k : Int)) rfl ?_
      simp only [Act.put, List.setIfInBounds_toArray, List.set_cons_zero, List.set_cons_succ]
      refine wpQuiet_index (by rfl) 25 _ _ rfl _ _ rfl rfl _ (fun u => index47 b1 o1 l.length c1 k hlt u) ?_
      simp only [Act.put, List.setIfInBounds_toArray, List.set_cons_zero, List.set_cons_succ]
      refine wpQuiet_mid (by rfl) 31 _ rfl b1 (o1 + k * 6) rfl (.agg (opr o)) (fun u hu => hR.out u hu.kw.bel) ?_
      simp only [Act.put, List.setIfInBounds_toArray, List.set_cons_zero, List.set_cons_succ]
      refine wpQuiet_call2 (by rfl) 6 (.tmp 31) (.tmp 35) _ rfl ent6 _ _ rfl rfl (.bool (foB g M o)) (fun u hu => (cf.out u hu).mono (fun e u' he => ⟨he.1, hu.past he.2⟩)) ?_
      simp only [Act.put, List.setIfInBounds_toArray, List.set_cons_zero, List.set_cons_succ]
      refine wpQuiet_move (by rfl) _ (.inr rfl) (.bool (foB g M o)) rfl ?_
      simp only [Act.put, List.setIfInBounds_toArray, List.set_cons_zero, List.set_cons_succ]
      refine wpQuiet_nil ?_
      intro x hx
      have S1 := Lib.hid hx
      clear hx S cf
      cases hfo : foB g M o with
      | false =>
        go_wp2_with fail
        go_ret
        exact ⟨rfl, S1.out.kw.bel⟩
      | true =>
        have hfb : Hid (M.length ≤ 200 ∧ (∀ x ∈ M, x.size ≤ 200) ∧ g.da.size ≤ 2000 ∧ o.tx.size ≤ 700 ∧ g.nm.size ≤ 200) := Lib.hid (by
          unfold foB at hfo
          simp only [Bool.and_eq_true, decide_eq_true_eq] at hfo
          have := fewB_true hfo.1
          exact ⟨this.1, this.2.1, this.2.2.1, hfo.2.1, this.2.2.2⟩)
        clear hfo
        go_upto_region 12 with fail
        have hds := Lib.hid (doR_valid g M o fl hg.out.1)
        have hrow := Lib.hid (doR_rows g M o fl)
        have hmem := Lib.hid (doR_mem g M o fl)
        have hno := Lib.hid (doR_no g M o fl)
        have hok := Lib.hid (doR_ok g M o fl)
        have hto := Lib.hid (told_ok g M o fl hg.out.1)
        have hElen := Lib.hid (doR_len g M o fl)
        have hcl := Lib.hid (fun (u : World) (hu : FV w w.heap.size g M u) (hN : x.heap.size ≤ u.heap.size) => do_calls x.heap.size g o fl M u hN hu.at_ hu.n (by have := hfb.out.1; omega) (fun y hy => by have := hfb.out.2.1 y hy; omega) (by have := hfb.out.2.2.1; omega) (by have := hfb.out.2.2.2.1; omega))
        refine wp_region_do (P := Tryz.prog) 6 [.agg (flr g), .slice (some ⟨b1, o1, none⟩) l.length c1, .int .i64 (k : Int), .pointer (some ⟨b1, o1 + k * 6, none⟩), .agg (opr o), .int .i64 fl] 7 _ _ #[.agg (flr g), .agg (opr o), .int .i64 fl] 47 40 48 49 50 10 11 12 24 35 (flr fl0) (evr ev0) (DoΦ x.heap.size (doR g M o fl)) (by kernel_rfl) (by kernel_rfl) rfl rfl (DoΦ.keep _ _) ?head _ _ _ _ _ _ _ _ _ _ rfl rfl rfl rfl rfl rfl rfl rfl rfl rfl rfl rfl rfl rfl rfl rfl rfl rfl rfl rfl rfl rfl rfl rfl rfl rfl rfl rfl rfl rfl (by kernel_rfl) (by kernel_rfl) (by kernel_rfl) (by kernel_rfl) (by kernel_rfl) (by kernel_rfl) (by kernel_rfl) (by kernel_rfl) (by kernel_rfl) ent7 ?args (fun u hB => hcl.out u (S1.out.past hB) hB.size) zero27 zero33 ?fin
        case head =>
          intro j oj vj ho hv a u hk hb hB
          have hu := S1.out.past hB
          match j, ho, hv with
          | 0, ho, hv =>
            obtain rfl := Option.some.inj ho
            obtain rfl := Option.some.inj hv
            exact x_load_row 24 (.tmp 3) rfl w.heap.size (eval_tmp ((hb 3 (by kernel_rfl)).trans rfl)) 24 (flr g) _ (hu.kw.at 0 rfl) Tryz.underlying24 rfl (row27 _)
          | 1, ho, hv =>
            obtain rfl := Option.some.inj ho
            obtain rfl := Option.some.inj hv
            exact x_move (.tmp 1) (.inl rfl) _ (eval_tmp ((hb 1 (by kernel_rfl)).trans rfl))
          | 2, ho, hv =>
            obtain rfl := Option.some.inj ho
            obtain rfl := Option.some.inj hv
            exact x_move (.tmp 8) (.inl rfl) _ (eval_tmp ((hb 8 (by kernel_rfl)).trans rfl))
          | 3, ho, hv =>
            obtain rfl := Option.some.inj ho
            obtain rfl := Option.some.inj hv
            exact x_index 25 (.tmp 42) (.tmp 43) rfl _ _ _ (eval_tmp (hk 1 _ 42 _ (by kernel_rfl) rfl rfl rfl)) (eval_tmp (hk 2 _ 43 _ (by kernel_rfl) rfl rfl rfl)) (index47 b1 o1 l.length c1 k hlt u)
          | 4, ho, hv =>
            obtain rfl := Option.some.inj ho
            obtain rfl := Option.some.inj hv
            exact x_load 31 (.tmp 44) rfl _ _ (eval_tmp (hk 3 _ 44 _ (by kernel_rfl) rfl rfl rfl)) (hR.out u hu.kw.bel)
          | 5, ho, hv =>
            obtain rfl := Option.some.inj ho
            obtain rfl := Option.some.inj hv
            exact x_move (.tmp 2) (.inl rfl) _ (eval_tmp ((hb 2 (by kernel_rfl)).trans rfl))
          | j + 6, ho, hv => simp at hv
        case args =>
          intro a hk hb
          have e1 := eval_tmp (hk 0 _ 41 _ (by kernel_rfl) rfl rfl rfl)
          have e2 := eval_tmp (hk 4 _ 45 _ (by kernel_rfl) rfl rfl rfl)
          have e3 := eval_tmp (hk 5 _ 46 _ (by kernel_rfl) rfl rfl rfl)
          simp only [List.map_toArray, List.map_cons, List.map_nil, e1, e2, e3]
        case fin =>
          rintro x1 y1 z1 lo hi bA bB u hB ⟨a', c', rfl, rfl, rfl, hfr, hlo⟩ hhi hA hBb nA nB nab aA aB
          have S4 := Lib.hid (S1.out.past hB)
          have hs3 := Lib.hid (S1.out.kw.lt 0 rfl)
          generalize doR g M o fl = R at *
          obtain ⟨G, M2, E, code⟩ := R
          dsimp only at hfr hA hBb
          have hG := hds.out
          have hN0 := hno.out
          have hK0 := hok.out
          have hE32 := hElen.out
          dsimp only at hG hN0 hK0 hE32
          have hE3 := Lib.hid hE32
          have KK : Hid (KS w w.heap.size bA bB g { G with ha := a', hn := M2.length, hc := c' } E u) := Lib.hid (((S4.out.kw.know bA _ hA (by have := hs3.out; simp; omega)).know bB _ hBb (by have := hs3.out; simp; omega)))
          have f4 : Hid (StrAt u.heap.size u a' M2) := Lib.hid (hfr.str hhi)
          have hF := Lib.hid hfr
          have hlo' := Lib.hid hlo
          have hhi' := Lib.hid hhi
          have q0 := hQ0.out u S4.out.kw.bel
          have hMs : Hid (∀ y ∈ M2, y.size ≤ maxLen) := Lib.hid (fun y hy => by
            rcases hmem.out y hy with q | q
            · exact hg.out.2.2.1 y q
            · rw [q]; exact wo.out.tx)
          have hM2 : Hid (M2.length ≤ maxLen) := Lib.hid (by have h1 := hrow.out; have h2 := hfb.out.1; dsimp only at h1; unfold maxLen; omega)
          clear hfr hA hBb hB hds hrow hcl hmem nA nB nab aA aB hlo hhi S1 hno hok hElen hE32
          simp only [putAll, List.cons_append, List.nil_append, List.getD_cons_zero, List.getD_cons_succ, Nat.zero_add, Nat.reduceAdd]
          simp only [Act.put, List.setIfInBounds_toArray, List.set_cons_zero, List.set_cons_succ]
          by_cases h0 : code = 0
          · subst h0
            have t1 : ((0 : Int) != 0) = false := rfl
            obtain ⟨hk1, rfl, hk6⟩ := hK0 rfl
            have hev := Lib.hid (fun v => ev.evalid_any (tellE g o) hE3.out (by have h1 := (tell_kind g o).2.2; have := hfb.out.2.2.2.1; omega) v)
            rw [hto.out hk1] at hev
            have c0 : (evr (tellE g o))[0]? = some (.int .i64 o.kind) := by rw [evr0, (tell_kind g o).1]
            have c1' : (evr (tellE g o))[1]? = some (.int .i64 g.id) := by rw [evr1, (tell_kind g o).2.1]
            have hG' := Lib.hid (hG rfl)
            have hk6' := Lib.hid hk6
            clear hG hN0 hK0 hk1 hk6 hto
            generalize tellE g o = E at *
            go_upto_region 16 with fail
            refine wp_region_class (fun v => KS w w.heap.size bA bB g { G with ha := a', hn := M2.length, hc := c' } E v ∧ Below u.heap.size u v) (by kernel_rfl) (by kernel_rfl) ⟨KK.out.drew, (Below.refl _ _).drew⟩ ?_
            refine wpQuiet_load (by rfl) 35 (.tmp 11) rfl bB rfl 35 (evr E) _ (fun v hv => hv.1.at 0 rfl) Tryz.underlying35 rfl (row33 _ hE3.out) ?_
            simp only [Act.put, List.setIfInBounds_toArray, List.set_cons_zero, List.set_cons_succ]
            refine wpQuiet_call1 (by rfl) 9 (.tmp 62) _ rfl ent9 _ rfl (.bool true) (fun v hv => (hev.out v).mono (fun e v' he => ⟨he.1, hv.1.past he.2, hv.2.trans (he.2.mono hv.2.size)⟩)) ?_
            simp only [Act.put, List.setIfInBounds_toArray, List.set_cons_zero, List.set_cons_succ]
            refine wpQuiet_not (by rfl) 4 (.tmp 63) rfl true rfl ?_
            simp only [Act.put, List.setIfInBounds_toArray, List.set_cons_zero, List.set_cons_succ]
            refine wpQuiet_move (by rfl) _ (.inl rfl) (.bool false) rfl ?_
            simp only [Act.put, List.setIfInBounds_toArray, List.set_cons_zero, List.set_cons_succ]
            refine ev.wpQuiet_field (by rfl) 1 _ rfl bB rfl (by decide) ?_
            simp only [Act.put, List.setIfInBounds_toArray, List.set_cons_zero, List.set_cons_succ]
            refine wpQuiet_cell (by rfl) 3 _ rfl bB 1 rfl Tryz.isAgg3 (.int .i64 g.id) (fun v hv => hv.1.cell 0 rfl 1 c1') ?_
            simp only [Act.put, List.setIfInBounds_toArray, List.set_cons_zero, List.set_cons_succ]
            refine wpQuiet_field (by rfl) 0 _ rfl w.heap.size rfl (by decide) ?_
            simp only [Act.put, List.setIfInBounds_toArray, List.set_cons_zero, List.set_cons_succ]
            refine wpQuiet_cell (by rfl) 3 _ rfl w.heap.size 0 rfl Tryz.isAgg3 (.int .i64 g.id) (fun v hv => hv.1.cell 2 rfl 0 rfl) ?_
            simp only [Act.put, List.setIfInBounds_toArray, List.set_cons_zero, List.set_cons_succ]
            refine wpQuiet_icmp (by rfl) .neq 3 3 (.tmp 67) (.tmp 69) rfl .i64 g.id g.id rfl rfl false (by simp) ?_
            simp only [Act.put, List.setIfInBounds_toArray, List.set_cons_zero, List.set_cons_succ]
            refine wpQuiet_pick (by rfl) (.tmp 65) _ (.tmp 70) rfl false rfl (.bool false) rfl ?_
            simp only [Act.put, List.setIfInBounds_toArray, List.set_cons_zero, List.set_cons_succ]
            refine wpQuiet_move (by rfl) _ (.inl rfl) (.bool false) rfl ?_
            simp only [Act.put, List.setIfInBounds_toArray, List.set_cons_zero, List.set_cons_succ]
            refine ev.wpQuiet_field (by rfl) 0 _ rfl bB rfl (by decide) ?_
            simp only [Act.put, List.setIfInBounds_toArray, List.set_cons_zero, List.set_cons_succ]
            refine wpQuiet_cell (by rfl) 29 _ rfl bB 0 rfl Tryz.isAgg29 (.int .i64 o.kind) (fun v hv => hv.1.cell 0 rfl 0 c0) ?_
            simp only [Act.put, List.setIfInBounds_toArray, List.set_cons_zero, List.set_cons_succ]
            refine wpQuiet_move (by rfl) _ (.inl rfl) (.slice (some ⟨b1, o1, none⟩) l.length c1) rfl ?_
            simp only [Act.put, List.setIfInBounds_toArray, List.set_cons_zero, List.set_cons_succ]
            refine wpQuiet_move (by rfl) _ (.inl rfl) (.int .i64 (k : Int)) rfl ?_
            simp only [Act.put, List.setIfInBounds_toArray, List.set_cons_zero, List.set_cons_succ]
            refine wpQuiet_index (by rfl) 25 _ _ rfl _ _ rfl rfl _ (fun v => index47 b1 o1 l.length c1 k hlt v) ?_
            simp only [Act.put, List.setIfInBounds_toArray, List.set_cons_zero, List.set_cons_succ]
            refine wpQuiet_val (by rfl) (.pointer (some ⟨b1, o1 + k * 6, none⟩)) (fun v _ => run_val (field31 b1 (o1 + k * 6) v)) ?_
            simp only [Act.put, List.setIfInBounds_toArray, List.set_cons_zero, List.set_cons_succ]
            refine wpQuiet_cell (by rfl) 29 _ rfl b1 (o1 + k * 6) rfl Tryz.isAgg29 (.int .i64 o.kind) (fun v hv => hQ0.out v hv.1.bel) ?_
            simp only [Act.put, List.setIfInBounds_toArray, List.set_cons_zero, List.set_cons_succ]
            refine wpQuiet_icmp (by rfl) .neq 29 29 (.tmp 74) (.tmp 79) rfl .i64 o.kind o.kind rfl rfl false (by simp) ?_
            simp only [Act.put, List.setIfInBounds_toArray, List.set_cons_zero, List.set_cons_succ]
            refine wpQuiet_pick (by rfl) (.tmp 72) _ (.tmp 80) rfl false rfl (.bool false) rfl ?_
            simp only [Act.put, List.setIfInBounds_toArray, List.set_cons_zero, List.set_cons_succ]
            refine wpQuiet_nil ?_
            rintro x2 ⟨hx1, hx2⟩
            have K5 := Lib.hid hx1
            have f5 := Lib.hid (f4.out.on hx2)
            have hx2' := Lib.hid hx2
            clear hx1 hx2 KK f4 S4 hev c0 c1' q0
            have q0 := hQ0.out x2 K5.out.bel
            by_cases h6 : o.kind = 6
            · have t6 : (o.kind == 6) = true := by simpa using h6
              obtain ⟨rfl, rfl⟩ := hk6'.out h6
              have cs := Lib.hid (same_any { fl0 with ha := a', hn := ([] : List ByteArray).length, hc := c' } fl0 [] [] x2 f5.out (StrAt.none _ _ _) (Nat.zero_le _) rfl rfl)
              rw [sameB_refl { fl0 with ha := a', hn := ([] : List ByteArray).length, hc := c' } fl0 [] rfl rfl rfl rfl rfl] at cs
              clear h6 hG' hk6' hMs hM2
              go_wp2_with (refine wpList_load_row_g (by with_unfolding_all rfl) 24 (.tmp 10) rfl _ rfl 24 _ _ (K5.out.at 1 rfl) Tryz.underlying24 rfl (row27 _) ?_)
              refine cs.out.mono ?_
              rintro e v7 ⟨rfl, hb⟩
              have K6 := Lib.hid (K5.out.past hb)
              clear hb K5 cs
              go_wp2_with fail
              go_ret
              exact ⟨rfl, K6.out.bel⟩
            · have t6 : (o.kind == 6) = false := by simpa using h6
              have hv2 := Lib.hid (hG'.out h6)
              have hnm : Hid (G.nm.size ≤ maxLen) := Lib.hid (by rw [hv2.out.2.2]; exact hg.out.2.2.2)
              have cvl := Lib.hid (validf_wide { G with ha := a', hn := M2.length, hc := c' } M2 x2 f5.out rfl hM2.out hMs.out hnm.out)
              rw [vl_same G a' M2.length c' M2, hv2.out.1] at cvl
              clear h6 hG' hk6'
              go_wp2_with (refine wpList_load_row_g (by with_unfolding_all rfl) 24 (.tmp 10) rfl _ rfl 24 _ _ (K5.out.at 1 rfl) Tryz.underlying24 rfl (row27 _) ?_)
              refine cvl.out.mono ?_
              rintro e v7 ⟨rfl, hb⟩
              have K6 := Lib.hid (K5.out.past hb)
              have f6 := Lib.hid (f5.out.on hb)
              have i0 := K6.out.cell 1 rfl 0 (y := .int .i64 g.id) (by unfold flr; rw [hv2.out.2.1]; rfl)
              have i1 := K6.out.cell 1 rfl 1 (y := .string g.nm) (by unfold flr; rw [hv2.out.2.2]; rfl)
              have j0 := K6.out.cell 2 rfl 0 (y := .int .i64 g.id) rfl
              have j1 := K6.out.cell 2 rfl 1 (y := .string g.nm) rfl
              have hus := Lib.hid hx2'.out.size
              have F6 : FrR lo hi v7 a' M2 := hF.out.keep (fun b h1 h2 => (hb.block b (by have := hhi'.out; have := hus.out; omega)).trans (hx2'.out.block b (by have := hhi'.out; omega)))
              have K7 := Lib.hid (K6.out.drop.drop.row 0 rfl (Nat.le_refl _) (flr { G with ha := a', hn := M2.length, hc := c' }))
              have f7 : Hid (StrAt (v7.setRow w.heap.size (flr { G with ha := a', hn := M2.length, hc := c' })).heap.size (v7.setRow w.heap.size (flr { G with ha := a', hn := M2.length, hc := c' })) a' M2) := Lib.hid ((F6.keep (v := v7.setRow w.heap.size (flr { G with ha := a', hn := M2.length, hc := c' })) (fun b h1 _ => setRow_other _ _ _ _ (by have := hs3.out; have := hlo'.out; omega))).str (by rw [size_setRow]; have := hhi'.out; have := hus.out; have := hb.size; omega))
              have S7 : Hid (FV w w.heap.size { G with ha := a', hn := M2.length, hc := c' } M2 (v7.setRow w.heap.size (flr { G with ha := a', hn := M2.length, hc := c' }))) := Lib.hid ⟨K7.out, f7.out, rfl⟩
              have hg7 : Hid (vlB { G with ha := a', hn := M2.length, hc := c' } M2 = true ∧ M2.length ≤ maxLen ∧ (∀ y ∈ M2, y.size ≤ maxLen) ∧ ({ G with ha := a', hn := M2.length, hc := c' }).nm.size ≤ maxLen) := Lib.hid ⟨hv2.out.1, hM2.out, hMs.out, hnm.out⟩
              clear hb K5 K7 f7 F6 f5 f6 hv2 hM2 hMs hnm hus hF hx2' hhi' hlo' hs3 cvl hg hE3
              go_wp2_with (first
                | (refine wpList_load_row (by rfl) 24 (.tmp 10) rfl _ rfl 24 _ _ (K6.out.at 1 rfl) Tryz.underlying24 rfl (row27 _) ?_)
                | (refine wpList_store_row (by rfl) 24 (.tmp 3) (.tmp 111) rfl _ (flr { G with ha := a', hn := M2.length, hc := c' }) rfl rfl 24 _ (K6.out.at 2 rfl) (row27 _) (flr_same _ _) (flr_one _) ?_))
              go_roundw
              case rel => exact ⟨k + 1, { G with ha := a', hn := M2.length, hc := c' }, M2, by omega, by go_num, S7, hg7⟩
              case measure => simp [intOf]; omega
          · have t1 : (code != 0) = true := by simpa using h0
            obtain ⟨rfl, rfl, rfl⟩ := hN0 h0
            have cs := Lib.hid (same_any { G with ha := a', hn := M2.length, hc := c' } G M2 M2 u f4.out S4.out.at_ hM2.out rfl S4.out.n)
            rw [sameB_refl { G with ha := a', hn := M2.length, hc := c' } G M2 rfl rfl rfl rfl rfl] at cs
            have ee : Hid (∀ v, (Op.equalIn 10000 35 (.agg (evr ev0)) (.agg (evr ev0))).run Tryz.prog v = .ok true v) := Lib.hid (fun v => by rw [eql_ev ev0 ev0 z32_len z32_len, (evB_iff ev0 ev0).2 rfl])
            clear hG hN0 hK0 h0 q0 hto f4
            go_wp2_with (first
              | (refine wpList_load_row (by rfl) 24 (.tmp 10) rfl _ rfl 24 _ _ (KK.out.at 1 rfl) Tryz.underlying24 rfl (row27 _) ?_)
              | (refine wpList_load_row (by rfl) 24 (.tmp 3) rfl _ rfl 24 _ _ (KK.out.at 2 rfl) Tryz.underlying24 rfl (row27 _) ?_))
            refine cs.out.mono ?_
            rintro e v7 ⟨rfl, hb⟩
            have K6 := Lib.hid (KK.out.past hb)
            have S6 := Lib.hid (S4.out.past hb)
            clear hb KK S4 cs
            go_wp2_with (first
              | (refine wpList_load_row_g (by with_unfolding_all rfl) 35 (.tmp 11) rfl _ rfl 35 _ _ (K6.out.at 0 rfl) Tryz.underlying35 rfl (row33 _ z32_len) ?_)
              | (refine wpList_dne_g (by with_unfolding_all rfl) 35 35 (.tmp 58) (.tmp 59) rfl (evr ev0) (evr ev0) rfl rfl (by kernel_rfl) true ee.out ?_))
            go_roundw
            case rel => exact ⟨k + 1, G, M2, by omega, by go_num, S6, hg⟩
            case measure => simp [intOf]; omega
    · obtain rfl : k = l.length := by omega
      have hlt' : ¬ (l.length : Int) < (l.length : Int) := by omega
      have hlt2 : decide (l.length < l.length) = false := by simp
      go_wp2_with fail
      go_ret
      exact ⟨rfl, S.out.kw.bel⟩

set_option maxRecDepth 100000 in
theorem lifted (os : Os) (started : os.Started) (H : Type) (enc : TypeId × Value → H) :
    ReturnsInHanded {} Tryz.checked os 3 .any (Rows.fileStaysSpec.pre6 enc Tryz.prog Tryz.f3 Rows.fileStaysRow.domain false) (Rows.fileStaysSpec.post enc Tryz.prog Tryz.f3 false true false false) := by
  refine returnsInHanded_of_change (C := Tryz.checked) own started (by kernel_rfl) Tryz.func3
    (ChangeSpec.witness6 (enc := enc) (C := Tryz.checked) false ⟨#[], #[.agg #[.int .i64 0, .string ByteArray.empty, .string ByteArray.empty, .bool false, .int .i64 0, .slice none 0 0], .slice none 0 0, .int .i64 0], []⟩ 8 (by kernel_rfl) (by kernel_rfl) (by kernel_rfl) (by kernel_rfl)) ?_
  intro W base args ds gs before hval0 hW hcnd _
  have hval : ∀ (j : Nat) t v, Tryz.f3.params[j]? = some t → args[j]? = some v → Value.okWide Tryz.prog W .any base t v := hval0
  have hW' := hW
  obtain ⟨p, q, hA0, hV, rfl, hfz, hnd⟩ := hW
  have hA : DataW.TrodAll enc Tryz.prog W 0 (fun _ => true) true Tryz.f3.params.toList args.toList ds p := hA0
  rw [Tryz.params3] at hA hval
  obtain ⟨v0, vs0, d0, ds0, p0, q0, hargs, rfl, rfl, h0, r0⟩ := trodAll_cons hA
  obtain ⟨v1, vs1, d1, ds1, p1, q1, rfl, rfl, rfl, h1, r1⟩ := trodAll_cons r0
  obtain ⟨v2, vs2, d2, ds2, p2, q2, rfl, rfl, rfl, h2, r2⟩ := trodAll_cons r1
  obtain ⟨rfl, rfl, rfl⟩ := trodAll_nil r2
  obtain rfl : args = #[v0, v1, v2] := by cases args; simp_all
  obtain ⟨rfl, rfl⟩ := trodVars_none hV
  have k0 := h0
  have lt0 : ∀ x ∈ p0, x.block < W.heap.size := by obtain ⟨m, hm⟩ := k0; exact DataW.trod_lt m _ _ _ hm
  obtain ⟨f0, L0, rfl, wf0⟩ := open_file (hval 0 24 v0 rfl rfl) h0
  have k1 := h1
  have lt1 : ∀ x ∈ p1, x.block < W.heap.size := by obtain ⟨m, hm⟩ := k1; exact DataW.trod_lt m _ _ _ hm
  obtain ⟨a1, len1, cap1, rfl⟩ := okWide_slice Tryz.underlying25 (hval 1 25 v1 rfl rfl)
  obtain ⟨fuel1, hf1⟩ := h1
  obtain ⟨a, c, L1, hcs1, E1, wf1, mx1⟩ := open_ops (cs := [Value.slice a1 len1 cap1]) hf1
  simp only [List.cons.injEq, Value.slice.injEq, and_true] at hcs1
  obtain ⟨rfl, rfl, rfl⟩ := hcs1
  obtain ⟨a2, rfl, rfl, rfl, w2⟩ := open_int Tryz.underlying3 (hval 2 3 v2 rfl rfl) h2
  clear hA0 hval0
  refine (walk f0 L0 L1 a1 cap1 a2 W wf0 E1 wf1 mx1 w2).mono fun e W' ⟨he, bel⟩ => ?_
  subst he
  exact ⟨_, rfl, _, _, _, [], _, [], hW', trodAll_mk1 (shut_bool Tryz.underlying4 _), (trodAll_cons_mk (Below.trod laidOut (by kernel_rfl) (of_decide_eq_true (by kernel_rfl)) k0 bel lt0) (trodAll_cons_mk (Below.trod laidOut (by kernel_rfl) (of_decide_eq_true (by kernel_rfl)) k1 bel lt1) (trodAll_cons_mk (shut_int Tryz.underlying3 w2) trodAll_mk0))), rfl, bel.frame _, fun h => by cases h⟩

theorem over : Rows.fileStaysRow.holds Tryz.pinned (OpenSpec.ofChange Rows.fileStaysSpec) :=
  OpenClaim.holds_of_wide 3 Tryz.f3 rfl rfl rfl rfl rfl rfl rfl ⟨rfl, rfl, rfl, rfl, rfl⟩ rfl rfl rfl rfl rfl (by kernel_rfl) Tryz.func3 (by kernel_rfl)
    (of_decide_eq_true (by kernel_rfl)) (by unfold Func.isWrapper; first | (rw [if_pos (by decide +kernel)]; kernel_rfl) | (rw [if_neg (by decide +kernel)]; exact ⟨rfl, rfl⟩))
    (fun os started H enc _ => lifted os started H enc)

/-- The given statement. -/
theorem fileStays_proved : Rows.FileStaysSaid :=
  over
#print axioms fileStays_proved
end Go.Proofs.YtphbkbjgjicncaaGreat.fileStays
