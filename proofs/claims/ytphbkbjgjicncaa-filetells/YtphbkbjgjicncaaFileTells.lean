/-
  For every two files, any two places and any text, FileTells returns true: which file may be, what is read of it, a new one, whether two are alike, and a file without its bytes, are just what the document says.
  Conditions: none beyond the given statement's own.
-/
import Derived.Test.YtphbkbjgjicncaaRows
import Derived.Test.YtphbkbjgjicncaaWorks
import Derived.Test.YtphbkbjgjicncaaOpens
import Derived.Test.YtphbkbjgjicncaaOpenOps
import Derived.Test.YtphbkbjgjicncaaRefs
import Derived.Test.YtphbkbjgjicncaaRVal
import Derived.Test.YtphbkbjgjicncaaRest
import Derived.Test.YtphbkbjgjicncaaDoReg
import Derived.Test.YtphbkbjgjicncaaEqls
import Derived.Test.YtphbkbjgjicncaaShut
import Derived.WalkKit
import Derived.ProofKit
import Derived.OpenShut
import Derived.ShutString
import Derived.ChangeOld
import Derived.Below
namespace Go.Proofs.Ytphbkbjgjicncaa.fileTells
open Go.ChangeShapes Go.WideShapes Go.ChangeAt Go.RowKit
open Go.ChangeMaps (open_string shut_string)
set_option linter.unusedVariables false

theorem own : ownKnob Try.prog.godebug = none := by kernel_rfl
theorem laidOut : laidOutB Try.prog = true := by kernel_rfl

section
variable {P : Program} {a : Act} {w : World} {o : Oper}
theorem x_pick (c x y : Operand) (ho : o.op = .pick c x y) (b : Bool) (hc : a.eval c = .bool b) (v : Value) (hx : (if b then a.eval x else a.eval y) = v) : (execOp a.eval o).run P w = .ok (.value v) w := by
  unfold execOp; rw [← hx]; cases b <;> simp [ho, hc, asBool]
end
theorem ent16 : ∀ args w, (callFunc 16 args).run Try.prog w = .ok (.enter 16 args) w := enters_of Try.func16 (by kernel_rfl) rfl
theorem ent23 : ∀ args w, (callFunc 23 args).run Try.prog w = .ok (.enter 23 args) w := enters_of Try.func23 (by kernel_rfl) rfl
theorem ent24 : ∀ args w, (callFunc 24 args).run Try.prog w = .ok (.enter 24 args) w := enters_of Try.func24 (by kernel_rfl) rfl
theorem ent25 : ∀ args w, (callFunc 25 args).run Try.prog w = .ok (.enter 25 args) w := enters_of Try.func25 (by kernel_rfl) rfl
theorem newF_row (i : Int) (s : ByteArray) : (newF i s).1.ha = none ∧ (newF i s).1.hn = 0 ∧ (newF i s).1.hc = 0 := by
  unfold newF
  split
  · exact ⟨rfl, rfl, rfl⟩
  · split <;> exact ⟨rfl, rfl, rfl⟩
/-- The blocks that are known. -/
abbrev KT (w : World) (f g : Fl) (bn bm bt : Nat) (N M : Fl) (v : World) : Prop := KW w.heap.size w [(bt, .cells (flr M) 24), (bm, .cells (flr N) 24), (bn, .cells (flr N) 24), (w.heap.size + 1, .cells (flr g) 24), (w.heap.size, .cells (flr f) 24)] v

set_option maxHeartbeats 8000000 in
set_option maxRecDepth 100000 in
theorem walk (f : Fl) (L : List ByteArray) (g : Fl) (M : List ByteArray) (a b : Int) (s : ByteArray) (w : World) (wf : f.wf w L) (wg : g.wf w M) (wa : (Lit.int .i64 a).wf = true) (wb : (Lit.int .i64 b).wf = true) (ws : s.size ≤ maxLen) :
    Calls Try.prog 4 #[.agg (flr f), .agg (flr g), .int .i64 a, .int .i64 b, .string s] w fun e w' => e = .returned (.bool true) ∧ Below w.heap.size w w' := by
  have cf := Lib.hid (fun v (hb : Below w.heap.size w v) => few_any f L v (wf.at_.on hb) wf.n wf.m)
  have cg := Lib.hid (fun v (hb : Below w.heap.size w v) => few_any g M v (wg.at_.on hb) wg.n wg.m)
  have K0 := Lib.hid (KW.two w (.cells (flr f) 24) (.cells (flr g) 24))
  have wf := Lib.hid wf
  have wg := Lib.hid wg
  have ws := Lib.hid ws
  have hz := zero27
  clear wa wb
  go_enter Try.func4, Try.ntmps4
  go_wp2_with fail
  refine (works_any _).mono ?_
  rintro e v1 ⟨rfl, hb⟩
  have K1 := Lib.hid (K0.out.past hb)
  clear hb K0
  go_wp2_with (refine wpList_load_row (by rfl) 24 (.tmp 5) rfl _ rfl 24 _ _ (K1.out.at 1 rfl) Try.underlying24 rfl (row27 _) ?_)
  refine (cf.out _ K1.out.bel).mono ?_
  rintro e v2 ⟨rfl, hb⟩
  have K2 := Lib.hid (K1.out.past hb)
  clear hb K1 cf
  cases hfe : fewB f L with
  | false =>
    go_wp2_with fail
    go_ret
    exact ⟨rfl, K2.out.bel⟩
  | true =>
  have fe := Lib.hid hfe
  clear hfe
  go_wp2_with (refine wpList_load_row_g (by with_unfolding_all rfl) 24 (.tmp 6) rfl _ rfl 24 _ _ (K2.out.at 0 rfl) Try.underlying24 rfl (row27 _) ?_)
  refine (cg.out _ K2.out.bel).mono ?_
  rintro e v3 ⟨rfl, hb⟩
  have K3 := Lib.hid (K2.out.past hb)
  clear hb K2 cg
  cases hge : fewB g M with
  | false =>
    go_wp2_with fail
    go_ret
    exact ⟨rfl, K3.out.bel⟩
  | true =>
  have ge := Lib.hid hge
  clear hge
  by_cases q : (700 : Int) < (s.size : Int)
  · have s1 : decide ((700 : Int) < (s.size : Int)) = true := decide_eq_true q
    have s2 : decide (700 < s.size) = true := decide_eq_true (by omega)
    go_wp2_with fail
    go_ret
    exact ⟨rfl, K3.out.bel⟩
  have s1 : decide ((700 : Int) < (s.size : Int)) = false := decide_eq_false q
  have s2 : decide (700 < s.size) = false := decide_eq_false (by omega)
  have hs : Hid (s.size ≤ 1099511627776) := Lib.hid (by omega)
  have hda : Hid (f.da.size ≤ maxLen) := Lib.hid (by have := (fewB_true fe.out).2.2.1; unfold maxLen; omega)
  have hL : Hid (L.length ≤ 1000) := Lib.hid (by have := (fewB_true fe.out).1; omega)
  have hM : Hid (M.length ≤ 1000) := Lib.hid (by have := (fewB_true ge.out).1; omega)
  have hLs : Hid (∀ y ∈ L, y.size ≤ 1099511627776) := Lib.hid (fun y hy => by have := (fewB_true fe.out).2.1 y hy; omega)
  have hnm : Hid (f.nm.size ≤ 1099511627776) := Lib.hid (by have := (fewB_true fe.out).2.2.2; omega)
  have cr := Lib.hid (fun v => read_any f a b v hda.out)
  have crr := Lib.hid (fun v => rread_any f a b v hda.out)
  have cn := Lib.hid (fun v => new_any a s v hs.out)
  have crn := Lib.hid (fun v => rnew_any a s v hs.out)
  have hN := Lib.hid (newF_row a s)
  generalize rdR f.da a b = R at *
  generalize newF a s = N at *
  obtain ⟨X, xe⟩ := R
  obtain ⟨N, ne⟩ := N
  clear fe ge hs hda q
  go_wp2_with (refine wpList_load_row (by rfl) 24 (.tmp 5) rfl _ rfl 24 _ _ (K3.out.at 1 rfl) Try.underlying24 rfl (row27 _) ?_)
  refine (cr.out _).mono ?_
  rintro e v4 ⟨rfl, hb⟩
  have K4 := Lib.hid (K3.out.past hb)
  clear hb K3 cr
  go_wp2_with (refine wpList_load_row (by rfl) 24 (.tmp 5) rfl _ rfl 24 _ _ (K4.out.at 1 rfl) Try.underlying24 rfl (row27 _) ?_)
  refine (crr.out _).mono ?_
  rintro e v5 ⟨rfl, hb⟩
  have K5 := Lib.hid (K4.out.past hb)
  clear hb K4 crr
  go_wp2_with fail
  refine (cn.out _).mono ?_
  rintro e v6 ⟨rfl, hb⟩
  have K6 := Lib.hid (K5.out.past hb)
  clear hb K5 cn
  have hn0 : Hid ((v6.alloc (.cells (flr fl0) 24)).heap[v6.heap.size]? = some (.cells (flr fl0) 24)) := Lib.hid (by rw [heap_alloc_if, if_pos rfl])
  have hB := Lib.hid K6.out.size
  have K7 := Lib.hid ((K6.out.new (.cells (flr fl0) 24)).row 0 rfl K6.out.size (flr N))
  go_wp2_with (refine wpList_store_row (by rfl) 24 (.tmp 17) (.tmp 58) rfl _ (flr N) rfl rfl 24 _ hn0.out (row27 _) (flr_same _ _) (flr_one _) ?_)
  refine (crn.out _).mono ?_
  rintro e v7 ⟨rfl, hb⟩
  have K8 := Lib.hid (K7.out.past hb)
  clear hb K7 crn hn0 K6
  revert K8 hB
  generalize v6.heap.size = bn
  intro hB K8
  have hn0 : Hid ((v7.alloc (.cells (flr fl0) 24)).heap[v7.heap.size]? = some (.cells (flr fl0) 24)) := Lib.hid (by rw [heap_alloc_if, if_pos rfl])
  have hB2 := Lib.hid K8.out.size
  have K9 := Lib.hid ((K8.out.new (.cells (flr fl0) 24)).row 0 rfl K8.out.size (flr N))
  have cv := Lib.hid (fun v (hb : Below w.heap.size w v) => rvalidf_any f L v (wf.out.at_.on hb) wf.out.n wf.out.m hLs.out hnm.out)
  have cv2 := Lib.hid (fun v (hb : Below w.heap.size w v) => valid_any f L v (wf.out.at_.on hb) wf.out.n wf.out.m hLs.out hnm.out)
  generalize vlB f L = vl at *
  go_wp2_with (first
    | (refine wpList_store_row (by rfl) 24 (.tmp 19) (.tmp 64) rfl _ (flr N) rfl rfl 24 _ hn0.out (row27 _) (flr_same _ _) (flr_one _) ?_)
    | (refine wpList_load_row (by rfl) 24 (.tmp 5) rfl _ rfl 24 _ _ (K9.out.at 3 rfl) Try.underlying24 rfl (row27 _) ?_))
  refine (cv.out _ K9.out.bel).mono ?_
  rintro e v8 ⟨rfl, hb⟩
  have K10 := Lib.hid (K9.out.past hb)
  clear hb K9 cv hn0 K8
  revert K10 hB2
  generalize v7.heap.size = bm
  intro hB2 K10
  have hn0 : Hid ((v8.alloc (.cells (flr fl0) 24)).heap[v8.heap.size]? = some (.cells (flr fl0) 24)) := Lib.hid (by rw [heap_alloc_if, if_pos rfl])
  have hB3 := Lib.hid K10.out.size
  have K11 := Lib.hid ((K10.out.new (.cells (flr fl0) 24)).row 0 rfl K10.out.size (flr f))
  go_upto_region 13 with (first
    | (refine wpList_load_row (by rfl) 24 (.tmp 5) rfl _ rfl 24 _ _ (K10.out.at 3 rfl) Try.underlying24 rfl (row27 _) ?_)
    | (refine wpList_store_row (by rfl) 24 (.tmp 22) (.tmp 68) rfl _ (flr f) rfl rfl 24 _ hn0.out (row27 _) (flr_same _ _) (flr_one _) ?_))
  clear hn0 K10
  revert K11 hB3
  generalize v8.heap.size = bt
  generalize (v8.alloc (.cells (flr fl0) 24)).setRow bt (flr f) = V
  intro hB3 K11
  have k2 := K11.out.cell 0 rfl 2 (y := .string f.da) rfl
  have z2 := K11.out.frozen 0 rfl 2
  have K12 : Hid (KT w f g bn bm bt N { f with da := em } (V.setCell ⟨bt, 2, none⟩ (.string em))) := Lib.hid (K11.out.set 0 rfl hB3.out 2 (.string em))
  go_upto_region 14 with fail
  have cs0 : Hid (∀ u : World, Calls Try.prog 16 #[.agg (flr N), .agg (flr N)] u fun e u' => e = .returned (.bool true) ∧ Below u.heap.size u u') := Lib.hid (fun u => by
    have := rsame_any N N [] [] u (StrAt.none _ _ _) (StrAt.none _ _ _) (Nat.zero_le _) hN.out.2.1 hN.out.2.1
    rwa [sameB_refl N N [] rfl rfl rfl rfl rfl] at this)
  have cs1 := Lib.hid (fun u (hb : Below w.heap.size w u) => same_any f g L M u (wf.out.at_.on hb) (wg.out.at_.on hb) wf.out.m wf.out.n wg.out.n)
  have cs2 := Lib.hid (fun u (hb : Below w.heap.size w u) => rsame_any f g L M u (wf.out.at_.on hb) (wg.out.at_.on hb) wf.out.m wf.out.n wg.out.n)
  have cm := Lib.hid (fun u (hb : Below w.heap.size w u) => meta_any f L u (wf.out.at_.on hb) wf.out.n hL.out)
  have cs3 : Hid (∀ u (hb : Below w.heap.size w u) a' c', StrAt u.heap.size u a' L → Calls Try.prog 16 #[.agg (flr { f with da := em, ha := a', hn := L.length, hc := c' }), .agg (flr { f with da := em })] u fun e u' => e = .returned (.bool true) ∧ Below u.heap.size u u') := Lib.hid (fun u hb a' c' hs => by
    have := rsame_any { f with da := em, ha := a', hn := L.length, hc := c' } { f with da := em } L L u hs (wf.out.at_.on hb) wf.out.m rfl wf.out.n
    have e : sameB { f with da := em, ha := a', hn := L.length, hc := c' } { f with da := em } L L = true := sameB_refl _ _ L rfl rfl rfl rfl rfl
    rwa [e] at this)
  generalize sameB f g L M = sb at *
  clear wf wg hL hM hLs hnm k2 z2 hB hB2 hB3 hz
  refine wp_region_class_rest 36 (fun v => KT w f g bn bm bt N { f with da := em } v) (by kernel_rfl) (by kernel_rfl) K12.out.drew ?_
  refine wpQuiet_move (by rfl) _ (.inl rfl) (.bool true) rfl ?_
  simp only [Act.put, List.setIfInBounds_toArray, List.set_cons_zero, List.set_cons_succ]
  refine wpQuiet_move (by rfl) _ (.inl rfl) (.bool true) rfl ?_
  simp only [Act.put, List.setIfInBounds_toArray, List.set_cons_zero, List.set_cons_succ]
  refine wpQuiet_move (by rfl) _ (.inl rfl) (.string X) rfl ?_
  simp only [Act.put, List.setIfInBounds_toArray, List.set_cons_zero, List.set_cons_succ]
  refine wpQuiet_move (by rfl) _ (.inl rfl) (.string X) rfl ?_
  simp only [Act.put, List.setIfInBounds_toArray, List.set_cons_zero, List.set_cons_succ]
  refine wpQuiet_seq (by rfl) 9 9 (.tmp 72) (.tmp 73) rfl X X rfl rfl true (by simp) ?_
  simp only [Act.put, List.setIfInBounds_toArray, List.set_cons_zero, List.set_cons_succ]
  refine wpQuiet_pick (by rfl) (.tmp 71) (.tmp 74) _ rfl true rfl (.bool true) rfl ?_
  simp only [Act.put, List.setIfInBounds_toArray, List.set_cons_zero, List.set_cons_succ]
  refine wpQuiet_move (by rfl) _ (.inl rfl) (.bool true) rfl ?_
  simp only [Act.put, List.setIfInBounds_toArray, List.set_cons_zero, List.set_cons_succ]
  refine wpQuiet_move (by rfl) _ (.inl rfl) (.int .i64 xe) rfl ?_
  simp only [Act.put, List.setIfInBounds_toArray, List.set_cons_zero, List.set_cons_succ]
  refine wpQuiet_move (by rfl) _ (.inl rfl) (.int .i64 xe) rfl ?_
  simp only [Act.put, List.setIfInBounds_toArray, List.set_cons_zero, List.set_cons_succ]
  refine wpQuiet_ieq (by rfl) 34 34 (.tmp 77) (.tmp 78) rfl .i64 xe xe rfl rfl true (by simp) ?_
  simp only [Act.put, List.setIfInBounds_toArray, List.set_cons_zero, List.set_cons_succ]
  refine wpQuiet_pick (by rfl) (.tmp 76) (.tmp 79) _ rfl true rfl (.bool true) rfl ?_
  simp only [Act.put, List.setIfInBounds_toArray, List.set_cons_zero, List.set_cons_succ]
  refine wpQuiet_move (by rfl) _ (.inl rfl) (.bool true) rfl ?_
  simp only [Act.put, List.setIfInBounds_toArray, List.set_cons_zero, List.set_cons_succ]
  refine wpQuiet_load (by rfl) 24 (.tmp 17) rfl (bn) rfl 24 (flr N) _ (fun v hv => hv.at 2 rfl) Try.underlying24 rfl (row27 _) ?_
  simp only [Act.put, List.setIfInBounds_toArray, List.set_cons_zero, List.set_cons_succ]
  refine wpQuiet_load (by rfl) 24 (.tmp 19) rfl (bm) rfl 24 (flr N) _ (fun v hv => hv.at 1 rfl) Try.underlying24 rfl (row27 _) ?_
  simp only [Act.put, List.setIfInBounds_toArray, List.set_cons_zero, List.set_cons_succ]
  refine wpQuiet_call2 (by rfl) 16 (.tmp 82) (.tmp 83) _ rfl ent16 _ _ rfl rfl (.bool true) (fun u hu => (cs0.out u).mono (fun e u' he => ⟨he.1, hu.past he.2⟩)) ?_
  simp only [Act.put, List.setIfInBounds_toArray, List.set_cons_zero, List.set_cons_succ]
  refine wpQuiet_pick (by rfl) (.tmp 81) (.tmp 84) _ rfl true rfl (.bool true) rfl ?_
  simp only [Act.put, List.setIfInBounds_toArray, List.set_cons_zero, List.set_cons_succ]
  refine wpQuiet_move (by rfl) _ (.inl rfl) (.bool true) rfl ?_
  simp only [Act.put, List.setIfInBounds_toArray, List.set_cons_zero, List.set_cons_succ]
  refine wpQuiet_move (by rfl) _ (.inl rfl) (.int .i64 ne) rfl ?_
  simp only [Act.put, List.setIfInBounds_toArray, List.set_cons_zero, List.set_cons_succ]
  refine wpQuiet_move (by rfl) _ (.inl rfl) (.int .i64 ne) rfl ?_
  simp only [Act.put, List.setIfInBounds_toArray, List.set_cons_zero, List.set_cons_succ]
  refine wpQuiet_ieq (by rfl) 34 34 (.tmp 87) (.tmp 88) rfl .i64 ne ne rfl rfl true (by simp) ?_
  simp only [Act.put, List.setIfInBounds_toArray, List.set_cons_zero, List.set_cons_succ]
  refine wpQuiet_pick (by rfl) (.tmp 86) (.tmp 89) _ rfl true rfl (.bool true) rfl ?_
  simp only [Act.put, List.setIfInBounds_toArray, List.set_cons_zero, List.set_cons_succ]
  refine wpQuiet_move (by rfl) _ (.inl rfl) (.bool true) rfl ?_
  simp only [Act.put, List.setIfInBounds_toArray, List.set_cons_zero, List.set_cons_succ]
  refine wpQuiet_load (by rfl) 24 (.tmp 5) rfl (w.heap.size) rfl 24 (flr f) _ (fun v hv => hv.at 4 rfl) Try.underlying24 rfl (row27 _) ?_
  simp only [Act.put, List.setIfInBounds_toArray, List.set_cons_zero, List.set_cons_succ]
  refine wpQuiet_call1 (by rfl) 23 (.tmp 92) _ rfl ent23 _ rfl (.bool vl) (fun u hu => (cv2.out u hu.bel).mono (fun e u' he => ⟨he.1, hu.past he.2⟩)) ?_
  simp only [Act.put, List.setIfInBounds_toArray, List.set_cons_zero, List.set_cons_succ]
  refine wpQuiet_move (by rfl) _ (.inl rfl) (.bool vl) rfl ?_
  simp only [Act.put, List.setIfInBounds_toArray, List.set_cons_zero, List.set_cons_succ]
  refine wpQuiet_beq (by rfl) 4 4 (.tmp 93) (.tmp 94) rfl vl vl rfl rfl Try.underlying4 true (by simp) ?_
  simp only [Act.put, List.setIfInBounds_toArray, List.set_cons_zero, List.set_cons_succ]
  refine wpQuiet_pick (by rfl) (.tmp 91) (.tmp 95) _ rfl true rfl (.bool true) rfl ?_
  simp only [Act.put, List.setIfInBounds_toArray, List.set_cons_zero, List.set_cons_succ]
  refine wpQuiet_move (by rfl) _ (.inl rfl) (.bool true) rfl ?_
  simp only [Act.put, List.setIfInBounds_toArray, List.set_cons_zero, List.set_cons_succ]
  refine wpQuiet_load (by rfl) 24 (.tmp 5) rfl (w.heap.size) rfl 24 (flr f) _ (fun v hv => hv.at 4 rfl) Try.underlying24 rfl (row27 _) ?_
  simp only [Act.put, List.setIfInBounds_toArray, List.set_cons_zero, List.set_cons_succ]
  refine wpQuiet_load (by rfl) 24 (.tmp 6) rfl (w.heap.size + 1) rfl 24 (flr g) _ (fun v hv => hv.at 3 rfl) Try.underlying24 rfl (row27 _) ?_
  simp only [Act.put, List.setIfInBounds_toArray, List.set_cons_zero, List.set_cons_succ]
  refine wpQuiet_call2 (by rfl) 24 (.tmp 98) (.tmp 99) _ rfl ent24 _ _ rfl rfl (.bool sb) (fun u hu => (cs1.out u hu.bel).mono (fun e u' he => ⟨he.1, hu.past he.2⟩)) ?_
  simp only [Act.put, List.setIfInBounds_toArray, List.set_cons_zero, List.set_cons_succ]
  refine wpQuiet_load (by rfl) 24 (.tmp 5) rfl (w.heap.size) rfl 24 (flr f) _ (fun v hv => hv.at 4 rfl) Try.underlying24 rfl (row27 _) ?_
  simp only [Act.put, List.setIfInBounds_toArray, List.set_cons_zero, List.set_cons_succ]
  refine wpQuiet_load (by rfl) 24 (.tmp 6) rfl (w.heap.size + 1) rfl 24 (flr g) _ (fun v hv => hv.at 3 rfl) Try.underlying24 rfl (row27 _) ?_
  simp only [Act.put, List.setIfInBounds_toArray, List.set_cons_zero, List.set_cons_succ]
  refine wpQuiet_call2 (by rfl) 16 (.tmp 101) (.tmp 102) _ rfl ent16 _ _ rfl rfl (.bool sb) (fun u hu => (cs2.out u hu.bel).mono (fun e u' he => ⟨he.1, hu.past he.2⟩)) ?_
  simp only [Act.put, List.setIfInBounds_toArray, List.set_cons_zero, List.set_cons_succ]
  refine wpQuiet_beq (by rfl) 4 4 (.tmp 100) (.tmp 103) rfl sb sb rfl rfl Try.underlying4 true (by simp) ?_
  simp only [Act.put, List.setIfInBounds_toArray, List.set_cons_zero, List.set_cons_succ]
  refine wpQuiet_pick (by rfl) (.tmp 97) (.tmp 104) _ rfl true rfl (.bool true) rfl ?_
  simp only [Act.put, List.setIfInBounds_toArray, List.set_cons_zero, List.set_cons_succ]
  refine wpQuiet_nil ?_
  intro u hu
  change wpAny Try.prog .any _ _ 7 _ _ _
  refine any_one (i := 36) (by kernel_rfl) ?_
  refine op_val rfl (by with_unfolding_all rfl) (some 106) rfl _ (x_move _ (.inl rfl) (.bool true) rfl) ?_
  simp only [Act.put, List.setIfInBounds_toArray, List.set_cons_zero, List.set_cons_succ]
  refine any_two (i := 37) (k := 39) (by kernel_rfl) ?_ ?_
  · skip
    refine op_val rfl (by with_unfolding_all rfl) (some 107) rfl _ (x_load_row 24 (.tmp 5) rfl w.heap.size rfl 24 (flr f) _ (hu.at 4 rfl) Try.underlying24 rfl (row27 _)) ?_
    simp only [Act.put, List.setIfInBounds_toArray, List.set_cons_zero, List.set_cons_succ]
    refine any_two (i := 38) (k := 39) (by kernel_rfl) ?_ ?_
    · skip
      refine op_call1 rfl (by with_unfolding_all rfl) 25 (.tmp 107) _ rfl ent25 (.agg (flr f)) rfl (fun v u' => ∃ a' c', v = .agg (flr { f with da := em, ha := a', hn := L.length, hc := c' }) ∧ Fr u.heap.size u' a' L ∧ Below u.heap.size u u') ((cm.out u hu.bel).mono (fun e u' ⟨a', c', h1, h2, h3⟩ => ⟨_, h1, a', c', rfl, h2, h3⟩)) (some 108) rfl ?_
      rintro v u1 ⟨a', c', rfl, hF, hb⟩
      simp only [Act.put, List.setIfInBounds_toArray, List.set_cons_zero, List.set_cons_succ]
      have hK := hu.past hb
      refine any_one (i := 39) (by kernel_rfl) ?_
      refine op_val rfl (by with_unfolding_all rfl) (some 109) rfl _ (x_load_row 24 (.tmp 22) rfl bt rfl 24 (flr { f with da := em }) _ (hK.at 0 rfl) Try.underlying24 rfl (row27 _)) ?_
      simp only [Act.put, List.setIfInBounds_toArray, List.set_cons_zero, List.set_cons_succ]
      refine any_one (i := 40) (by kernel_rfl) ?_
      refine op_call2 rfl (by with_unfolding_all rfl) 16 (.tmp 108) (.tmp 109) _ rfl ent16 (.agg (flr { f with da := em, ha := a', hn := L.length, hc := c' })) (.agg (flr { f with da := em })) rfl rfl (fun v u2 => v = .bool true ∧ Below u1.heap.size u1 u2) ((cs3.out u1 hK.bel a' c' hF.str).mono (fun e u' ⟨h1, h2⟩ => ⟨_, h1, rfl, h2⟩)) (some 110) rfl ?_
      rintro v u2 ⟨rfl, hb2⟩
      simp only [Act.put, List.setIfInBounds_toArray, List.set_cons_zero, List.set_cons_succ]
      have hK2 := Lib.hid (hK.past hb2)
      refine any_one (i := 41) (by kernel_rfl) ?_
      refine op_val rfl (by with_unfolding_all rfl) (some 111) rfl _ (x_pick (.tmp 106) (.tmp 110) _ rfl true rfl (.bool true) rfl) ?_
      simp only [Act.put, List.setIfInBounds_toArray, List.set_cons_zero, List.set_cons_succ]
      refine any_one (i := 42) (by kernel_rfl) ?_
      refine op_val rfl (by with_unfolding_all rfl) (some 10) rfl _ (x_move _ (.inr rfl) (.bool true) rfl) ?_
      simp only [Act.put, List.setIfInBounds_toArray, List.set_cons_zero, List.set_cons_succ]
      refine any_none (by kernel_rfl) ?_
      clear hF hb hb2 hK hu
      go_wp2_with fail
      go_ret
      exact ⟨rfl, hK2.out.bel⟩
    · skip
      refine op_val rfl (by with_unfolding_all rfl) (some 109) rfl _ (x_load_row 24 (.tmp 22) rfl bt rfl 24 (flr { f with da := em }) _ (hu.at 0 rfl) Try.underlying24 rfl (row27 _)) ?_
      simp only [Act.put, List.setIfInBounds_toArray, List.set_cons_zero, List.set_cons_succ]
      refine any_one (i := 38) (by kernel_rfl) ?_
      refine op_call1 rfl (by with_unfolding_all rfl) 25 (.tmp 107) _ rfl ent25 (.agg (flr f)) rfl (fun v u' => ∃ a' c', v = .agg (flr { f with da := em, ha := a', hn := L.length, hc := c' }) ∧ Fr u.heap.size u' a' L ∧ Below u.heap.size u u') ((cm.out u hu.bel).mono (fun e u' ⟨a', c', h1, h2, h3⟩ => ⟨_, h1, a', c', rfl, h2, h3⟩)) (some 108) rfl ?_
      rintro v u1 ⟨a', c', rfl, hF, hb⟩
      simp only [Act.put, List.setIfInBounds_toArray, List.set_cons_zero, List.set_cons_succ]
      have hK := hu.past hb
      refine any_one (i := 40) (by kernel_rfl) ?_
      refine op_call2 rfl (by with_unfolding_all rfl) 16 (.tmp 108) (.tmp 109) _ rfl ent16 (.agg (flr { f with da := em, ha := a', hn := L.length, hc := c' })) (.agg (flr { f with da := em })) rfl rfl (fun v u2 => v = .bool true ∧ Below u1.heap.size u1 u2) ((cs3.out u1 hK.bel a' c' hF.str).mono (fun e u' ⟨h1, h2⟩ => ⟨_, h1, rfl, h2⟩)) (some 110) rfl ?_
      rintro v u2 ⟨rfl, hb2⟩
      simp only [Act.put, List.setIfInBounds_toArray, List.set_cons_zero, List.set_cons_succ]
      have hK2 := Lib.hid (hK.past hb2)
      refine any_one (i := 41) (by kernel_rfl) ?_
      refine op_val rfl (by with_unfolding_all rfl) (some 111) rfl _ (x_pick (.tmp 106) (.tmp 110) _ rfl true rfl (.bool true) rfl) ?_
      simp only [Act.put, List.setIfInBounds_toArray, List.set_cons_zero, List.set_cons_succ]
      refine any_one (i := 42) (by kernel_rfl) ?_
      refine op_val rfl (by with_unfolding_all rfl) (some 10) rfl _ (x_move _ (.inr rfl) (.bool true) rfl) ?_
      simp only [Act.put, List.setIfInBounds_toArray, List.set_cons_zero, List.set_cons_succ]
      refine any_none (by kernel_rfl) ?_
      clear hF hb hb2 hK hu
      go_wp2_with fail
      go_ret
      exact ⟨rfl, hK2.out.bel⟩
  · skip
    refine op_val rfl (by with_unfolding_all rfl) (some 109) rfl _ (x_load_row 24 (.tmp 22) rfl bt rfl 24 (flr { f with da := em }) _ (hu.at 0 rfl) Try.underlying24 rfl (row27 _)) ?_
    simp only [Act.put, List.setIfInBounds_toArray, List.set_cons_zero, List.set_cons_succ]
    refine any_one (i := 37) (by kernel_rfl) ?_
    refine op_val rfl (by with_unfolding_all rfl) (some 107) rfl _ (x_load_row 24 (.tmp 5) rfl w.heap.size rfl 24 (flr f) _ (hu.at 4 rfl) Try.underlying24 rfl (row27 _)) ?_
    simp only [Act.put, List.setIfInBounds_toArray, List.set_cons_zero, List.set_cons_succ]
    refine any_one (i := 38) (by kernel_rfl) ?_
    refine op_call1 rfl (by with_unfolding_all rfl) 25 (.tmp 107) _ rfl ent25 (.agg (flr f)) rfl (fun v u' => ∃ a' c', v = .agg (flr { f with da := em, ha := a', hn := L.length, hc := c' }) ∧ Fr u.heap.size u' a' L ∧ Below u.heap.size u u') ((cm.out u hu.bel).mono (fun e u' ⟨a', c', h1, h2, h3⟩ => ⟨_, h1, a', c', rfl, h2, h3⟩)) (some 108) rfl ?_
    rintro v u1 ⟨a', c', rfl, hF, hb⟩
    simp only [Act.put, List.setIfInBounds_toArray, List.set_cons_zero, List.set_cons_succ]
    have hK := hu.past hb
    refine any_one (i := 40) (by kernel_rfl) ?_
    refine op_call2 rfl (by with_unfolding_all rfl) 16 (.tmp 108) (.tmp 109) _ rfl ent16 (.agg (flr { f with da := em, ha := a', hn := L.length, hc := c' })) (.agg (flr { f with da := em })) rfl rfl (fun v u2 => v = .bool true ∧ Below u1.heap.size u1 u2) ((cs3.out u1 hK.bel a' c' hF.str).mono (fun e u' ⟨h1, h2⟩ => ⟨_, h1, rfl, h2⟩)) (some 110) rfl ?_
    rintro v u2 ⟨rfl, hb2⟩
    simp only [Act.put, List.setIfInBounds_toArray, List.set_cons_zero, List.set_cons_succ]
    have hK2 := Lib.hid (hK.past hb2)
    refine any_one (i := 41) (by kernel_rfl) ?_
    refine op_val rfl (by with_unfolding_all rfl) (some 111) rfl _ (x_pick (.tmp 106) (.tmp 110) _ rfl true rfl (.bool true) rfl) ?_
    simp only [Act.put, List.setIfInBounds_toArray, List.set_cons_zero, List.set_cons_succ]
    refine any_one (i := 42) (by kernel_rfl) ?_
    refine op_val rfl (by with_unfolding_all rfl) (some 10) rfl _ (x_move _ (.inr rfl) (.bool true) rfl) ?_
    simp only [Act.put, List.setIfInBounds_toArray, List.set_cons_zero, List.set_cons_succ]
    refine any_none (by kernel_rfl) ?_
    clear hF hb hb2 hK hu
    go_wp2_with fail
    go_ret
    exact ⟨rfl, hK2.out.bel⟩

set_option maxRecDepth 100000 in
theorem lifted (os : Os) (started : os.Started) (H : Type) (enc : TypeId × Value → H) :
    ReturnsInHanded {} Try.checked os 4 .any (Rows.fileTellsSpec.pre6 enc Try.prog Try.f4 Rows.fileTellsRow.domain false) (Rows.fileTellsSpec.post enc Try.prog Try.f4 false true false false) := by
  refine returnsInHanded_of_change (C := Try.checked) own started (by kernel_rfl) Try.func4
    (ChangeSpec.witness6 (enc := enc) (C := Try.checked) false ⟨#[], #[.agg #[.int .i64 0, .string ByteArray.empty, .string ByteArray.empty, .bool false, .int .i64 0, .slice none 0 0], .agg #[.int .i64 0, .string ByteArray.empty, .string ByteArray.empty, .bool false, .int .i64 0, .slice none 0 0], .int .i64 0, .int .i64 0, .string ByteArray.empty], []⟩ 8 (by kernel_rfl) (by kernel_rfl) (by kernel_rfl) (by kernel_rfl)) ?_
  intro W base args ds gs before hval0 hW hcnd _
  have hval : ∀ (j : Nat) t v, Try.f4.params[j]? = some t → args[j]? = some v → Value.okWide Try.prog W .any base t v := hval0
  have hW' := hW
  obtain ⟨p, q, hA0, hV, rfl, hfz, hnd⟩ := hW
  have hA : DataW.TrodAll enc Try.prog W 0 (fun _ => true) true Try.f4.params.toList args.toList ds p := hA0
  rw [Try.params4] at hA hval
  obtain ⟨v0, vs0, d0, ds0, p0, q0, hargs, rfl, rfl, h0, r0⟩ := trodAll_cons hA
  obtain ⟨v1, vs1, d1, ds1, p1, q1, rfl, rfl, rfl, h1, r1⟩ := trodAll_cons r0
  obtain ⟨v2, vs2, d2, ds2, p2, q2, rfl, rfl, rfl, h2, r2⟩ := trodAll_cons r1
  obtain ⟨v3, vs3, d3, ds3, p3, q3, rfl, rfl, rfl, h3, r3⟩ := trodAll_cons r2
  obtain ⟨v4, vs4, d4, ds4, p4, q4, rfl, rfl, rfl, h4, r4⟩ := trodAll_cons r3
  obtain ⟨rfl, rfl, rfl⟩ := trodAll_nil r4
  obtain rfl : args = #[v0, v1, v2, v3, v4] := by cases args; simp_all
  obtain ⟨rfl, rfl⟩ := trodVars_none hV
  have k0 := h0
  have lt0 : ∀ x ∈ p0, x.block < W.heap.size := by obtain ⟨m, hm⟩ := k0; exact DataW.trod_lt m _ _ _ hm
  obtain ⟨f0, L0, rfl, wf0⟩ := open_file (hval 0 24 v0 rfl rfl) h0
  have k1 := h1
  have lt1 : ∀ x ∈ p1, x.block < W.heap.size := by obtain ⟨m, hm⟩ := k1; exact DataW.trod_lt m _ _ _ hm
  obtain ⟨f1, L1, rfl, wf1⟩ := open_file (hval 1 24 v1 rfl rfl) h1
  obtain ⟨a2, rfl, rfl, rfl, w2⟩ := open_int Try.underlying3 (hval 2 3 v2 rfl rfl) h2
  obtain ⟨a3, rfl, rfl, rfl, w3⟩ := open_int Try.underlying3 (hval 3 3 v3 rfl rfl) h3
  obtain ⟨a4, rfl, rfl, rfl, w4⟩ := open_string Try.underlying9 (hval 4 9 v4 rfl rfl) h4
  clear hA0 hval0
  refine (walk f0 L0 f1 L1 a2 a3 a4 W wf0 wf1 w2 w3 w4).mono fun e W' ⟨he, bel⟩ => ?_
  subst he
  exact ⟨_, rfl, _, _, _, [], _, [], hW', trodAll_mk1 (shut_bool Try.underlying4 _), (trodAll_cons_mk (Below.trod laidOut (by kernel_rfl) (of_decide_eq_true (by kernel_rfl)) k0 bel lt0) (trodAll_cons_mk (Below.trod laidOut (by kernel_rfl) (of_decide_eq_true (by kernel_rfl)) k1 bel lt1) (trodAll_cons_mk (shut_int Try.underlying3 w2) (trodAll_cons_mk (shut_int Try.underlying3 w3) (trodAll_cons_mk (shut_string Try.underlying9 w4) trodAll_mk0))))), rfl, bel.frame _, fun h => by cases h⟩

theorem over : Rows.fileTellsRow.holds Try.pinned (OpenSpec.ofChange Rows.fileTellsSpec) :=
  OpenClaim.holds_of_wide 4 Try.f4 rfl rfl rfl rfl rfl rfl rfl ⟨rfl, rfl, rfl, rfl, rfl⟩ rfl rfl rfl rfl rfl (by kernel_rfl) Try.func4 (by kernel_rfl)
    (of_decide_eq_true (by kernel_rfl)) (by unfold Func.isWrapper; first | (rw [if_pos (by decide +kernel)]; kernel_rfl) | (rw [if_neg (by decide +kernel)]; exact ⟨rfl, rfl⟩))
    (fun os started H enc _ => lifted os started H enc)

/-- The given statement. -/
theorem fileTells_proved : Rows.FileTellsSaid :=
  over
#print axioms fileTells_proved
end Go.Proofs.Ytphbkbjgjicncaa.fileTells
