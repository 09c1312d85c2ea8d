/-
  For every row of files, floor and time RuleTells returns true: whether any file may go, is kept, and which are due, and what the floor is behind a time, is just what the document says.
  Conditions: none beyond the given statement's own.
-/
import Derived.Test.YtjfgmkgcdkocgaaRows
import Derived.Test.YtjfgmkgcdkocgaaWorks
import Derived.Test.YtjfgmkgcdkocgaaOpenRows
import Derived.Test.YtjfgmkgcdkocgaaFew
import Derived.Test.YtjfgmkgcdkocgaaTells
import Derived.WalkKit
import Derived.ProofKit
import Derived.OpenShut
import Derived.ShutString
import Derived.ChangeOld
import Derived.Below
namespace Go.Proofs.Ytjfgmkgcdkocgaa.ruleTells
open Go.ChangeShapes Go.WideShapes Go.ChangeAt Go.RowKit
open Go.ChangeMaps (open_string shut_string)
set_option linter.unusedVariables false

theorem own : ownKnob Try.prog.godebug = none := by kernel_rfl
theorem laidOut : laidOutB Try.prog = true := by kernel_rfl

theorem index22 (b o n c k : Nat) (hk : k < n) (v : World) : (Instr.indexAt 22 (.slice (some ⟨b, o, none⟩) n c) (.int .i64 (k : Int))).run Try.prog v = .ok (.pointer (some ⟨b, o + k * 6, none⟩)) v := by
  rw [run_indexAt_slice (P := Try.prog) v 22 ⟨b, o, none⟩ n c .i64 (k : Int) (by kernel_rfl)]
  have e1 : Try.prog.elem 22 = 27 := by kernel_rfl
  simp [e1, Try.sizeOf27, hk, Addr.add_mid]
theorem field3 (z q : Nat) (v : World) : (Instr.fieldAt 27 (.pointer (some ⟨z, q, none⟩)) 3).run Try.prog v = .ok (.pointer (some ⟨z, q + 3, none⟩)) v := by
  unfold Instr.fieldAt; simp [go_sem, run_underlying Try.underlying27, Addr.add]
theorem wpQuiet_field3 {ops : Array Oper} {rest : List Oper} {o : Oper} {a : Act} {C : World → Prop} {Q : Act → Prop} (hw : Region.wanted o (yielded ops a.tmps) = true) (x : Operand) (ho : o.op = .fieldAddr 27 x 3) (z q : Nat) (hx : a.eval x = .pointer (some ⟨z, q, none⟩))
    (h : wpQuiet Try.prog ops C Q rest (a.put o.dst (.pointer (some ⟨z, q + 3, none⟩)))) : wpQuiet Try.prog ops C Q (o :: rest) a :=
  wpQuiet_val hw _ (fun w _ => by unfold execOp; simp only [ho, hx]; exact run_val (field3 z q w)) h
theorem wpQuiet_bne {P : Program} {ops : Array Oper} {rest : List Oper} {o : Oper} {a : Act} {C : World → Prop} {Q : Act → Prop} (hw : Region.wanted o (yielded ops a.tmps) = true) (t t' : TypeId) (x y : Operand) (ho : o.op = .binOp .neq t x y t') (m n : Bool) (hx : a.eval x = .bool m) (hy : a.eval y = .bool n) (ht : P.underlying t = some .bool) (r : Bool) (hr : (!(m == n)) = r)
    (h : wpQuiet P ops C Q rest (a.put o.dst (.bool r))) : wpQuiet P ops C Q (o :: rest) a :=
  wpQuiet_val hw _ (fun w _ => by unfold execOp; rw [← hr]; simp only [ho, hx, hy]; simp [eqGuard, run_neq_bool w t m n ht, go_sem]) h
theorem ent13' : ∀ args w, (callFunc 13 args).run Try.prog w = .ok (.enter 13 args) w := enters_of Try.func13 (by kernel_rfl) rfl

set_option maxRecDepth 100000 in
set_option maxHeartbeats 4000000 in
theorem walk (l : List Fl) (p : Option Addr) (c : Nat) (fl t : Int) (w : World) (hE : FilesAt w.heap.size w p l) (wf : ∀ f ∈ l, ∃ L, f.wf w L) (hm : l.length ≤ maxLen) (w1 : (Lit.int .i64 fl).wf = true) (w2 : (Lit.int .i64 t).wf = true) :
    Calls Try.prog 3 #[.slice p l.length c, .int .i64 fl, .int .i64 t] w fun e w' => e = .returned (.bool true) ∧ Below w.heap.size w w' := by
  unfold maxLen at hm
  by_cases h200 : 200 < l.length
  · have t1 : decide ((200 : Int) < (l.length : Int)) = true := by simp; omega
    clear hE wf h200
    go_enter Try.func3, Try.ntmps3
    go_wp2_with fail
    refine (works_any _).mono ?_
    rintro e v1 ⟨rfl, b1⟩
    go_wp2_with fail
    go_ret
    exact ⟨rfl, b1⟩
  have t1 : decide ((200 : Int) < (l.length : Int)) = false := by simp; omega
  have hl : l.length ≤ 1000 := by omega
  have hll : (l.length : Int) ≤ 1000 := by omega
  have hE' := Lib.hid hE
  have wf' := Lib.hid wf
  clear hE wf h200 hm
  go_enter Try.func3, Try.ntmps3
  go_wp2_with fail
  refine (works_any _).mono ?_
  rintro e v1 ⟨rfl, b1⟩
  have B1 := Lib.hid b1
  clear b1
  go_wp2_with fail
  go_loopw [8] (fun i wr => ∃ k : Nat, k ≤ l.length ∧ i = .int .i64 (k : Int) ∧ Hid (Below w.heap.size w wr)) (fun i _ => l.length - (intOf i).toNat)
  case atStart => exact ⟨0, Nat.zero_le _, rfl, B1⟩
  case round =>
    obtain ⟨k, hk, rfl, hB⟩ := hrel
    rename_i wr
    by_cases hlt : k < l.length
    · have hlt' : (k : Int) < (l.length : Int) := by omega
      have hlt2 : decide (k < l.length) = true := by simpa using hlt
      obtain ⟨b, o, rfl, lb, hr⟩ := hE'.out.at k hlt
      obtain ⟨L, hwf⟩ := wf'.out _ (List.getElem_mem hlt)
      have hr' := Lib.hid hr
      have hkk := Lib.hid hlt
      clear hr
      generalize l[k] = f at *
      have hld : Hid (∀ v, Below w.heap.size w v → (Instr.loadAt 27 (.pointer (some ⟨b, o + k * 6, none⟩))).run Try.prog v = .ok (.agg (flr f)) v) := Lib.hid (fun v hv => load_fl b (o + k * 6) f v (hr'.out v hv))
      have cw := Lib.hid (fun v (hb : Below w.heap.size w v) => few_any f L v (hwf.at_.on hb) hwf.n hwf.m)
      have h3 : Hid (∀ v, Below w.heap.size w v → v.cell? ⟨b, o + k * 6 + 3, none⟩ = some (.bool f.se)) := Lib.hid (fun v hv => hr'.out v hv 3 (.bool f.se) rfl)
      clear hwf
      have hl1 := Lib.hid (hld.out wr hB.out)
      go_wp2_with (with_reducible refine wpList_load_at rfl 27 (.tmp 26) rfl (.pointer (some ⟨b, o + k * 6, none⟩)) (.agg (flr f)) rfl hl1.out ?_)
      refine (cw.out _ hB.out).mono ?_
      rintro e v2 ⟨rfl, b2⟩
      have B2 := Lib.hid (hB.out.trans (b2.mono hB.out.size))
      clear b2 hB hl1 cw
      cases fewB f L with
      | false =>
        go_wp2_with fail
        go_ret
        exact ⟨rfl, B2.out⟩
      | true =>
        have hl2 := Lib.hid (hld.out v2 B2.out)
        obtain ⟨M, hM⟩ : ∃ M, mayC f fl = M := ⟨_, rfl⟩
        have cm := Lib.hid (fun v => rmay_any f fl v)
        have cm2 := Lib.hid (fun v => may_any f fl v)
        have ck := Lib.hid (fun v => kept_any f fl v)
        have hkp : Hid (kptB f fl = (f.se && !(mayC f fl == 0))) := Lib.hid rfl
        rw [hM] at cm cm2 hkp
        clear hM
        go_wp2_with (with_reducible refine wpList_load_at rfl 27 (.tmp 34) rfl (.pointer (some ⟨b, o + k * 6, none⟩)) (.agg (flr f)) rfl hl2.out ?_)
        refine (cm.out _).mono ?_
        rintro e v3 ⟨rfl, b3⟩
        have B3 := Lib.hid (B2.out.trans (b3.mono B2.out.size))
        clear b3 B2 hl2 cm
        go_wp2_with fail
        refine wp_region_class (l := _) (fun v => Below w.heap.size w v) (by kernel_rfl) (by kernel_rfl) B3.out.drew ?_
        cases hse : f.se with
        | true =>
          rw [hse] at h3 hkp
          obtain ⟨kr, hkr⟩ : ∃ kr, kptB f fl = kr := ⟨_, rfl⟩
          rw [hkr] at ck hkp
          have hq : Hid ((M != 0) = kr) := Lib.hid (by rw [hkp.out]; simp [bne])
          clear hkr hkp hse
          refine wpQuiet_move (by rfl) _ (.inl rfl) (.slice (some ⟨b, o, none⟩) l.length c) rfl ?_
          simp only [Act.put, List.setIfInBounds_toArray, List.set_cons_zero, List.set_cons_succ]
          refine wpQuiet_move (by rfl) _ (.inl rfl) (.int .i64 (k : Int)) rfl ?_
          simp only [Act.put, List.setIfInBounds_toArray, List.set_cons_zero, List.set_cons_succ]
          refine wpQuiet_index (by rfl) 22 _ _ rfl _ _ rfl rfl (.pointer (some ⟨b, o + k * 6, none⟩)) (index22 b o l.length c k hkk.out) ?_
          simp only [Act.put, List.setIfInBounds_toArray, List.set_cons_zero, List.set_cons_succ]
          refine wpQuiet_mid (by rfl) 27 _ rfl b (o + k * 6) rfl (.agg (flr f)) (fun v hv => hld.out v hv) ?_
          simp only [Act.put, List.setIfInBounds_toArray, List.set_cons_zero, List.set_cons_succ]
          refine wpQuiet_move (by rfl) _ (.inl rfl) (.int .i64 fl) rfl ?_
          simp only [Act.put, List.setIfInBounds_toArray, List.set_cons_zero, List.set_cons_succ]
          refine wpQuiet_call2 (by rfl) 12 (.tmp 41) (.tmp 42) _ rfl ent12 (.agg (flr f)) (.int .i64 fl) rfl rfl (.int .i64 M) (fun v hv => (cm2.out v).mono fun _ _ k => ⟨k.1, hv.trans (k.2.mono hv.size)⟩) ?_
          simp only [Act.put, List.setIfInBounds_toArray, List.set_cons_zero, List.set_cons_succ]
          refine wpQuiet_move (by rfl) _ (.inl rfl) (.int .i64 M) rfl ?_
          simp only [Act.put, List.setIfInBounds_toArray, List.set_cons_zero, List.set_cons_succ]
          refine wpQuiet_icmp (by rfl) .neq _ _ _ _ rfl .i64 (M) (M) rfl rfl false (by simp) ?_
          simp only [Act.put, List.setIfInBounds_toArray, List.set_cons_zero, List.set_cons_succ]
          refine wpQuiet_move (by rfl) _ (.inl rfl) (.bool false) rfl ?_
          simp only [Act.put, List.setIfInBounds_toArray, List.set_cons_zero, List.set_cons_succ]
          refine wpQuiet_move (by rfl) _ (.inl rfl) (.slice (some ⟨b, o, none⟩) l.length c) rfl ?_
          simp only [Act.put, List.setIfInBounds_toArray, List.set_cons_zero, List.set_cons_succ]
          refine wpQuiet_move (by rfl) _ (.inl rfl) (.int .i64 (k : Int)) rfl ?_
          simp only [Act.put, List.setIfInBounds_toArray, List.set_cons_zero, List.set_cons_succ]
          refine wpQuiet_index (by rfl) 22 _ _ rfl _ _ rfl rfl (.pointer (some ⟨b, o + k * 6, none⟩)) (index22 b o l.length c k hkk.out) ?_
          simp only [Act.put, List.setIfInBounds_toArray, List.set_cons_zero, List.set_cons_succ]
          refine wpQuiet_mid (by rfl) 27 _ rfl b (o + k * 6) rfl (.agg (flr f)) (fun v hv => hld.out v hv) ?_
          simp only [Act.put, List.setIfInBounds_toArray, List.set_cons_zero, List.set_cons_succ]
          refine wpQuiet_move (by rfl) _ (.inl rfl) (.int .i64 fl) rfl ?_
          simp only [Act.put, List.setIfInBounds_toArray, List.set_cons_zero, List.set_cons_succ]
          refine wpQuiet_call2 (by rfl) 13 (.tmp 50) (.tmp 51) _ rfl ent13' (.agg (flr f)) (.int .i64 fl) rfl rfl (.bool kr) (fun v hv => (ck.out v).mono fun _ _ k => ⟨k.1, hv.trans (k.2.mono hv.size)⟩) ?_
          simp only [Act.put, List.setIfInBounds_toArray, List.set_cons_zero, List.set_cons_succ]
          refine wpQuiet_move (by rfl) _ (.inl rfl) (.slice (some ⟨b, o, none⟩) l.length c) rfl ?_
          simp only [Act.put, List.setIfInBounds_toArray, List.set_cons_zero, List.set_cons_succ]
          refine wpQuiet_move (by rfl) _ (.inl rfl) (.int .i64 (k : Int)) rfl ?_
          simp only [Act.put, List.setIfInBounds_toArray, List.set_cons_zero, List.set_cons_succ]
          refine wpQuiet_index (by rfl) 22 _ _ rfl _ _ rfl rfl (.pointer (some ⟨b, o + k * 6, none⟩)) (index22 b o l.length c k hkk.out) ?_
          simp only [Act.put, List.setIfInBounds_toArray, List.set_cons_zero, List.set_cons_succ]
          refine wpQuiet_field3 (by rfl) _ rfl b (o + k * 6) rfl ?_
          simp only [Act.put, List.setIfInBounds_toArray, List.set_cons_zero, List.set_cons_succ]
          refine wpQuiet_cell (by rfl) 4 _ rfl b (o + k * 6 + 3) rfl Try.isAgg4 (.bool true) (fun v hv => h3.out v hv) ?_
          simp only [Act.put, List.setIfInBounds_toArray, List.set_cons_zero, List.set_cons_succ]
          refine wpQuiet_move (by rfl) _ (.inl rfl) (.bool true) rfl ?_
          simp only [Act.put, List.setIfInBounds_toArray, List.set_cons_zero, List.set_cons_succ]
          refine wpQuiet_move (by rfl) _ (.inl rfl) (.int .i64 M) rfl ?_
          simp only [Act.put, List.setIfInBounds_toArray, List.set_cons_zero, List.set_cons_succ]
          refine wpQuiet_icmp (by rfl) .neq _ _ _ _ rfl .i64 (M) (0) rfl rfl kr hq.out ?_
          simp only [Act.put, List.setIfInBounds_toArray, List.set_cons_zero, List.set_cons_succ]
          refine wpQuiet_pick (by rfl) _ _ _ rfl true rfl (.bool kr) rfl ?_
          simp only [Act.put, List.setIfInBounds_toArray, List.set_cons_zero, List.set_cons_succ]
          refine wpQuiet_bne (by rfl) _ _ _ _ rfl kr kr rfl rfl Try.underlying4 false (by simp) ?_
          simp only [Act.put, List.setIfInBounds_toArray, List.set_cons_zero, List.set_cons_succ]
          refine wpQuiet_pick (by rfl) _ _ _ rfl false rfl (.bool false) rfl ?_
          simp only [Act.put, List.setIfInBounds_toArray, List.set_cons_zero, List.set_cons_succ]
          refine wpQuiet_nil ?_
          intro W9 hW9
          have B9 := Lib.hid hW9
          clear hW9 B3
          go_wp2_with fail
          go_roundw
          case rel => exact ⟨k + 1, by omega, by go_num, B9⟩
          case measure => simp [intOf]; omega
        | false =>
          rw [hse] at h3 hkp
          have hkr : kptB f fl = false := by rw [hkp.out]; rfl
          rw [hkr] at ck
          clear hkr hkp hse
          refine wpQuiet_move (by rfl) _ (.inl rfl) (.slice (some ⟨b, o, none⟩) l.length c) rfl ?_
          simp only [Act.put, List.setIfInBounds_toArray, List.set_cons_zero, List.set_cons_succ]
          refine wpQuiet_move (by rfl) _ (.inl rfl) (.int .i64 (k : Int)) rfl ?_
          simp only [Act.put, List.setIfInBounds_toArray, List.set_cons_zero, List.set_cons_succ]
          refine wpQuiet_index (by rfl) 22 _ _ rfl _ _ rfl rfl (.pointer (some ⟨b, o + k * 6, none⟩)) (index22 b o l.length c k hkk.out) ?_
          simp only [Act.put, List.setIfInBounds_toArray, List.set_cons_zero, List.set_cons_succ]
          refine wpQuiet_mid (by rfl) 27 _ rfl b (o + k * 6) rfl (.agg (flr f)) (fun v hv => hld.out v hv) ?_
          simp only [Act.put, List.setIfInBounds_toArray, List.set_cons_zero, List.set_cons_succ]
          refine wpQuiet_move (by rfl) _ (.inl rfl) (.int .i64 fl) rfl ?_
          simp only [Act.put, List.setIfInBounds_toArray, List.set_cons_zero, List.set_cons_succ]
          refine wpQuiet_call2 (by rfl) 12 (.tmp 41) (.tmp 42) _ rfl ent12 (.agg (flr f)) (.int .i64 fl) rfl rfl (.int .i64 M) (fun v hv => (cm2.out v).mono fun _ _ k => ⟨k.1, hv.trans (k.2.mono hv.size)⟩) ?_
          simp only [Act.put, List.setIfInBounds_toArray, List.set_cons_zero, List.set_cons_succ]
          refine wpQuiet_move (by rfl) _ (.inl rfl) (.int .i64 M) rfl ?_
          simp only [Act.put, List.setIfInBounds_toArray, List.set_cons_zero, List.set_cons_succ]
          refine wpQuiet_icmp (by rfl) .neq _ _ _ _ rfl .i64 (M) (M) rfl rfl false (by simp) ?_
          simp only [Act.put, List.setIfInBounds_toArray, List.set_cons_zero, List.set_cons_succ]
          refine wpQuiet_move (by rfl) _ (.inl rfl) (.bool false) rfl ?_
          simp only [Act.put, List.setIfInBounds_toArray, List.set_cons_zero, List.set_cons_succ]
          refine wpQuiet_move (by rfl) _ (.inl rfl) (.slice (some ⟨b, o, none⟩) l.length c) rfl ?_
          simp only [Act.put, List.setIfInBounds_toArray, List.set_cons_zero, List.set_cons_succ]
          refine wpQuiet_move (by rfl) _ (.inl rfl) (.int .i64 (k : Int)) rfl ?_
          simp only [Act.put, List.setIfInBounds_toArray, List.set_cons_zero, List.set_cons_succ]
          refine wpQuiet_index (by rfl) 22 _ _ rfl _ _ rfl rfl (.pointer (some ⟨b, o + k * 6, none⟩)) (index22 b o l.length c k hkk.out) ?_
          simp only [Act.put, List.setIfInBounds_toArray, List.set_cons_zero, List.set_cons_succ]
          refine wpQuiet_mid (by rfl) 27 _ rfl b (o + k * 6) rfl (.agg (flr f)) (fun v hv => hld.out v hv) ?_
          simp only [Act.put, List.setIfInBounds_toArray, List.set_cons_zero, List.set_cons_succ]
          refine wpQuiet_move (by rfl) _ (.inl rfl) (.int .i64 fl) rfl ?_
          simp only [Act.put, List.setIfInBounds_toArray, List.set_cons_zero, List.set_cons_succ]
          refine wpQuiet_call2 (by rfl) 13 (.tmp 50) (.tmp 51) _ rfl ent13' (.agg (flr f)) (.int .i64 fl) rfl rfl (.bool false) (fun v hv => (ck.out v).mono fun _ _ k => ⟨k.1, hv.trans (k.2.mono hv.size)⟩) ?_
          simp only [Act.put, List.setIfInBounds_toArray, List.set_cons_zero, List.set_cons_succ]
          refine wpQuiet_move (by rfl) _ (.inl rfl) (.slice (some ⟨b, o, none⟩) l.length c) rfl ?_
          simp only [Act.put, List.setIfInBounds_toArray, List.set_cons_zero, List.set_cons_succ]
          refine wpQuiet_move (by rfl) _ (.inl rfl) (.int .i64 (k : Int)) rfl ?_
          simp only [Act.put, List.setIfInBounds_toArray, List.set_cons_zero, List.set_cons_succ]
          refine wpQuiet_index (by rfl) 22 _ _ rfl _ _ rfl rfl (.pointer (some ⟨b, o + k * 6, none⟩)) (index22 b o l.length c k hkk.out) ?_
          simp only [Act.put, List.setIfInBounds_toArray, List.set_cons_zero, List.set_cons_succ]
          refine wpQuiet_field3 (by rfl) _ rfl b (o + k * 6) rfl ?_
          simp only [Act.put, List.setIfInBounds_toArray, List.set_cons_zero, List.set_cons_succ]
          refine wpQuiet_cell (by rfl) 4 _ rfl b (o + k * 6 + 3) rfl Try.isAgg4 (.bool false) (fun v hv => h3.out v hv) ?_
          simp only [Act.put, List.setIfInBounds_toArray, List.set_cons_zero, List.set_cons_succ]
          refine wpQuiet_move (by rfl) _ (.inl rfl) (.bool false) rfl ?_
          simp only [Act.put, List.setIfInBounds_toArray, List.set_cons_zero, List.set_cons_succ]
          refine wpQuiet_skip (by rfl) ?_
          simp only [Act.put, List.setIfInBounds_toArray, List.set_cons_zero, List.set_cons_succ]
          refine wpQuiet_skip (by rfl) ?_
          simp only [Act.put, List.setIfInBounds_toArray, List.set_cons_zero, List.set_cons_succ]
          refine wpQuiet_pick (by rfl) _ _ _ rfl false rfl (.bool false) rfl ?_
          simp only [Act.put, List.setIfInBounds_toArray, List.set_cons_zero, List.set_cons_succ]
          refine wpQuiet_bne (by rfl) _ _ _ _ rfl false false rfl rfl Try.underlying4 false rfl ?_
          simp only [Act.put, List.setIfInBounds_toArray, List.set_cons_zero, List.set_cons_succ]
          refine wpQuiet_pick (by rfl) _ _ _ rfl false rfl (.bool false) rfl ?_
          simp only [Act.put, List.setIfInBounds_toArray, List.set_cons_zero, List.set_cons_succ]
          refine wpQuiet_nil ?_
          intro W9 hW9
          have B9 := Lib.hid hW9
          clear hW9 B3
          go_wp2_with fail
          go_roundw
          case rel => exact ⟨k + 1, by omega, by go_num, B9⟩
          case measure => simp [intOf]; omega
    · obtain rfl : k = l.length := by omega
      have hlt' : ¬ (l.length : Int) < (l.length : Int) := by omega
      have hlt2 : decide (l.length < l.length) = false := by simp
      have cd := Lib.hid (fun v (hb : Below w.heap.size w v) => due_any l fl hl p c v ((hE'.out.past hb).mono hb.size))
      have cr := Lib.hid (fun v (hb : Below w.heap.size w v) => rdue_any l fl hl p c v ((hE'.out.past hb).mono hb.size))
      have hdl : Hid ((dueL l fl).length ≤ 1000) := Lib.hid (by unfold dueL; rw [List.length_map]; exact Nat.le_trans (List.length_filter_le _ _) hl)
      have cf := Lib.hid (fun v => floor_any fl t v)
      have cg := Lib.hid (fun v => rfloor_any fl t v)
      generalize dueL l fl = D at *
      generalize flC fl t = R at *
      clear hlt
      go_wp2_with fail
      refine (cd.out _ hB.out).mono ?_
      rintro e v2 ⟨u, rfl, ho, b2⟩
      have B2 := Lib.hid (hB.out.trans (b2.mono hB.out.size))
      obtain ⟨a1, c1, rfl, _⟩ := own_slice ho
      have I1 := Lib.hid (intAt_own ho)
      clear b2 hB ho
      go_wp2_with fail
      refine (cr.out _ B2.out).mono ?_
      rintro e v3 ⟨u, rfl, ho, b3⟩
      have B3 := Lib.hid (B2.out.trans (b3.mono B2.out.size))
      obtain ⟨a2, c2, rfl, _⟩ := own_slice ho
      have I2 := Lib.hid (intAt_own ho)
      have I1' := Lib.hid (I1.out.on b3)
      clear b3 B2 ho I1
      go_wp2_with fail
      refine (row_true a1 a2 c1 c2 D _ I1'.out I2.out hdl.out).mono ?_
      rintro e v4 ⟨rfl, b4⟩
      have B4 := Lib.hid (B3.out.trans (b4.mono B3.out.size))
      clear b4 B3 I1' I2
      go_wp2_with fail
      refine (cf.out _).mono ?_
      rintro e v5 ⟨rfl, rfl⟩
      go_wp2_with fail
      refine (cg.out _).mono ?_
      rintro e v6 ⟨rfl, rfl⟩
      go_wp2_with fail
      go_ret
      exact ⟨by simp, B4.out⟩

set_option maxRecDepth 100000 in
theorem lifted (os : Os) (started : os.Started) (H : Type) (enc : TypeId × Value → H) :
    ReturnsInHanded {} Try.checked os 3 .any (Rows.ruleTellsSpec.pre6 enc Try.prog Try.f3 Rows.ruleTellsRow.domain false) (Rows.ruleTellsSpec.post enc Try.prog Try.f3 false true false false) := by
  refine returnsInHanded_of_change (C := Try.checked) own started (by kernel_rfl) Try.func3
    (ChangeSpec.witness6 (enc := enc) (C := Try.checked) false ⟨#[], #[.slice none 0 0, .int .i64 0, .int .i64 0], []⟩ 8 (by kernel_rfl) (by kernel_rfl) (by kernel_rfl) (by kernel_rfl)) ?_
  intro W base args ds gs before hval0 hW hcnd _
  have hval : ∀ (j : Nat) t v, Try.f3.params[j]? = some t → args[j]? = some v → Value.okWide Try.prog W .any base t v := hval0
  have hW' := hW
  obtain ⟨p, q, hA0, hV, rfl, hfz, hnd⟩ := hW
  have hA : DataW.TrodAll enc Try.prog W 0 (fun _ => true) true Try.f3.params.toList args.toList ds p := hA0
  rw [Try.params3] at hA hval
  obtain ⟨v0, vs0, d0, ds0, p0, q0, hargs, rfl, rfl, h0, r0⟩ := trodAll_cons hA
  obtain ⟨v1, vs1, d1, ds1, p1, q1, rfl, rfl, rfl, h1, r1⟩ := trodAll_cons r0
  obtain ⟨v2, vs2, d2, ds2, p2, q2, rfl, rfl, rfl, h2, r2⟩ := trodAll_cons r1
  obtain ⟨rfl, rfl, rfl⟩ := trodAll_nil r2
  obtain rfl : args = #[v0, v1, v2] := by cases args; simp_all
  obtain ⟨rfl, rfl⟩ := trodVars_none hV
  have k0 := h0
  have lt0 : ∀ x ∈ p0, x.block < W.heap.size := by obtain ⟨m, hm⟩ := k0; exact DataW.trod_lt m _ _ _ hm
  obtain ⟨a0, len0, cap0, rfl⟩ := okWide_slice Try.underlying22 (hval 0 22 v0 rfl rfl)
  obtain ⟨fuel0, hf0⟩ := h0
  obtain ⟨a, c, L0, hcs0, E0, wf0, mx0⟩ := open_files (cs := [Value.slice a0 len0 cap0]) hf0
  simp only [List.cons.injEq, Value.slice.injEq, and_true] at hcs0
  obtain ⟨rfl, rfl, rfl⟩ := hcs0
  obtain ⟨a1, rfl, rfl, rfl, w1⟩ := open_int Try.underlying3 (hval 1 3 v1 rfl rfl) h1
  obtain ⟨a2, rfl, rfl, rfl, w2⟩ := open_int Try.underlying3 (hval 2 3 v2 rfl rfl) h2
  clear hA0 hval0
  refine (walk L0 a0 cap0 a1 a2 W E0 wf0 mx0 w1 w2).mono fun e W' ⟨he, bel⟩ => ?_
  subst he
  exact ⟨_, rfl, _, _, _, [], _, [], hW', trodAll_mk1 (shut_bool Try.underlying4 _), (trodAll_cons_mk (Below.trod laidOut (by kernel_rfl) (of_decide_eq_true (by kernel_rfl)) k0 bel lt0) (trodAll_cons_mk (shut_int Try.underlying3 w1) (trodAll_cons_mk (shut_int Try.underlying3 w2) trodAll_mk0))), rfl, bel.frame _, fun h => by cases h⟩

theorem over : Rows.ruleTellsRow.holds Try.pinned (OpenSpec.ofChange Rows.ruleTellsSpec) :=
  OpenClaim.holds_of_wide 3 Try.f3 rfl rfl rfl rfl rfl rfl rfl ⟨rfl, rfl, rfl, rfl, rfl⟩ rfl rfl rfl rfl rfl (by kernel_rfl) Try.func3 (by kernel_rfl)
    (of_decide_eq_true (by kernel_rfl)) (by unfold Func.isWrapper; first | (rw [if_pos (by decide +kernel)]; kernel_rfl) | (rw [if_neg (by decide +kernel)]; exact ⟨rfl, rfl⟩))
    (fun os started H enc _ => lifted os started H enc)

/-- The given statement. -/
theorem ruleTells_proved : Rows.RuleTellsSaid :=
  over
#print axioms ruleTells_proved
end Go.Proofs.Ytjfgmkgcdkocgaa.ruleTells
