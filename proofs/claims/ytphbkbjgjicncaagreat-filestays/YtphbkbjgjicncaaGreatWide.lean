/-
  Valid of package name, and New, for every text that there is.
-/
import Derived.Test.YtphbkbjgjicncaaGreatVal
namespace Go.Proofs.YtphbkbjgjicncaaGreat.nm
open Go.RowKit

set_option maxHeartbeats 1000000 in
set_option maxHeartbeats 1000000 in
theorem valid_wide (s : ByteArray) (_hs : s.size ≤ maxLen) (w : World) :
    Calls Tryz.prog 15 #[.string s] w fun e w' => e = .returned (.bool (vld (li s))) ∧ Below w.heap.size w w' := by
  go_enter Tryz.func15, Tryz.ntmps15
  go_wp2_with fail
  go_loopw [4] (fun v wr => ∃ (pos c L : Nat), v = .int .i32 (L : Int) ∧ wr = vw w s c pos ∧ pos ≤ s.size ∧ c ≤ 24 ∧ Hid (vgo (pl ((li s).drop pos)) c L = vld (li s))) (fun _ wr => s.size - wr.iterPos (w.heap.size + 1))
  case atStart => exact ⟨0, 0, 32, rfl, rfl, by omega, by omega, rfl⟩
  case round =>
    obtain ⟨pos, c, L, rfl, rfl, hp, hc, hn⟩ := hrel
    by_cases hlt : pos < s.size
    · have hnx := fun ty => vw_next w s c pos hlt ty
      have hw := drop_width hlt
      have hok := Lib.hid (dec_okp _ (drop_ne hlt))
      have hn2 : Hid (vld (li s) = if c = 24 ∨ odd c (dec ((li s).drop pos)).1 = true then false else vgo (pl ((li s).drop (pos + (dec ((li s).drop pos)).2))) (c + 1) (rn (dec ((li s).drop pos)).1)) := by
        show _ = _
        rw [← hn.out, pl_at hlt]; rfl
      revert hnx hw hn2 hok
      generalize (dec ((li s).drop pos)).2 = n
      generalize (dec ((li s).drop pos)).1 = p
      intro hnx hw hok hn2
      have hcell := vw_cell w s c (pos + n)
      by_cases h24 : c = 24
      · have e : Hid (vld (li s) = false) := by show _ = _; rw [hn2.out, if_pos (.inl h24)]
        have t1 : ((c : Int) == 24) = true := by rw [h24]; rfl
        clear h24 hn2 hn
        go_wp2_with fail
        go_ret
        exact ⟨by rw [e.out]; rfl, vw_below _ _ _ _⟩
      · have t1 : ((c : Int) == 24) = false := by rw [beq_eq_false_iff_ne]; omega
        have hodd := Lib.hid (odd_any c p w.heap.size (vw w s c (pos + n)) hcell hok.out)
        cases ho : odd c p
        · rw [ho] at hodd
          have e : Hid (vgo (pl ((li s).drop (pos + n))) (c + 1) (rn p) = vld (li s)) := by show _ = _; rw [hn2.out, if_neg (by rw [ho]; simp; omega)]
          have hset := vw_set w s c (pos + n)
          have hfr := vw_frozen w s c (pos + n)
          have hpos := Lib.hid (And.intro (vw_pos w s c pos) (vw_pos w s (c + 1) (pos + n)))
          clear hn2 hn ho
          go_wp2_with fail
          refine hodd.out.mono ?_
          rintro e w' ⟨rfl, rfl⟩
          go_wp2_with fail
          go_roundw
          case rel => exact ⟨pos + n, c + 1, rn p, rfl, rfl, by omega, by omega, e⟩
          case measure => rw [hpos.out.1, hpos.out.2]; omega
        · rw [ho] at hodd
          have e : Hid (vld (li s) = false) := by show _ = _; rw [hn2.out, if_pos (.inr ho)]
          clear hn2 hn ho
          go_wp2_with fail
          refine hodd.out.mono ?_
          rintro e w' ⟨rfl, rfl⟩
          go_wp2_with fail
          go_ret
          exact ⟨by rw [e.out]; rfl, vw_below _ _ _ _⟩
    · have hnx := fun ty => vw_end w s c pos hlt ty
      have e : Hid (vld (li s) = ((L : Int) != 32)) := by
        show _ = _
        rw [← hn.out, drop_end hlt]
        show decide (L ≠ 32) = _
        by_cases k : L = 32
        · subst k; rfl
        · have : ((L : Int) == 32) = false := by rw [beq_eq_false_iff_ne]; omega
          simp [k, bne, this]
      go_wp2_with fail
      go_ret
      exact ⟨by rw [e.out]; rfl, vw_below _ _ _ _⟩

set_option maxHeartbeats 1000000 in
theorem less_wide (a b : ByteArray) (w : World) :
    Calls Tryz.prog 25 #[.string a, .string b] w fun e w' => e = .returned (.bool (lxl (pl (li a)) (pl (li b)))) ∧ Below w.heap.size w w' := by
  go_enter Tryz.func25, Tryz.ntmps25
  go_wp2_with fail
  go_loopw [] (fun wr => ∃ (pos : Nat), wr.heap[w.heap.size]? = some (.stringIter a pos) ∧ Below w.heap.size w wr ∧ pos ≤ a.size ∧ Same (li a) (li b) pos) (fun wr => a.size - wr.iterPos w.heap.size)
  case atStart => exact ⟨0, World.iter_heap _ _ _, below_iter _ _ _, by omega, same_zero _ _⟩
  case round =>
    obtain ⟨pos, hit, hbel, hp, hS⟩ := hrel
    rename_i wr
    by_cases hlt : pos < a.size
    · have hnx : ∀ ty, (Instr.next (.pointer (some ⟨w.heap.size, 0, none⟩)) true ty).run Tryz.prog wr = _ := fun ty => Lib.run_next_any_at wr w.heap.size a pos ty hit hlt
      rw [decode_eq] at hnx
      have hw := drop_width hlt
      have hit2 := Lib.hid (Lib.iterAt_heap wr w.heap.size a pos (pos + (dec ((li a).drop pos)).2) hit)
      have hbel2 := Lib.hid (Lib.below_iterAt hbel (k := w.heap.size) (by omega) a (pos + (dec ((li a).drop pos)).2))
      have hle : pos ≤ b.size := by have := hS.le; rw [li_len] at this; exact this
      have pa := Lib.hid (fun v => place_any (a.extract pos a.size) v)
      have pb := Lib.hid (fun v => place_any (b.extract pos b.size) v)
      rw [li_extract] at pa pb
      have hyes : Hid (pz ((li a).drop pos) = pz ((li b).drop pos) → Same (li a) (li b) (pos + (dec ((li a).drop pos)).2)) := fun e => same_next hS (drop_ne hlt) e
      have hno : Hid (pz ((li a).drop pos) ≠ pz ((li b).drop pos) → decide (pz ((li a).drop pos) < pz ((li b).drop pos)) = lxl (pl (li a)) (pl (li b))) := fun e => same_ne hS (drop_ne hlt) e
      have hlea : (pos : Int) ≤ (a.size : Int) := by omega
      have hleb : (pos : Int) ≤ (b.size : Int) := by omega
      revert hnx hit2 hbel2 pa pb hyes hno hw
      generalize pz ((li a).drop pos) = x
      generalize pz ((li b).drop pos) = y
      generalize rn (dec ((li a).drop pos)).1 = r
      generalize (dec ((li a).drop pos)).2 = n
      generalize wr.iterAt w.heap.size a (pos + n) = W
      intro hnx hw hit2 hbel2 pa pb hyes hno
      have hip : Hid (wr.iterPos w.heap.size = pos) := by show _ = _; simp [World.iterPos, hit]
      clear hit hS
      go_wp2_with fail
      have hC : LessW w a (pos + n) W.drew := ⟨hbel2.out.drew, hit2.out⟩
      refine wp_region_class (LessW w a (pos + n)) (by kernel_rfl) (by kernel_rfl) hC ?_
      refine wpQuiet_move (by rfl) _ (.inl rfl) (.string a) rfl ?_
      refine wpQuiet_move (by rfl) _ (.inl rfl) (.int .i64 (pos : Int)) rfl ?_
      simp only [Act.put, List.setIfInBounds_toArray, List.set_cons_zero, List.set_cons_succ]
      refine wpQuiet_from (by rfl) 9 (.tmp 13) (.tmp 14) rfl a pos rfl rfl (by omega) Tryz.underlying9 ?_
      refine wpQuiet_call1 (by rfl) 30 (.tmp 15) _ rfl ent30 (.string (a.extract pos a.size)) rfl (.int .i32 x) (fun v hv => (pa.out v).mono fun e v' ⟨he, hb⟩ => ⟨he, hv.next hb⟩) ?_
      simp only [Act.put, List.setIfInBounds_toArray, List.set_cons_zero, List.set_cons_succ]
      refine wpQuiet_move (by rfl) _ (.inl rfl) (.string b) rfl ?_
      refine wpQuiet_move (by rfl) _ (.inl rfl) (.int .i64 (pos : Int)) rfl ?_
      simp only [Act.put, List.setIfInBounds_toArray, List.set_cons_zero, List.set_cons_succ]
      refine wpQuiet_from (by rfl) 9 (.tmp 17) (.tmp 18) rfl b pos rfl rfl (by omega) Tryz.underlying9 ?_
      refine wpQuiet_call1 (by rfl) 30 (.tmp 19) _ rfl ent30 (.string (b.extract pos b.size)) rfl (.int .i32 y) (fun v hv => (pb.out v).mono fun e v' ⟨he, hb⟩ => ⟨he, hv.next hb⟩) ?_
      simp only [Act.put, List.setIfInBounds_toArray, List.set_cons_zero, List.set_cons_succ]
      refine wpQuiet_move (by rfl) _ (.inr rfl) (.int .i32 x) rfl ?_
      refine wpQuiet_move (by rfl) _ (.inr rfl) (.int .i32 y) rfl ?_
      simp only [Act.put, List.setIfInBounds_toArray, List.set_cons_zero, List.set_cons_succ]
      refine wpQuiet_nil ?_
      intro u hu
      by_cases e : x = y
      · have hS2 := hyes.out e
        have e1 : (x != y) = false := by simp [e]
        clear hyes hno
        go_wp2_with fail
        go_roundw
        case rel => exact ⟨pos + n, hu.it, hu.bel, by omega, hS2⟩
        case measure => rw [hip.out]; simp only [World.iterPos, hu.it]; omega
      · have hr := Lib.hid (hno.out e)
        have e1 : (x != y) = true := by simp [e]
        clear hyes hno e
        go_wp2_with fail
        go_ret
        exact ⟨by rw [← hr.out]; rfl, hu.bel⟩
    · have hnx : ∀ ty, (Instr.next (.pointer (some ⟨w.heap.size, 0, none⟩)) true ty).run Tryz.prog wr = _ := fun ty => Lib.run_next_end_at wr w.heap.size a pos ty hit hlt
      have hr := Lib.hid (same_end hS (by rw [li_len]; omega))
      rw [li_len, li_len] at hr
      clear hS hit
      go_wp2_with fail
      go_ret
      exact ⟨by rw [← hr.out]; rfl, hbel⟩

end Go.Proofs.YtphbkbjgjicncaaGreat.nm
namespace Go.Proofs.YtphbkbjgjicncaaGreat
open Go Go.RowKit
theorem name_wide (x : ByteArray) (hx : x.size ≤ maxLen) (w : World) : Calls Tryz.prog 15 #[.string x] w fun e w' => e = .returned (.bool (vdB x)) ∧ Below w.heap.size w w' := nm.valid_wide x hx w
set_option maxHeartbeats 1000000 in
theorem new_wide (i : Int) (s : ByteArray) (w : World) (hs : s.size ≤ maxLen) :
    Calls Tryz.prog 10 #[.int .i64 i, .string s] w fun e w' => e = .returned (.tuple #[.agg (flr (newF i s).1), .int .i64 (newF i s).2]) ∧ Below w.heap.size w w' := by
  have hF : Hid (newF i s = if vdB s = false then (fl0, 2) else if gvB i = false then (fl0, 1) else (⟨i, s, em, false, 0, none, 0, 0⟩, 0)) := Lib.hid rfl
  have cv := Lib.hid (fun v => name_wide s hs v)
  have cg := Lib.hid (fun v => given_any i v)
  generalize newF i s = R at hF ⊢
  generalize vdB s = vb at *
  generalize gvB i = gb at *
  have hK := Lib.hid ((KW.start w).new (.cells (flr fl0) 24))
  have hz := zero27
  go_enter Tryz.func10, Tryz.ntmps10
  go_wp2_with fail
  refine (cv.out _).mono ?_
  rintro e v ⟨rfl, hb⟩
  have K1 := Lib.hid (hK.out.past hb)
  clear hb hK
  cases vb with
  | false =>
    rw [if_pos rfl] at hF
    obtain rfl := hF.out
    clear hF
    have K2 := Lib.hid (K1.out.row 0 rfl (Nat.le_refl _) (flr fl0))
    go_wp2_with (refine wpList_store_row (by rfl) 24 (.tmp 4) (.tmp 10) rfl _ (flr fl0) rfl rfl 24 _ (K1.out.at 0 rfl) (row27 _) (flr_same _ _) (flr_one _) ?_)
    exact bodyPost_row2 4 5 24 rfl _ rfl _ rfl 24 _ _ (K2.out.at 0 rfl) Tryz.underlying24 rfl (row27 _) rfl ⟨rfl, K2.out.bel⟩
  | true =>
    rw [if_neg (by decide)] at hF
    cases gb with
    | false =>
      rw [if_pos rfl] at hF
      obtain rfl := hF.out
      clear hF
      have K2 := Lib.hid (K1.out.row 0 rfl (Nat.le_refl _) (flr fl0))
      go_wp2_with (first
        | (go_at_call 14; refine (cg.out _).mono ?_; rintro e w' ⟨rfl, rfl⟩)
        | (refine wpList_store_row (by rfl) 24 (.tmp 4) (.tmp 15) rfl _ (flr fl0) rfl rfl 24 _ (K1.out.at 0 rfl) (row27 _) (flr_same _ _) (flr_one _) ?_))
      exact bodyPost_row2 4 5 24 rfl _ rfl _ rfl 24 _ _ (K2.out.at 0 rfl) Tryz.underlying24 rfl (row27 _) rfl ⟨rfl, K2.out.bel⟩
    | true =>
      rw [if_neg (by decide)] at hF
      obtain rfl := hF.out
      clear hF
      have K2 := Lib.hid (K1.out.row 0 rfl (Nat.le_refl _) (flr ⟨i, s, em, false, 0, none, 0, 0⟩))
      have hE : Hid (((flr fl0).setIfInBounds 0 (.int .i64 i)).setIfInBounds 1 (.string s) = flr ⟨i, s, em, false, 0, none, 0, 0⟩) := Lib.hid (by simp [flr, fl0, em])
      go_wp2_with (first
        | (go_at_call 14; refine (cg.out _).mono ?_; rintro e w' ⟨rfl, rfl⟩)
        | (refine wpList_store_row (by rfl) 24 (.tmp 4) (.tmp 18) rfl _ (flr ⟨i, s, em, false, 0, none, 0, 0⟩) rfl (congrArg Value.agg hE.out) 24 _ (K1.out.at 0 rfl) (row27 _) (flr_same _ _) (flr_one _) ?_))
      exact bodyPost_row2 4 5 24 rfl _ rfl _ rfl 24 _ _ (K2.out.at 0 rfl) Tryz.underlying24 rfl (row27 _) rfl ⟨rfl, K2.out.bel⟩

theorem less_bw (a b : ByteArray) (w : World) : Calls Tryz.prog 25 #[.string a, .string b] w fun e w' => e = .returned (.bool (lsB a b)) ∧ Below w.heap.size w w' := nm.less_wide a b w
set_option maxHeartbeats 2000000 in
theorem together_wide (a : Option Addr) (c : Nat) (L : List ByteArray) (w : World) (h : StrAt w.heap.size w a L) (hL : L.length ≤ maxLen) (hs : ∀ y ∈ L, y.size ≤ maxLen) :
    Calls Tryz.prog 16 #[.slice a L.length c] w fun e w' => e = .returned (.bool (togB L)) ∧ Below w.heap.size w w' := by
  have hF : Hid (togB L = (decide (L.length ≤ 4) && (List.range L.length).all (okAt L))) := Lib.hid rfl
  generalize togB L = R at hF ⊢
  by_cases h4 : 4 < L.length
  · have t1 : decide ((4 : Int) < (L.length : Int)) = true := by simp; omega
    have t2 : (4 : Int) < (L.length : Int) := by omega
    have hR : Hid (R = false) := Lib.hid (by rw [hF.out, decide_eq_false (by omega)]; rfl)
    clear h hs hF h4
    generalize L.length = n at *
    go_enter Tryz.func16, Tryz.ntmps16
    go_wp2_with fail
    go_ret
    exact ⟨by rw [hR.out]; rfl, Below.refl _ _⟩
  have t1 : decide ((4 : Int) < (L.length : Int)) = false := by simp; omega
  have t2 : ¬ (4 : Int) < (L.length : Int) := by omega
  have hR : Hid (R = (List.range L.length).all (okAt L)) := Lib.hid (by rw [hF.out, decide_eq_true (by omega)]; rfl)
  have hA := Lib.hid h
  have hs' := Lib.hid hs
  have hL4 : L.length ≤ 4 := by omega
  clear h hs hF h4 hL
  go_enter Tryz.func16, Tryz.ntmps16
  go_wp2_with fail
  go_loopw [10] (fun i wr => ∃ k : Nat, k ≤ L.length ∧ i = .int .i64 (k : Int) ∧ Hid (Below w.heap.size w wr) ∧ Hid (∀ j, j < k → okAt L j = true)) (fun i _ => L.length - (intOf i).toNat)
  case atStart => exact ⟨0, Nat.zero_le _, rfl, Lib.hid (Below.refl _ _), Lib.hid (fun j hj => absurd hj (Nat.not_lt_zero _))⟩
  case round =>
    obtain ⟨k, hk, rfl, hW, hT⟩ := hrel
    rename_i wr
    by_cases hlt : k < L.length
    · have hlt' : (k : Int) < (L.length : Int) := by omega
      have hlt2 : decide (k < L.length) = true := by simpa using hlt
      rcases hA.out with h0 | ⟨b1, o1, rfl, l1, hc1⟩
      · rw [h0] at hlt; simp at hlt
      have q1 : wr.cell? ⟨b1, o1 + k, none⟩ = some (.string (L.getD k em)) := by rw [← at_getD L k hlt]; exact (hW.out.cell (p := ⟨b1, o1 + k, none⟩) l1).trans (hc1 k hlt)
      have hno : Hid (okAt L k = false → R = false) := Lib.hid (fun e => by
        rw [hR.out]
        exact List.all_eq_false.2 ⟨k, List.mem_range.2 hlt, by rw [e]; decide⟩)
      have hyes : Hid (okAt L k = true → ∀ j, j < k + 1 → okAt L j = true) := Lib.hid (fun e j hj => by
        rcases Nat.lt_or_ge j k with q | q
        · exact hT.out j q
        · obtain rfl : j = k := by omega
          exact e)
      have hok : Hid (okAt L k = (vdB (L.getD k em) && (k == 0 || lsB (L.getD (k - 1) em) (L.getD k em)))) := Lib.hid rfl
      have sy := Lib.hid (hs'.out (L.getD k em) (by rw [← at_getD L k hlt]; exact List.getElem_mem hlt))
      have hC := Lib.hid hc1
      clear hc1
      generalize hok1 : okAt L k = ok at *
      clear hok1
      cases hv : vdB (L.getD k em) with
      | false =>
        rw [hv] at hok
        have hRf := Lib.hid (hno.out (by rw [hok.out]; rfl))
        have cv := Lib.hid (fun v => name_wide (L.getD k em) sy.out v)
        rw [hv] at cv
        generalize L.getD k em = y at *
        clear hv hno hyes
        go_wp2_with fail
        refine (cv.out _).mono ?_
        rintro e v ⟨rfl, hb⟩
        have hB := Lib.hid (hW.out.trans (hb.mono hW.out.size))
        clear hb
        go_wp2_with fail
        go_ret
        exact ⟨by rw [hRf.out]; rfl, hB.out⟩
      | true =>
        rw [hv] at hok
        have cv := Lib.hid (fun v => name_wide (L.getD k em) sy.out v)
        rw [hv] at cv
        clear hv
        by_cases hz : k = 0
        · subst hz
          have hT2 := Lib.hid (hyes.out (by rw [hok.out]; rfl))
          rw [Nat.add_zero] at q1
          generalize L.getD 0 em = y at *
          clear hno hyes
          go_wp2_with fail
          refine (cv.out _).mono ?_
          rintro e v ⟨rfl, hb⟩
          have hB := Lib.hid (hW.out.trans (hb.mono hW.out.size))
          clear hb
          go_wp2_with fail
          go_roundw
          case rel => exact ⟨1, by omega, by go_num, hB, hT2⟩
          case measure => simp [intOf] <;> omega
        · obtain ⟨j, rfl⟩ : ∃ j, k = j + 1 := ⟨k - 1, by omega⟩
          have hj0 : ((j : Int) + 1 == 0) = false := by simp; omega
          have hj1 : decide ((0 : Int) < (j : Int) + 1) = true := decide_eq_true (by omega)
          have hj2 : (0 : Int) < (j : Int) + 1 := by omega
          have hj3 : IntKind.i64.wrap ((j : Int) + 1 - 1) = (j : Int) := by rw [show (j : Int) + 1 - 1 = (j : Int) by omega]; exact IntWalk.i64_in _ (by omega)
          have hj4 : IntKind.i64.wrap (((j + 1 : Nat) : Int) - 1) = (j : Int) := by rw [show ((j + 1 : Nat) : Int) - 1 = (j : Int) by omega]; exact IntWalk.i64_in _ (by omega)
          have hlj : j < L.length := by omega
          have hlj' : (j : Int) < (L.length : Int) := by omega
          have q0 : wr.cell? ⟨b1, o1 + j, none⟩ = some (.string (L.getD j em)) := by rw [← at_getD L j hlj]; exact (hW.out.cell (p := ⟨b1, o1 + j, none⟩) l1).trans (hC.out j hlj)
          have sx := Lib.hid (hs'.out (L.getD j em) (by rw [← at_getD L j hlj]; exact List.getElem_mem hlj))
          have hok2 : Hid (ok = lsB (L.getD j em) (L.getD (j + 1) em)) := Lib.hid (by rw [hok.out]; simp)
          have cl := Lib.hid (fun v => less_bw (L.getD j em) (L.getD (j + 1) em) v)
          have hBq : Hid (∀ v, Below wr.heap.size wr v → v.cell? ⟨b1, o1 + j, none⟩ = some (.string (L.getD j em))) := Lib.hid (fun v hb => (hb.cell (p := ⟨b1, o1 + j, none⟩) (Nat.lt_of_lt_of_le l1 hW.out.size)).trans q0)
          generalize lsB (L.getD j em) (L.getD (j + 1) em) = lb at *
          obtain rfl := hok2.out
          generalize L.getD (j + 1) em = y at *
          generalize L.getD j em = x at *
          clear hok hok2
          cases ok with
          | true =>
            have hT2 := Lib.hid (hyes.out rfl)
            clear hno hyes
            go_wp2_with fail
            refine (cv.out _).mono ?_
            rintro e v ⟨rfl, hb⟩
            have hB := Lib.hid (hW.out.trans (hb.mono hW.out.size))
            have q3 := hBq.out v hb
            clear hb
            go_wp2_with fail
            refine (cl.out _).mono ?_
            rintro e v2 ⟨rfl, hb2⟩
            have hB2 := Lib.hid (hB.out.trans (hb2.mono hB.out.size))
            clear hb2
            go_wp2_with fail
            go_roundw
            case rel => exact ⟨j + 1 + 1, by omega, by go_num, hB2, hT2⟩
            case measure => simp [intOf]; omega
          | false =>
            have hRf := Lib.hid (hno.out rfl)
            clear hno hyes
            go_wp2_with fail
            refine (cv.out _).mono ?_
            rintro e v ⟨rfl, hb⟩
            have hB := Lib.hid (hW.out.trans (hb.mono hW.out.size))
            have q3 := hBq.out v hb
            clear hb
            go_wp2_with fail
            refine (cl.out _).mono ?_
            rintro e v2 ⟨rfl, hb2⟩
            have hB2 := Lib.hid (hB.out.trans (hb2.mono hB.out.size))
            clear hb2
            go_wp2_with fail
            go_ret
            exact ⟨by rw [hRf.out]; rfl, hB2.out⟩
    · obtain rfl : k = L.length := by omega
      have hlt' : ¬ (L.length : Int) < (L.length : Int) := by omega
      have hlt2 : decide (L.length < L.length) = false := by simp
      have hRt : Hid (R = true) := Lib.hid (by
        rw [hR.out]
        exact List.all_eq_true.2 fun j hj => hT.out j (List.mem_range.1 hj))
      go_wp2_with fail
      go_ret
      exact ⟨by rw [hRt.out]; rfl, hW.out⟩

set_option maxHeartbeats 2000000 in
theorem validf_wide (f : Fl) (L : List ByteArray) (w : World) (h : StrAt w.heap.size w f.ha L) (hn : f.hn = L.length) (hL : L.length ≤ maxLen) (hs : ∀ y ∈ L, y.size ≤ maxLen) (hnm : f.nm.size ≤ maxLen) :
    Calls Tryz.prog 5 #[.agg (flr f)] w fun e w' => e = .returned (.bool (vlB f L)) ∧ Below w.heap.size w w' := by
  obtain ⟨i, nm, da, se, un, ha, n, hc⟩ := f
  dsimp only at h hn hnm
  subst hn
  have cv := Lib.hid (fun v => name_wide nm hnm v)
  have cg := Lib.hid (fun v => given_any i v)
  have ct := Lib.hid (fun v (hb : Below w.heap.size w v) => together_wide ha hc L v (h.on hb) hL hs)
  have hF : Hid (vlB ⟨i, nm, da, se, un, ha, L.length, hc⟩ L = (gvB i && (vdB nm && (decide (da.size ≤ 600) && (decide (0 ≤ un) && (decide (un ≤ 1099511627776) && ((se || (decide (un = 0) && decide (L.length = 0))) && togB L))))))) := Lib.hid rfl
  generalize vlB ⟨i, nm, da, se, un, ha, L.length, hc⟩ L = R at hF ⊢
  generalize gvB i = gb at *
  generalize vdB nm = vb at *
  generalize togB L = tb at *
  have K0 := Lib.hid ((KW.start w).new (.cells (flr ⟨i, nm, da, se, un, ha, L.length, hc⟩) 24))
  have p0 := K0.out.cell 0 rfl 0 (y := .int .i64 i) rfl
  have p1 := K0.out.cell 0 rfl 1 (y := .string nm) rfl
  clear h hL hs hnm
  go_enter Tryz.func5, Tryz.ntmps5
  go_wp2_with fail
  refine (cg.out _).mono ?_
  rintro e w' ⟨rfl, rfl⟩
  cases gb with
  | false =>
    have hR : Hid (R = false) := Lib.hid (by rw [hF.out]; rfl)
    go_wp2_with fail
    go_ret
    exact ⟨by rw [hR.out]; rfl, K0.out.bel⟩
  | true =>
    go_wp2_with fail
    refine (cv.out _).mono ?_
    rintro e v ⟨rfl, hb⟩
    have K1 := Lib.hid (K0.out.past hb)
    have k2 := K1.out.cell 0 rfl 2 (y := .string da) rfl
    have k3 := K1.out.cell 0 rfl 3 (y := .bool se) rfl
    have k4 := K1.out.cell 0 rfl 4 (y := .int .i64 un) rfl
    have k5 := K1.out.cell 0 rfl 5 (y := .slice ha L.length hc) rfl
    clear hb
    cases vb with
    | false =>
      have hR : Hid (R = false) := Lib.hid (by rw [hF.out]; rfl)
      go_wp2_with fail
      go_ret
      exact ⟨by rw [hR.out]; rfl, K1.out.bel⟩
    | true =>
      by_cases h1 : 600 < da.size
      · have t1 : decide ((600 : Int) < (da.size : Int)) = true := decide_eq_true (by omega)
        have t2 : (600 : Int) < (da.size : Int) := by omega
        have hR : Hid (R = false) := Lib.hid (by rw [hF.out, decide_eq_false (show ¬ da.size ≤ 600 by omega)]; rfl)
        clear hF
        go_wp2_with fail
        go_ret
        exact ⟨by rw [hR.out]; rfl, K1.out.bel⟩
      have d1 : decide (da.size ≤ 600) = true := decide_eq_true (by omega)
      rw [d1] at hF
      have t1 : decide ((600 : Int) < (da.size : Int)) = false := decide_eq_false (by omega)
      have t2 : ¬ (600 : Int) < (da.size : Int) := by omega
      clear d1
      by_cases h2 : un < 0
      · have t3 : decide (un < 0) = true := decide_eq_true h2
        have hR : Hid (R = false) := Lib.hid (by rw [hF.out, decide_eq_false (show ¬ 0 ≤ un by omega)]; rfl)
        clear hF
        go_wp2_with fail
        go_ret
        exact ⟨by rw [hR.out]; rfl, K1.out.bel⟩
      have d1 : decide (0 ≤ un) = true := decide_eq_true (by omega)
      rw [d1] at hF
      have t3 : decide (un < 0) = false := decide_eq_false h2
      clear d1
      by_cases h3 : 1099511627776 < un
      · have t4 : decide (1099511627776 < un) = true := decide_eq_true h3
        have hR : Hid (R = false) := Lib.hid (by rw [hF.out, decide_eq_false (show ¬ un ≤ 1099511627776 by omega)]; rfl)
        clear hF
        go_wp2_with fail
        go_ret
        exact ⟨by rw [hR.out]; rfl, K1.out.bel⟩
      have d1 : decide (un ≤ 1099511627776) = true := decide_eq_true (by omega)
      rw [d1] at hF
      have t4 : decide (1099511627776 < un) = false := decide_eq_false h3
      clear d1
      cases se with
      | true =>
        have hR : Hid (R = tb) := Lib.hid (by rw [hF.out]; simp)
        clear hF
        go_wp2_with fail
        refine (ct.out _ K1.out.bel).mono ?_
        rintro e v2 ⟨rfl, hb⟩
        have K2 := Lib.hid (K1.out.past hb)
        clear hb
        go_wp2_with fail
        go_ret
        exact ⟨by rw [hR.out]; rfl, K2.out.bel⟩
      | false =>
        by_cases h5 : un = 0
        · subst h5
          have u1 : ((0 : Int) == 0) = true := rfl
          have u2 : ((0 : Int) != 0) = false := rfl
          by_cases h6 : L.length = 0
          · have hR : Hid (R = tb) := Lib.hid (by rw [hF.out, h6]; simp)
            obtain rfl : L = [] := List.length_eq_zero_iff.1 h6
            clear hF h6
            go_wp2_with fail
            refine (ct.out _ K1.out.bel).mono ?_
            rintro e v2 ⟨rfl, hb⟩
            have K2 := Lib.hid (K1.out.past hb)
            clear hb
            go_wp2_with fail
            go_ret
            exact ⟨by rw [hR.out]; rfl, K2.out.bel⟩
          · have hR : Hid (R = false) := Lib.hid (by rw [hF.out]; simp; intro q; exact absurd (by rw [q]; rfl) h6)
            have t5 : decide ((0 : Int) < (L.length : Int)) = true := decide_eq_true (by omega)
            have t6 : (0 : Int) < (L.length : Int) := by omega
            have t7 : decide (0 < L.length) = true := decide_eq_true (by omega)
            clear hF h6
            go_wp2_with fail
            go_ret
            exact ⟨by rw [hR.out]; rfl, K1.out.bel⟩
        · have u1 : (un == 0) = false := by simpa using h5
          have u2 : (un != 0) = true := by simpa using h5
          have hR : Hid (R = false) := Lib.hid (by rw [hF.out, decide_eq_false h5]; rfl)
          clear hF h5
          go_wp2_with fail
          go_ret
          exact ⟨by rw [hR.out]; rfl, K1.out.bel⟩
end Go.Proofs.YtphbkbjgjicncaaGreat
