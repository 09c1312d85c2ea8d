/-
  Which file may be, by the document's answer: for every file.
-/
import Derived.Test.YtphbkbjgjicncaaVal
import Derived.Test.YtphbkbjgjicncaaRefs
import Derived.Test.YtphbkbjgjicncaaTail
import Derived.Deep.Cut
namespace Go.Proofs.Ytphbkbjgjicncaa
open Go Go.RowKit
theorem index22 (b o n c k : Nat) (h : k < n) (w : World) : (Instr.indexAt 22 (.slice (some ⟨b, o, none⟩) n c) (.int .i64 (k : Int))).run Try.prog w = .ok (.pointer (some ⟨b, o + k, none⟩)) w := by
  rw [run_indexAt_slice (P := Try.prog) w 22 ⟨b, o, none⟩ n c .i64 (k : Int) (by kernel_rfl)]
  have e1 : Try.prog.elem 22 = 9 := by kernel_rfl
  simp [e1, Try.sizeOf9, h, Addr.add_mid]
theorem ent42 : ∀ args w, (callFunc 42 args).run Try.prog w = .ok (.enter 42 args) w := enters_of Try.func42 (by kernel_rfl) rfl

set_option maxHeartbeats 4000000 in
set_option maxRecDepth 100000 in
theorem rvalidf_any (f : Fl) (L : List ByteArray) (w : World) (h : StrAt w.heap.size w f.ha L) (hn : f.hn = L.length) (hL : L.length ≤ maxLen) (hs : ∀ y ∈ L, y.size ≤ 1099511627776) (hnm : f.nm.size ≤ 1099511627776) :
    Calls Try.prog 22 #[.agg (flr f)] w fun e w' => e = .returned (.bool (vlB f L)) ∧ Below w.heap.size w w' := by
  obtain ⟨i, nm, da, se, un, ha, n, hc⟩ := f
  dsimp only at h hn hnm
  subst hn
  have cv := Lib.hid (fun v => rname_any nm hnm v)
  have hat := Lib.hid (fun v (hb : Below w.heap.size w v) => h.on hb)
  have hss := Lib.hid hs
  have hF : Hid (vlB ⟨i, nm, da, se, un, ha, L.length, hc⟩ L = (decide (1 ≤ i ∧ i ≤ 1099511627776) && (vdB nm && (decide (da.size ≤ 600) && (decide (0 ≤ un) && (decide (un ≤ 1099511627776) && ((se || (decide (un = 0) && decide (L.length = 0))) && (decide (L.length ≤ 4) && (List.range L.length).all (okAt L))))))))) := Lib.hid rfl
  generalize vlB ⟨i, nm, da, se, un, ha, L.length, hc⟩ L = R at hF ⊢
  generalize vdB nm = vb at *
  have K0 := Lib.hid ((KW.start w).new (.cells (flr ⟨i, nm, da, se, un, ha, L.length, hc⟩) 24))
  have p1 := K0.out.cell 0 rfl 1 (y := .string nm) rfl
  clear h hL hs hnm
  go_enter Try.func22, Try.ntmps22
  go_wp2_with fail
  refine (cv.out _).mono ?_
  rintro e v ⟨rfl, hb⟩
  have K1 := Lib.hid (K0.out.past hb)
  have k0 := K1.out.cell 0 rfl 0 (y := .int .i64 i) rfl
  have k2 := K1.out.cell 0 rfl 2 (y := .string da) rfl
  have k3 := K1.out.cell 0 rfl 3 (y := .bool se) rfl
  have k4 := K1.out.cell 0 rfl 4 (y := .int .i64 un) rfl
  have k5 := K1.out.cell 0 rfl 5 (y := .slice ha L.length hc) rfl
  clear hb K0 p1
  by_cases q : i < 1
  · have s1 : decide (i < 1) = true := decide_eq_true q
    have hR : Hid (R = false) := Lib.hid (by rw [hF.out, decide_eq_false (show ¬ (1 ≤ i ∧ i ≤ 1099511627776) by omega)]; simp)
    clear hF q
    go_wp2_with fail
    go_ret
    exact ⟨by rw [hR.out]; rfl, K1.out.bel⟩
  have s1 : decide (i < 1) = false := decide_eq_false q
  have q1 := Lib.hid q
  clear q
  by_cases q : 1099511627776 < i
  · have s2 : decide (1099511627776 < i) = true := decide_eq_true q
    have hR : Hid (R = false) := Lib.hid (by rw [hF.out, decide_eq_false (show ¬ (1 ≤ i ∧ i ≤ 1099511627776) by omega)]; simp)
    clear hF q
    go_wp2_with fail
    go_ret
    exact ⟨by rw [hR.out]; rfl, K1.out.bel⟩
  have s2 : decide (1099511627776 < i) = false := decide_eq_false q
  have hF : Hid _ := Lib.hid (hF.out.trans (congrArg (· && _) (decide_eq_true (show 1 ≤ i ∧ i ≤ 1099511627776 by have := q1.out; omega))))
  clear q
  cases vb with
  | false =>
    have hR : Hid (R = false) := Lib.hid (by rw [hF.out]; rfl)
    clear hF
    go_wp2_with fail
    go_ret
    exact ⟨by rw [hR.out]; rfl, K1.out.bel⟩
  | true =>
    by_cases q : 600 < da.size
    · have s3 : decide ((600 : Int) < (da.size : Int)) = true := decide_eq_true (by omega)
      have s3b : (600 : Int) < (da.size : Int) := by omega
      have hR : Hid (R = false) := Lib.hid (by rw [hF.out, decide_eq_false (show ¬ da.size ≤ 600 by omega)]; simp)
      clear hF q
      go_wp2_with fail
      go_ret
      exact ⟨by rw [hR.out]; rfl, K1.out.bel⟩
    have s3 : decide ((600 : Int) < (da.size : Int)) = false := decide_eq_false (by omega)
    have s3b : ¬ (600 : Int) < (da.size : Int) := by omega
    have e3 : decide (da.size ≤ 600) = true := decide_eq_true (by omega)
    clear q
    by_cases q : un < 0
    · have s4 : decide (un < 0) = true := decide_eq_true q
      have hR : Hid (R = false) := Lib.hid (by rw [hF.out, decide_eq_false (show ¬ 0 ≤ un by omega)]; simp)
      clear hF q
      go_wp2_with fail
      go_ret
      exact ⟨by rw [hR.out]; rfl, K1.out.bel⟩
    have s4 : decide (un < 0) = false := decide_eq_false q
    have e4 : decide (0 ≤ un) = true := decide_eq_true (by omega)
    clear q
    by_cases q : 1099511627776 < un
    · have s5 : decide (1099511627776 < un) = true := decide_eq_true q
      have hR : Hid (R = false) := Lib.hid (by rw [hF.out, decide_eq_false (show ¬ un ≤ 1099511627776 by omega)]; simp)
      clear hF q
      go_wp2_with fail
      go_ret
      exact ⟨by rw [hR.out]; rfl, K1.out.bel⟩
    have s5 : decide (1099511627776 < un) = false := decide_eq_false q
    have e5 : decide (un ≤ 1099511627776) = true := decide_eq_true (by omega)
    clear q
    by_cases q : 4 < L.length
    · have s6 : decide ((4 : Int) < (L.length : Int)) = true := decide_eq_true (by omega)
      have s6b : (4 : Int) < (L.length : Int) := by omega
      have hR : Hid (R = false) := Lib.hid (by rw [hF.out, decide_eq_false (show ¬ L.length ≤ 4 by omega)]; simp)
      clear hF q
      go_wp2_with fail
      go_ret
      exact ⟨by rw [hR.out]; rfl, K1.out.bel⟩
    have s6 : decide ((4 : Int) < (L.length : Int)) = false := decide_eq_false (by omega)
    have s6b : ¬ (4 : Int) < (L.length : Int) := by omega
    have e6 : decide (L.length ≤ 4) = true := decide_eq_true (by omega)
    have h4 : L.length ≤ 4 := by omega
    clear q
    rw [e3, e4, e5, e6] at hF
    clear e3 e4 e5 e6
    cases se with
    | true =>
      have hR : Hid (R = (List.range L.length).all (okAt L)) := Lib.hid (by rw [hF.out]; simp)
      clear hF
      go_wp2_with fail
      go_loopw [4] (fun j wr => ∃ k : Nat, k ≤ L.length ∧ j = .int .i64 (k : Int) ∧ Hid (KW w.heap.size w [(w.heap.size, .cells (flr ⟨i, nm, da, true, un, ha, L.length, hc⟩) 24)] wr) ∧ Hid (∀ j, j < k → okAt L j = true)) (fun j _ => L.length - (intOf j).toNat)
      case atStart => exact ⟨0, Nat.zero_le _, rfl, K1, Lib.hid (fun j hj => absurd hj (Nat.not_lt_zero _))⟩
      case round =>
        obtain ⟨k, hk, rfl, hW, hT⟩ := hrel
        rename_i wr
        clear k0 k2 k3 k4 k5 K1
        have k5 := hW.out.cell 0 rfl 5 (y := .slice ha L.length hc) rfl
        by_cases hlt : k < L.length
        · have hlt' : (k : Int) < (L.length : Int) := by omega
          have hlt2 : decide (k < L.length) = true := by simpa using hlt
          rcases hat.out w (Below.refl _ _) with h0 | ⟨b1, o1, rfl, l1, hc1⟩
          · rw [h0] at hlt; simp at hlt
          have q1 : wr.cell? ⟨b1, o1 + k, none⟩ = some (.string (L.getD k em)) := by rw [← at_getD L k hlt]; exact (hW.out.bel.cell (p := ⟨b1, o1 + k, none⟩) l1).trans (hc1 k hlt)
          have hno : Hid (okAt L k = false → R = false) := Lib.hid (fun e => by
            rw [hR.out]
            exact List.all_eq_false.2 ⟨k, List.mem_range.2 hlt, by rw [e]; decide⟩)
          have hyes : Hid (okAt L k = true → ∀ j, j < k + 1 → okAt L j = true) := Lib.hid (fun e j hj => by
            rcases Nat.lt_or_ge j k with q | q
            · exact hT.out j q
            · obtain rfl : j = k := by omega
              exact e)
          have hok : Hid (okAt L k = (vdB (L.getD k em) && (k == 0 || lsB (L.getD (k - 1) em) (L.getD k em)))) := Lib.hid rfl
          have sy := Lib.hid (hss.out (L.getD k em) (by rw [← at_getD L k hlt]; exact List.getElem_mem hlt))
          have hC := Lib.hid hc1
          clear hc1
          generalize okAt L k = ok at *
          cases hv : vdB (L.getD k em) with
          | false =>
            rw [hv] at hok
            have hRf := Lib.hid (hno.out (by rw [hok.out]; rfl))
            have cy := Lib.hid (fun v => rname_any (L.getD k em) sy.out v)
            rw [hv] at cy
            generalize L.getD k em = y at *
            clear hv hno hyes
            go_wp2_with fail
            refine (cy.out _).mono ?_
            rintro e v ⟨rfl, hb⟩
            have hB := Lib.hid (hW.out.past hb)
            clear hb
            go_wp2_with fail
            go_ret
            exact ⟨by rw [hRf.out]; rfl, hB.out.bel⟩
          | true =>
            rw [hv] at hok
            have cy := Lib.hid (fun v => rname_any (L.getD k em) sy.out v)
            rw [hv] at cy
            clear hv
            by_cases hz : k = 0
            · subst hz
              have hT2 := Lib.hid (hyes.out (by rw [hok.out]; rfl))
              rw [Nat.add_zero] at q1
              generalize L.getD 0 em = y at *
              clear hno hyes
              go_wp2_with fail
              refine (cy.out _).mono ?_
              rintro e v ⟨rfl, hb⟩
              have hB := Lib.hid (hW.out.past hb)
              clear hb
              go_wp2_with fail
              go_roundw
              case rel => exact ⟨1, by omega, by go_num, hB, hT2⟩
              case measure => simp [intOf] <;> omega
            · obtain ⟨j, rfl⟩ : ∃ j, k = j + 1 := ⟨k - 1, by omega⟩
              have hj1 : decide ((0 : Int) < (j : Int) + 1) = true := decide_eq_true (by omega)
              have hj2 : (0 : Int) < (j : Int) + 1 := by omega
              have hlj : j < L.length := by omega
              have hsub : Hid (∀ u : World, (do pure (Next.value (← binOp .sub 3 (.int .i64 ((j + 1 : Nat) : Int)) (.int .i64 1))) : Sem Next).run Try.prog u = .ok (.value (.int .i64 (j : Int))) u) := Lib.hid (fun u => by
                have e : IntKind.i64.wrap (j : Int) = (j : Int) := IntWalk.i64_in _ (by omega)
                simp [binOp, go_sem, e])
              have sx := Lib.hid (hss.out (L.getD j em) (by rw [← at_getD L j hlj]; exact List.getElem_mem hlj))
              have hok2 : Hid (ok = lsB (L.getD j em) (L.getD (j + 1) em)) := Lib.hid (by rw [hok.out]; simp)
              have cl := Lib.hid (fun v => rless_b _ _ sx.out sy.out v)
              have x0 := Lib.hid (fun (u : World) (hu : Below w.heap.size w u) => (by rw [← at_getD L j hlj]; exact (hu.cell (p := ⟨b1, o1 + j, none⟩) l1).trans (hC.out j hlj) : u.cell? ⟨b1, o1 + j, none⟩ = some (.string (L.getD j em))))
              have x1 := Lib.hid (fun (u : World) (hu : Below w.heap.size w u) => (by rw [← at_getD L (j + 1) hlt]; exact (hu.cell (p := ⟨b1, o1 + (j + 1), none⟩) l1).trans (hC.out (j + 1) hlt) : u.cell? ⟨b1, o1 + (j + 1), none⟩ = some (.string (L.getD (j + 1) em))))
              generalize lsB (L.getD j em) (L.getD (j + 1) em) = lb at *
              obtain rfl := hok2.out
              generalize L.getD (j + 1) em = y at *
              generalize L.getD j em = x at *
              clear hok hok2
              go_wp2_with fail
              refine (cy.out _).mono ?_
              rintro e v ⟨rfl, hb⟩
              have hB := Lib.hid (hW.out.past hb)
              clear hb
              go_upto_region 13 with fail
              refine wp_region_class (fun v => KW w.heap.size w [(w.heap.size, .cells (flr ⟨i, nm, da, true, un, some ⟨b1, o1, none⟩, L.length, hc⟩) 24)] v) (by kernel_rfl) (by kernel_rfl) hB.out.drew ?_
              refine wpQuiet_field (by rfl) 5 _ rfl w.heap.size rfl (by decide) ?_
              simp only [Act.put, List.setIfInBounds_toArray, List.set_cons_zero, List.set_cons_succ]
              refine wpQuiet_cell (by rfl) 22 _ rfl w.heap.size 5 rfl Try.isAgg22 (.slice (some ⟨b1, o1, none⟩) L.length hc) (fun u hu => hu.cell 0 rfl 5 rfl) ?_
              simp only [Act.put, List.setIfInBounds_toArray, List.set_cons_zero, List.set_cons_succ]
              refine wpQuiet_move (by rfl) _ (.inl rfl) (.int .i64 ((j + 1 : Nat) : Int)) rfl ?_
              simp only [Act.put, List.setIfInBounds_toArray, List.set_cons_zero, List.set_cons_succ]
              refine wpQuiet_val (by rfl) (.int .i64 (j : Int)) (fun u _ => hsub.out u) ?_
              simp only [Act.put, List.setIfInBounds_toArray, List.set_cons_zero, List.set_cons_succ]
              refine wpQuiet_index (by rfl) 22 _ _ rfl _ _ rfl rfl _ (fun u => index22 b1 o1 L.length hc j hlj u) ?_
              simp only [Act.put, List.setIfInBounds_toArray, List.set_cons_zero, List.set_cons_succ]
              refine wpQuiet_cell (by rfl) 9 _ rfl b1 (o1 + j) rfl Try.isAgg9 (.string x) (fun u hu => x0.out u hu.bel) ?_
              simp only [Act.put, List.setIfInBounds_toArray, List.set_cons_zero, List.set_cons_succ]
              refine wpQuiet_field (by rfl) 5 _ rfl w.heap.size rfl (by decide) ?_
              simp only [Act.put, List.setIfInBounds_toArray, List.set_cons_zero, List.set_cons_succ]
              refine wpQuiet_cell (by rfl) 22 _ rfl w.heap.size 5 rfl Try.isAgg22 (.slice (some ⟨b1, o1, none⟩) L.length hc) (fun u hu => hu.cell 0 rfl 5 rfl) ?_
              simp only [Act.put, List.setIfInBounds_toArray, List.set_cons_zero, List.set_cons_succ]
              refine wpQuiet_move (by rfl) _ (.inl rfl) (.int .i64 ((j + 1 : Nat) : Int)) rfl ?_
              simp only [Act.put, List.setIfInBounds_toArray, List.set_cons_zero, List.set_cons_succ]
              refine wpQuiet_index (by rfl) 22 _ _ rfl _ _ rfl rfl _ (fun u => index22 b1 o1 L.length hc (j + 1) hlt u) ?_
              simp only [Act.put, List.setIfInBounds_toArray, List.set_cons_zero, List.set_cons_succ]
              refine wpQuiet_cell (by rfl) 9 _ rfl b1 (o1 + (j + 1)) rfl Try.isAgg9 (.string y) (fun u hu => x1.out u hu.bel) ?_
              simp only [Act.put, List.setIfInBounds_toArray, List.set_cons_zero, List.set_cons_succ]
              refine wpQuiet_call2 (by rfl) 42 (.tmp 80) (.tmp 85) _ rfl ent42 _ _ rfl rfl (.bool ok) (fun u hu => (cl.out u).mono (fun e u' he => ⟨he.1, hu.past he.2⟩)) ?_
              simp only [Act.put, List.setIfInBounds_toArray, List.set_cons_zero, List.set_cons_succ]
              refine wpQuiet_move (by rfl) _ (.inr rfl) (.bool ok) rfl ?_
              simp only [Act.put, List.setIfInBounds_toArray, List.set_cons_zero, List.set_cons_succ]
              refine wpQuiet_nil ?_
              intro u hu
              have hB3 := Lib.hid hu
              clear hu hB cl cy
              cases ok with
              | true =>
                have hT2 := Lib.hid (hyes.out rfl)
                clear hno hyes
                go_wp2_with fail
                go_roundw
                case rel => exact ⟨j + 1 + 1, by omega, by go_num, hB3, hT2⟩
                case measure => simp [intOf]; omega
              | false =>
                have hRf := Lib.hid (hno.out rfl)
                clear hno hyes
                go_wp2_with fail
                go_ret
                exact ⟨by rw [hRf.out]; rfl, hB3.out.bel⟩
        · obtain rfl : k = L.length := by omega
          have hlt' : ¬ (L.length : Int) < (L.length : Int) := by omega
          have hlt2 : decide (L.length < L.length) = false := by simp
          have hRt : Hid (R = true) := Lib.hid (by
            rw [hR.out]
            exact List.all_eq_true.2 fun j hj => hT.out j (List.mem_range.1 hj))
          go_wp2_with fail
          go_ret
          exact ⟨by rw [hRt.out]; rfl, hW.out.bel⟩
    | false =>
      by_cases h5 : un = 0
      · subst h5
        have u1 : ((0 : Int) == 0) = true := rfl
        have u2 : ((0 : Int) != 0) = false := rfl
        by_cases h6 : L.length = 0
        · obtain rfl : L = [] := List.length_eq_zero_iff.1 h6
          have hR : Hid (R = true) := Lib.hid (by rw [hF.out]; rfl)
          rw [List.length_nil] at k5 K1
          clear hF h6
          go_wp2_with fail
          go_loopw [4] (fun j wr => j = .int .i64 0 ∧ Hid (KW w.heap.size w [(w.heap.size, .cells (flr ⟨i, nm, da, false, 0, ha, 0, hc⟩) 24)] wr)) (fun _ _ => 0)
          case atStart => exact ⟨rfl, K1⟩
          case round =>
            obtain ⟨rfl, hW⟩ := hrel
            rename_i wr
            clear k0 k2 k3 k4 k5 K1
            have k5 := hW.out.cell 0 rfl 5 (y := .slice ha 0 hc) rfl
            go_wp2_with fail
            go_ret
            exact ⟨by rw [hR.out]; rfl, hW.out.bel⟩
        · have hR : Hid (R = false) := Lib.hid (by rw [hF.out]; simp [h6])
          have t5 : decide ((0 : Int) < (L.length : Int)) = true := decide_eq_true (by omega)
          have t6 : (0 : Int) < (L.length : Int) := by omega
          have t7 : decide (0 < L.length) = true := decide_eq_true (by omega)
          clear hF h6
          go_wp2_with fail
          go_ret
          exact ⟨by rw [hR.out]; rfl, K1.out.bel⟩
      · have u1 : (un == 0) = false := by simpa using h5
        have u2 : (un != 0) = true := by simpa using h5
        have hR : Hid (R = false) := Lib.hid (by rw [hF.out, decide_eq_false h5]; rfl)
        clear hF h5
        go_wp2_with fail
        go_ret
        exact ⟨by rw [hR.out]; rfl, K1.out.bel⟩
end Go.Proofs.Ytphbkbjgjicncaa
