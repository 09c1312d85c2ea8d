/-
  For every file, every row of operations, and every row of times, FileSealed returns true: what is sealed keeps its bytes, whatever is done, till it goes; it is never opened, and never kept for less long; it does not go while it is kept.
  Conditions: none beyond the given statement's own.
-/
import Derived.Test.YtphbkbjgjicncaaRows
import Derived.Test.YtphbkbjgjicncaaDoReg
import Derived.Test.YtphbkbjgjicncaaOpenOps
import Derived.Test.YtphbkbjgjicncaaTail
import Derived.WalkKit
import Derived.ProofKit
import Derived.OpenShut
import Derived.ShutString
import Derived.ChangeOld
import Derived.Below
namespace Go.Proofs.Ytphbkbjgjicncaa.fileSealed
open Go.ChangeShapes Go.WideShapes Go.ChangeAt Go.RowKit
open Go.ChangeMaps (open_string shut_string)
set_option linter.unusedVariables false

theorem own : ownKnob Try.prog.godebug = none := by kernel_rfl
theorem laidOut : laidOutB Try.prog = true := by kernel_rfl

theorem do_sealed (f : Fl) (L : List ByteArray) (o : Opv) (fl : Int) (hs : f.se = true) :
    (o.kind = 1 → (doR f L o fl).2.2.2 = 5) ∧ (o.kind = 2 → (doR f L o fl).2.2.2 = 5) ∧ (o.kind = 0 → (doR f L o fl).2.2.2 = 4) ∧
    (o.kind = 6 → (doR f L o fl).2.2.2 = 0 → kptB f fl = false) ∧
    ((o.kind = 6 → (doR f L o fl).2.2.2 ≠ 0) → (doR f L o fl).1.da = f.da ∧ (doR f L o fl).1.se = true ∧ f.un ≤ (doR f L o fl).1.un) := by
  have e0 : o.kind = 0 → doneR f L o fl = (fl0, [], 4) := fun q => by unfold doneR; rw [if_pos q]
  have e1 : o.kind = 1 → (doneR f L o fl).2.2 = 5 := fun q => by unfold doneR; rw [if_neg (by omega), if_pos q]; simp [appF, hs]
  have e2 : o.kind = 2 → (doneR f L o fl).2.2 = 5 := fun q => by unfold doneR; rw [if_neg (by omega), if_neg (by omega), if_pos q]; simp [sealF, hs]
  have e6 : o.kind = 6 → (doneR f L o fl).2.2 = mayC f fl := fun q => by unfold doneR; simp [q]
  refine ⟨fun q => ?_, fun q => ?_, fun q => ?_, fun q q2 => ?_, fun q => ?_⟩
  · unfold doR; rw [e1 q]; rfl
  · unfold doR; rw [e2 q]; rfl
  · unfold doR; rw [e0 q]; rfl
  · have h1 := e6 q
    unfold doR at q2
    by_cases h0 : (doneR f L o fl).2.2 = 0
    · unfold kptB; rw [← h1, h0]; simp
    · rw [if_neg h0] at q2; exact absurd q2 h0
  · unfold doR at q ⊢
    by_cases h0 : (doneR f L o fl).2.2 = 0
    · rw [if_pos h0] at q ⊢
      dsimp only
      by_cases k0 : o.kind = 0
      · rw [e0 k0] at h0; exact absurd h0 (by decide)
      by_cases k1 : o.kind = 1
      · rw [e1 k1] at h0; exact absurd h0 (by decide)
      by_cases k2 : o.kind = 2
      · rw [e2 k2] at h0; exact absurd h0 (by decide)
      by_cases k6 : o.kind = 6
      · exact absurd rfl (q k6)
      unfold doneR at h0 ⊢
      rw [if_neg k0, if_neg k1, if_neg k2] at h0 ⊢
      by_cases k3 : o.kind = 3
      · rw [if_pos k3] at h0 ⊢
        unfold extF at h0 ⊢
        rw [if_neg (by rw [hs]; decide)] at h0 ⊢
        split at h0
        · exact absurd (show (1 : Int) = 0 from h0) (by decide)
        · split at h0
          · exact absurd (show (7 : Int) = 0 from h0) (by decide)
          · rename_i q1 q2
            rw [if_neg q1, if_neg q2]
            exact ⟨rfl, hs, by show f.un ≤ o.tm; omega⟩
      rw [if_neg k3] at h0 ⊢
      by_cases k4 : o.kind = 4
      · rw [if_pos k4]; exact ⟨rfl, hs, Int.le_refl _⟩
      rw [if_neg k4] at h0 ⊢
      by_cases k5 : o.kind = 5
      · rw [if_pos k5]; exact ⟨rfl, hs, Int.le_refl _⟩
      rw [if_neg k5, if_neg k6] at h0
      exact absurd h0 (by decide)
    · rw [if_neg h0]
      exact ⟨rfl, hs, Int.le_refl _⟩

/-- The worlds of the rounds: the file that is held now. -/
structure FS (w : World) (f : Fl) (L : List ByteArray) (v : World) : Prop where
  kw : KW w.heap.size w [(w.heap.size, .cells (flr f) 24)] v
  at_ : StrAt v.heap.size v f.ha L
  n : f.hn = L.length
theorem FS.past {w v v' : World} {f : Fl} {L : List ByteArray} (h : FS w f L v) (hb : Below v.heap.size v v') : FS w f L v' := ⟨h.kw.past hb, h.at_.on hb, h.n⟩
theorem FS.drew {w v : World} {f : Fl} {L : List ByteArray} (h : FS w f L v) : FS w f L v.drew := h.past (Below.refl _ _).drew

set_option maxHeartbeats 8000000 in
set_option maxRecDepth 100000 in
theorem walk (f : Fl) (L : List ByteArray) (l : List Opv) (p1 : Option Addr) (c1 : Nat) (fs : List Int) (p2 : Option Addr) (c2 : Nat) (w : World) (wf : f.wf w L) (hE : OpsAt w.heap.size w p1 l) (hO : ∀ o ∈ l, o.wf) (hm : l.length ≤ maxLen) (hE2 : IntAt w.heap.size w p2 fs) (hI : ∀ s ∈ fs, i64 s) (hm2 : fs.length ≤ maxLen) :
    Calls Try.prog 5 #[.agg (flr f), .slice p1 l.length c1, .slice p2 fs.length c2] w fun e w' => e = .returned (.bool true) ∧ Below w.heap.size w w' := by
  have K0 := Lib.hid ((KW.start w).new (.cells (flr f) 24))
  have hz := zero27
  have hz3 := zero33
  have W := Lib.hid wf
  have EE := Lib.hid hE
  have EE2 := Lib.hid hE2
  have OO := Lib.hid hO
  have hl1 := Lib.hid hm
  have hl2 := Lib.hid hm2
  clear hE hE2 hO hI wf
  unfold maxLen at hm hm2
  go_enter Try.func5, Try.ntmps5
  go_wp2_with fail
  refine (works_any _).mono ?_
  rintro e v1 ⟨rfl, hb⟩
  have K1 := Lib.hid (K0.out.past hb)
  clear hb K0
  by_cases h20 : 20 < l.length
  · have t1 : decide ((20 : Int) < (l.length : Int)) = true := decide_eq_true (by omega)
    have t2 : (20 : Int) < (l.length : Int) := by omega
    go_wp2_with fail
    go_ret
    exact ⟨rfl, K1.out.bel⟩
  have t1 : decide ((20 : Int) < (l.length : Int)) = false := decide_eq_false (by omega)
  have t2 : ¬ (20 : Int) < (l.length : Int) := by omega
  by_cases hq : fs.length = l.length
  · cases hse : f.se with
    | false =>
      have k3 := K1.out.cell 0 rfl 3 (y := .bool false) (by unfold flr; rw [hse]; rfl)
      rw [hq]
      clear hq
      go_wp2_with fail
      go_ret
      exact ⟨rfl, K1.out.bel⟩
    | true =>
      have k3 := K1.out.cell 0 rfl 3 (y := .bool true) (by unfold flr; rw [hse]; rfl)
      have hq' := Lib.hid hq
      have hse' := Lib.hid hse
      rw [hq]
      clear hq hse
      have h20' : l.length ≤ 20 := by omega
      clear h20 hm hm2
      have st : Hid (FS w f L v1) := Lib.hid ⟨K1.out, W.out.at_.on K1.out.bel, W.out.n⟩
      have hmL := Lib.hid W.out.m
      clear W
      go_wp2_with fail
      clear t1 t2 k3 K1
      go_loopw [8, 9] (fun n i wr => ∃ (k : Nat) (fl : Int) (g : Fl) (M : List ByteArray), k ≤ l.length ∧ i = .int .i64 (k : Int) ∧ n = .int .i64 fl ∧ Hid (FS w g M wr) ∧ Hid (g.se = true ∧ M.length ≤ maxLen)) (fun _ i _ => l.length - (intOf i).toNat)
      case atStart => exact ⟨0, 0, f, L, Nat.zero_le _, rfl, rfl, st, Lib.hid ⟨hse'.out, hmL.out⟩⟩
      case round =>
        obtain ⟨k, fl, g, M, hk, rfl, rfl, S, hg⟩ := hrel
        rename_i wr
        by_cases hlt : k < l.length
        · have hlt' : (k : Int) < (l.length : Int) := by omega
          have hlt2 : decide (k < l.length) = true := by simpa using hlt
          rcases EE.out with h0 | ⟨b1, o1, rfl, l1, hc1⟩
          · rw [h0] at hlt; simp at hlt
          have hq2 : k < fs.length := by have := hq'.out; omega
          rcases EE2.out with h0 | ⟨b2, o2, rfl, l2, hc2⟩
          · rw [h0] at hq2; simp at hq2
          have hR := Lib.hid (fun (u : World) (hu : Below w.heap.size w u) => load_op b1 (o1 + k * 6) l[k] u (rangeAt_past (hc1 k hlt) hu l1))
          have hQ0 := Lib.hid (fun (u : World) (hu : Below w.heap.size w u) => (rangeAt_past (hc1 k hlt) hu l1 0 (.int .i64 l[k].kind) rfl : u.cell? ⟨b1, o1 + k * 6 + 0, none⟩ = some (.int .i64 l[k].kind)))
          have hI2 := Lib.hid (fun (u : World) (hu : Below w.heap.size w u) => (hu.cell (p := ⟨b2, o2 + k, none⟩) l2).trans (hc2 k hq2))
          have wo := Lib.hid (OO.out l[k] (List.getElem_mem hlt))
          clear hc1 hc2
          generalize l[k] = o at *
          generalize fs[k] = t at *
          simp only [Nat.add_zero] at hQ0
          go_upto_region 10 with fail
          have cf := Lib.hid (fun (u : World) (hu : FS w g M u) => fewo_any g o M u hu.at_ hu.n hg.out.2)
          refine wp_region_class (FS w g M) (by kernel_rfl) (by kernel_rfl) S.out.drew ?_
          refine wpQuiet_load (by rfl) 24 (.tmp 3) rfl _ rfl 24 (flr g) _ (fun u hu => hu.kw.at 0 rfl) Try.underlying24 rfl (row27 _) ?_
          simp only [Act.put, List.setIfInBounds_toArray, List.set_cons_zero, List.set_cons_succ]
          refine wpQuiet_move (by rfl) _ (.inl rfl) (.slice (some ⟨b1, o1, none⟩) l.length c1) rfl ?_
          simp only [Act.put, List.setIfInBounds_toArray, List.set_cons_zero, List.set_cons_succ]
          refine wpQuiet_move (by rfl) _ (.inl rfl) (.int .i64 (k : Int)) rfl ?_
          simp only [Act.put, List.setIfInBounds_toArray, List.set_cons_zero, List.set_cons_succ]
          refine wpQuiet_index (by rfl) 47 _ _ rfl _ _ rfl rfl _ (fun u => index47 b1 o1 l.length c1 k hlt u) ?_
          simp only [Act.put, List.setIfInBounds_toArray, List.set_cons_zero, List.set_cons_succ]
          refine wpQuiet_mid (by rfl) 27 _ rfl b1 (o1 + k * 6) rfl (.agg (opr o)) (fun u hu => hR.out u hu.kw.bel) ?_
          simp only [Act.put, List.setIfInBounds_toArray, List.set_cons_zero, List.set_cons_succ]
          refine wpQuiet_call2 (by rfl) 11 (.tmp 40) (.tmp 44) _ rfl ent11 _ _ rfl rfl (.bool (foB g M o)) (fun u hu => (cf.out u hu).mono (fun e u' he => ⟨he.1, hu.past he.2⟩)) ?_
          simp only [Act.put, List.setIfInBounds_toArray, List.set_cons_zero, List.set_cons_succ]
          refine wpQuiet_move (by rfl) _ (.inr rfl) (.bool (foB g M o)) rfl ?_
          simp only [Act.put, List.setIfInBounds_toArray, List.set_cons_zero, List.set_cons_succ]
          refine wpQuiet_nil ?_
          intro x hx
          have S1 := Lib.hid hx
          clear hx S cf
          cases hfo : foB g M o with
          | false =>
            go_wp2_with fail
            go_ret
            exact ⟨rfl, S1.out.kw.bel⟩
          | true =>
            have hfb : Hid (M.length ≤ 200 ∧ (∀ x ∈ M, x.size ≤ 200) ∧ g.da.size ≤ 2000 ∧ o.tx.size ≤ 700) := Lib.hid (by
              unfold foB at hfo
              simp only [Bool.and_eq_true, decide_eq_true_eq] at hfo
              have := fewB_true hfo.1
              exact ⟨this.1, this.2.1, this.2.2.1, hfo.2.1⟩)
            clear hfo
            have ci2 := hI2.out x S1.out.kw.bel
            have cfl := Lib.hid (fun v => floor_any fl t v)
            generalize flC fl t = fl2 at cfl
            have ckp := Lib.hid (fun v => kept_any g fl2 v)
            go_upto_region 15 with (first
              | (go_at_call 26; refine (cfl.out _).mono ?_; rintro e w' ⟨rfl, rfl⟩)
              | (go_at_call 27; refine (ckp.out _).mono ?_; rintro e v3 ⟨rfl, hb3⟩)
              | (refine wpList_load_row (by rfl) 24 (.tmp 3) rfl _ rfl 24 _ _ (S1.out.kw.at 0 rfl) Try.underlying24 rfl (row27 _) ?_))
            have S3 := Lib.hid (S1.out.past hb3)
            clear hb3 ci2 cfl ckp S1
            have hds := Lib.hid (do_sealed g M o fl2 hg.out.1)
            have hrow := Lib.hid (doR_rows g M o fl2)
            have hev := Lib.hid (doR_len g M o fl2)
            have hcl := Lib.hid (fun (u : World) (hu : FS w g M u) (hN : v3.heap.size ≤ u.heap.size) => do_calls v3.heap.size g o fl2 M u hN hu.at_ hu.n (by have := hfb.out.1; omega) (fun y hy => by have := hfb.out.2.1 y hy; omega) (by have := hfb.out.2.2.1; omega) (by have := hfb.out.2.2.2; omega))
            refine wp_region_do (P := Try.prog) 6 [.agg (flr g), .slice (some ⟨b1, o1, none⟩) l.length c1, .int .i64 (k : Int), .pointer (some ⟨b1, o1 + k * 6, none⟩), .agg (opr o), .int .i64 fl2] 12 _ _ #[.agg (flr g), .agg (opr o), .int .i64 fl2] 65 58 66 67 68 12 13 14 24 33 (flr fl0) (evr ev0) (DoΦ v3.heap.size (doR g M o fl2)) (by kernel_rfl) (by kernel_rfl) rfl rfl (DoΦ.keep _ _) ?head _ _ _ _ _ _ _ _ _ _ rfl rfl rfl rfl rfl rfl rfl rfl rfl rfl rfl rfl rfl rfl rfl rfl rfl rfl rfl rfl rfl rfl rfl rfl rfl rfl rfl rfl rfl rfl (by kernel_rfl) (by kernel_rfl) (by kernel_rfl) (by kernel_rfl) (by kernel_rfl) (by kernel_rfl) (by kernel_rfl) (by kernel_rfl) (by kernel_rfl) ent12 ?args (fun u hB => hcl.out u (S3.out.past hB) hB.size) zero27 zero33 ?fin
            case head =>
              intro j oj vj ho hv a u hk hb hB
              have hu := S3.out.past hB
              match j, ho, hv with
              | 0, ho, hv =>
                obtain rfl := Option.some.inj ho
                obtain rfl := Option.some.inj hv
                exact x_load_row 24 (.tmp 3) rfl w.heap.size (eval_tmp ((hb 3 (by kernel_rfl)).trans rfl)) 24 (flr g) _ (hu.kw.at 0 rfl) Try.underlying24 rfl (row27 _)
              | 1, ho, hv =>
                obtain rfl := Option.some.inj ho
                obtain rfl := Option.some.inj hv
                exact x_move (.tmp 1) (.inl rfl) _ (eval_tmp ((hb 1 (by kernel_rfl)).trans rfl))
              | 2, ho, hv =>
                obtain rfl := Option.some.inj ho
                obtain rfl := Option.some.inj hv
                exact x_move (.tmp 9) (.inl rfl) _ (eval_tmp ((hb 9 (by kernel_rfl)).trans rfl))
              | 3, ho, hv =>
                obtain rfl := Option.some.inj ho
                obtain rfl := Option.some.inj hv
                exact x_index 47 (.tmp 60) (.tmp 61) rfl _ _ _ (eval_tmp (hk 1 _ 60 _ (by kernel_rfl) rfl rfl rfl)) (eval_tmp (hk 2 _ 61 _ (by kernel_rfl) rfl rfl rfl)) (index47 b1 o1 l.length c1 k hlt u)
              | 4, ho, hv =>
                obtain rfl := Option.some.inj ho
                obtain rfl := Option.some.inj hv
                exact x_load 27 (.tmp 62) rfl _ _ (eval_tmp (hk 3 _ 62 _ (by kernel_rfl) rfl rfl rfl)) (hR.out u hu.kw.bel)
              | 5, ho, hv =>
                obtain rfl := Option.some.inj ho
                obtain rfl := Option.some.inj hv
                exact x_move (.tmp 8) (.inl rfl) _ (eval_tmp ((hb 8 (by kernel_rfl)).trans rfl))
              | j + 6, ho, hv => simp at hv
            case args =>
              intro a hk hb
              have e1 := eval_tmp (hk 0 _ 59 _ (by kernel_rfl) rfl rfl rfl)
              have e2 := eval_tmp (hk 4 _ 63 _ (by kernel_rfl) rfl rfl rfl)
              have e3 := eval_tmp (hk 5 _ 64 _ (by kernel_rfl) rfl rfl rfl)
              simp only [List.map_toArray, List.map_cons, List.map_nil, e1, e2, e3]
            case fin =>
              rintro x y z lo hi bA bB u hB ⟨a', c', rfl, rfl, rfl, hfr, hlo⟩ hhi hA hBb nA nB nab aA aB
              have S4 := Lib.hid (S3.out.past hB)
              have hs3 := Lib.hid (S3.out.kw.lt 0 rfl)
              generalize doR g M o fl2 = R at *
              obtain ⟨G, M2, E, code⟩ := R
              dsimp only at hfr hA hBb
              have hG := hds.out
              dsimp only at hG
              obtain ⟨x1, x2, x0, x6, xx⟩ := hG
              have KK := Lib.hid (((S4.out.kw.know bA _ hA (by have := hs3.out; simp; omega)).know bB _ hBb (by have := hs3.out; simp; omega)))
              have K5 : Hid (KW w.heap.size w [(w.heap.size, .cells (flr { G with ha := a', hn := M2.length, hc := c' }) 24)] (u.setRow w.heap.size (flr { G with ha := a', hn := M2.length, hc := c' }))) := Lib.hid (S4.out.kw.row 0 rfl (Nat.le_refl _) _)
              have f5 : Hid (StrAt (u.setRow w.heap.size (flr { G with ha := a', hn := M2.length, hc := c' })).heap.size (u.setRow w.heap.size (flr { G with ha := a', hn := M2.length, hc := c' })) a' M2) := Lib.hid ((hfr.keep (v := u.setRow w.heap.size (flr { G with ha := a', hn := M2.length, hc := c' })) (fun b h1 _ => setRow_other _ _ _ _ (by have := hs3.out; omega))).str (by rw [size_setRow]; exact hhi))
              have q0 := hQ0.out u S4.out.kw.bel
              have d2 := S4.out.kw.cell 0 rfl 2 (y := .string g.da) rfl
              have d4 := S4.out.kw.cell 0 rfl 4 (y := .int .i64 g.un) rfl
              have hM2 : Hid (M2.length ≤ maxLen) := Lib.hid (by have h1 := hrow.out; have h2 := hfb.out.1; dsimp only at h1; unfold maxLen; omega)
              clear hfr hA hBb hB hds hrow hev hcl nA nB nab aA aB hlo hhi S3
              simp only [putAll, List.cons_append, List.nil_append, List.getD_cons_zero, List.getD_cons_succ, Nat.zero_add, Nat.reduceAdd]
              simp only [Act.put, List.setIfInBounds_toArray, List.set_cons_zero, List.set_cons_succ]
              have key : ∀ (hGd : G.da = g.da) (hGs : G.se = true) (hGu : g.un ≤ G.un), True := fun _ _ _ => trivial
              clear key
              by_cases k6 : o.kind = 6 ∧ code = 0
              · obtain ⟨k6, rfl⟩ := k6
                have hk := x6 k6 rfl
                have s1 : (o.kind == 1) = false := by rw [k6]; rfl
                have s2 : (o.kind == 2) = false := by rw [k6]; rfl
                have s0 : (o.kind == 0) = false := by rw [k6]; rfl
                have s6 : (o.kind == 6) = true := by rw [k6]; rfl
                rw [hk]
                clear x1 x2 x0 x6 xx k6
                go_wp2_with fail
                go_ret
                exact ⟨rfl, KK.out.bel⟩
              · have s6 : ((o.kind == 6) && (code == 0)) = false := by
                  simp only [Bool.and_eq_false_iff, beq_eq_false_iff_ne]
                  rcases Classical.em (o.kind = 6) with q | q
                  · exact .inr fun q2 => k6 ⟨q, q2⟩
                  · exact .inl q
                obtain ⟨hGd, hGs, hGu⟩ := xx (fun q q2 => k6 ⟨q, q2⟩)
                have c2 := KK.out.cell 1 rfl 2 (y := .string g.da) (by unfold flr; rw [← hGd]; rfl)
                have c3 := KK.out.cell 1 rfl 3 (y := .bool true) (by unfold flr; rw [← hGs]; rfl)
                have c4 := KK.out.cell 1 rfl 4 (y := .int .i64 G.un) rfl
                have hlu : decide (G.un < g.un) = false := decide_eq_false (by omega)
                have hGs' := Lib.hid hGs
                clear xx x6 hGd hGs hGu k6
                by_cases q : o.kind = 1
                · obtain rfl := x1 q
                  have s1 : (o.kind == 1) = true := by rw [q]; rfl
                  have s2 : (o.kind == 2) = false := by rw [q]; rfl
                  have s0 : (o.kind == 0) = false := by rw [q]; rfl
                  have s6k : (o.kind == 6) = false := by rw [q]; rfl
                  clear s6 x1 x2 x0 q
                  go_wp2_with (first
                    | (refine wpList_load_row (by rfl) 24 (.tmp 12) rfl _ rfl 24 _ _ (KK.out.at 1 rfl) Try.underlying24 rfl (row27 _) ?_)
                    | (refine wpList_store_row (by rfl) 24 (.tmp 3) (.tmp 135) rfl _ (flr { G with ha := a', hn := M2.length, hc := c' }) rfl rfl 24 _ (S4.out.kw.at 0 rfl) (row27 _) (flr_same _ _) (flr_one _) ?_))
                  go_roundw
                  case rel => exact ⟨k + 1, fl2, { G with ha := a', hn := M2.length, hc := c' }, M2, by omega, by go_num, rfl, Lib.hid ⟨K5.out, f5.out, rfl⟩, Lib.hid ⟨hGs'.out, hM2.out⟩⟩
                  case measure => simp [intOf]; omega
                have s1 : (o.kind == 1) = false := by simpa using q
                clear q
                by_cases q : o.kind = 2
                · obtain rfl := x2 q
                  have s1 : (o.kind == 1) = false := by rw [q]; rfl
                  have s2 : (o.kind == 2) = true := by rw [q]; rfl
                  have s0 : (o.kind == 0) = false := by rw [q]; rfl
                  have s6k : (o.kind == 6) = false := by rw [q]; rfl
                  clear s6 x1 x2 x0 q
                  go_wp2_with (first
                    | (refine wpList_load_row (by rfl) 24 (.tmp 12) rfl _ rfl 24 _ _ (KK.out.at 1 rfl) Try.underlying24 rfl (row27 _) ?_)
                    | (refine wpList_store_row (by rfl) 24 (.tmp 3) (.tmp 135) rfl _ (flr { G with ha := a', hn := M2.length, hc := c' }) rfl rfl 24 _ (S4.out.kw.at 0 rfl) (row27 _) (flr_same _ _) (flr_one _) ?_))
                  go_roundw
                  case rel => exact ⟨k + 1, fl2, { G with ha := a', hn := M2.length, hc := c' }, M2, by omega, by go_num, rfl, Lib.hid ⟨K5.out, f5.out, rfl⟩, Lib.hid ⟨hGs'.out, hM2.out⟩⟩
                  case measure => simp [intOf]; omega
                have s2 : (o.kind == 2) = false := by simpa using q
                clear q
                by_cases q : o.kind = 0
                · obtain rfl := x0 q
                  have s1 : (o.kind == 1) = false := by rw [q]; rfl
                  have s2 : (o.kind == 2) = false := by rw [q]; rfl
                  have s0 : (o.kind == 0) = true := by rw [q]; rfl
                  have s6k : (o.kind == 6) = false := by rw [q]; rfl
                  clear s6 x1 x2 x0 q
                  go_wp2_with (first
                    | (refine wpList_load_row (by rfl) 24 (.tmp 12) rfl _ rfl 24 _ _ (KK.out.at 1 rfl) Try.underlying24 rfl (row27 _) ?_)
                    | (refine wpList_store_row (by rfl) 24 (.tmp 3) (.tmp 135) rfl _ (flr { G with ha := a', hn := M2.length, hc := c' }) rfl rfl 24 _ (S4.out.kw.at 0 rfl) (row27 _) (flr_same _ _) (flr_one _) ?_))
                  go_roundw
                  case rel => exact ⟨k + 1, fl2, { G with ha := a', hn := M2.length, hc := c' }, M2, by omega, by go_num, rfl, Lib.hid ⟨K5.out, f5.out, rfl⟩, Lib.hid ⟨hGs'.out, hM2.out⟩⟩
                  case measure => simp [intOf]; omega
                have s0 : (o.kind == 0) = false := by simpa using q
                clear q
                clear x1 x2 x0
                cases hk6 : (o.kind == 6) with
                | false =>
                  clear s6
                  go_wp2_with (first
                    | (refine wpList_load_row (by rfl) 24 (.tmp 12) rfl _ rfl 24 _ _ (KK.out.at 1 rfl) Try.underlying24 rfl (row27 _) ?_)
                    | (refine wpList_store_row (by rfl) 24 (.tmp 3) (.tmp 135) rfl _ (flr { G with ha := a', hn := M2.length, hc := c' }) rfl rfl 24 _ (S4.out.kw.at 0 rfl) (row27 _) (flr_same _ _) (flr_one _) ?_))
                  go_roundw
                  case rel => exact ⟨k + 1, fl2, { G with ha := a', hn := M2.length, hc := c' }, M2, by omega, by go_num, rfl, Lib.hid ⟨K5.out, f5.out, rfl⟩, Lib.hid ⟨hGs'.out, hM2.out⟩⟩
                  case measure => simp [intOf]; omega
                | true =>
                  have sc : (code == 0) = false := by rw [hk6] at s6; simpa using s6
                  clear s6
                  go_wp2_with (first
                    | (refine wpList_load_row (by rfl) 24 (.tmp 12) rfl _ rfl 24 _ _ (KK.out.at 1 rfl) Try.underlying24 rfl (row27 _) ?_)
                    | (refine wpList_store_row (by rfl) 24 (.tmp 3) (.tmp 135) rfl _ (flr { G with ha := a', hn := M2.length, hc := c' }) rfl rfl 24 _ (S4.out.kw.at 0 rfl) (row27 _) (flr_same _ _) (flr_one _) ?_))
                  go_roundw
                  case rel => exact ⟨k + 1, fl2, { G with ha := a', hn := M2.length, hc := c' }, M2, by omega, by go_num, rfl, Lib.hid ⟨K5.out, f5.out, rfl⟩, Lib.hid ⟨hGs'.out, hM2.out⟩⟩
                  case measure => simp [intOf]; omega
        · obtain rfl : k = l.length := by omega
          have hlt' : ¬ (l.length : Int) < (l.length : Int) := by omega
          have hlt2 : decide (l.length < l.length) = false := by simp
          go_wp2_with fail
          go_ret
          exact ⟨rfl, S.out.kw.bel⟩
  · have u1 : ((fs.length : Int) == (l.length : Int)) = false := by simp; omega
    have u2 : ((fs.length : Int) != (l.length : Int)) = true := by simp; omega
    have u3 : (fs.length == l.length) = false := by simp; omega
    clear hm hm2 h20
    generalize fs.length = n1 at *
    generalize l.length = n2 at *
    go_wp2_with fail
    go_ret
    exact ⟨rfl, K1.out.bel⟩


set_option maxRecDepth 100000 in
theorem lifted (os : Os) (started : os.Started) (H : Type) (enc : TypeId × Value → H) :
    ReturnsInHanded {} Try.checked os 5 .any (Rows.fileSealedSpec.pre6 enc Try.prog Try.f5 Rows.fileSealedRow.domain false) (Rows.fileSealedSpec.post enc Try.prog Try.f5 false true false false) := by
  refine returnsInHanded_of_change (C := Try.checked) own started (by kernel_rfl) Try.func5
    (ChangeSpec.witness6 (enc := enc) (C := Try.checked) false ⟨#[], #[.agg #[.int .i64 0, .string ByteArray.empty, .string ByteArray.empty, .bool false, .int .i64 0, .slice none 0 0], .slice none 0 0, .slice none 0 0], []⟩ 8 (by kernel_rfl) (by kernel_rfl) (by kernel_rfl) (by kernel_rfl)) ?_
  intro W base args ds gs before hval0 hW hcnd _
  have hval : ∀ (j : Nat) t v, Try.f5.params[j]? = some t → args[j]? = some v → Value.okWide Try.prog W .any base t v := hval0
  have hW' := hW
  obtain ⟨p, q, hA0, hV, rfl, hfz, hnd⟩ := hW
  have hA : DataW.TrodAll enc Try.prog W 0 (fun _ => true) true Try.f5.params.toList args.toList ds p := hA0
  rw [Try.params5] at hA hval
  obtain ⟨v0, vs0, d0, ds0, p0, q0, hargs, rfl, rfl, h0, r0⟩ := trodAll_cons hA
  obtain ⟨v1, vs1, d1, ds1, p1, q1, rfl, rfl, rfl, h1, r1⟩ := trodAll_cons r0
  obtain ⟨v2, vs2, d2, ds2, p2, q2, rfl, rfl, rfl, h2, r2⟩ := trodAll_cons r1
  obtain ⟨rfl, rfl, rfl⟩ := trodAll_nil r2
  obtain rfl : args = #[v0, v1, v2] := by cases args; simp_all
  obtain ⟨rfl, rfl⟩ := trodVars_none hV
  have k0 := h0
  have lt0 : ∀ x ∈ p0, x.block < W.heap.size := by obtain ⟨m, hm⟩ := k0; exact DataW.trod_lt m _ _ _ hm
  obtain ⟨f0, L0, rfl, wf0⟩ := open_file (hval 0 24 v0 rfl rfl) h0
  have k1 := h1
  have lt1 : ∀ x ∈ p1, x.block < W.heap.size := by obtain ⟨m, hm⟩ := k1; exact DataW.trod_lt m _ _ _ hm
  obtain ⟨a1, len1, cap1, rfl⟩ := okWide_slice Try.underlying47 (hval 1 47 v1 rfl rfl)
  obtain ⟨fuel1, hf1⟩ := h1
  obtain ⟨a, c, L1, hcs1, E1, wf1, mx1⟩ := open_ops (cs := [Value.slice a1 len1 cap1]) hf1
  simp only [List.cons.injEq, Value.slice.injEq, and_true] at hcs1
  obtain ⟨rfl, rfl, rfl⟩ := hcs1
  have k2 := h2
  have lt2 : ∀ x ∈ p2, x.block < W.heap.size := by obtain ⟨m, hm⟩ := k2; exact DataW.trod_lt m _ _ _ hm
  obtain ⟨a2, len2, cap2, rfl⟩ := okWide_slice Try.underlying48 (hval 2 48 v2 rfl rfl)
  obtain ⟨fuel2, hf2⟩ := h2
  obtain ⟨a, c, L2, hcs2, E2, wf2, mx2⟩ := open_ints (cs := [Value.slice a2 len2 cap2]) hf2
  simp only [List.cons.injEq, Value.slice.injEq, and_true] at hcs2
  obtain ⟨rfl, rfl, rfl⟩ := hcs2
  clear hA0 hval0
  refine (walk f0 L0 L1 a1 cap1 L2 a2 cap2 W wf0 E1 wf1 mx1 E2 wf2 mx2).mono fun e W' ⟨he, bel⟩ => ?_
  subst he
  exact ⟨_, rfl, _, _, _, [], _, [], hW', trodAll_mk1 (shut_bool Try.underlying4 _), (trodAll_cons_mk (Below.trod laidOut (by kernel_rfl) (of_decide_eq_true (by kernel_rfl)) k0 bel lt0) (trodAll_cons_mk (Below.trod laidOut (by kernel_rfl) (of_decide_eq_true (by kernel_rfl)) k1 bel lt1) (trodAll_cons_mk (Below.trod laidOut (by kernel_rfl) (of_decide_eq_true (by kernel_rfl)) k2 bel lt2) trodAll_mk0))), rfl, bel.frame _, fun h => by cases h⟩

theorem over : Rows.fileSealedRow.holds Try.pinned (OpenSpec.ofChange Rows.fileSealedSpec) :=
  OpenClaim.holds_of_wide 5 Try.f5 rfl rfl rfl rfl rfl rfl rfl ⟨rfl, rfl, rfl, rfl, rfl⟩ rfl rfl rfl rfl rfl (by kernel_rfl) Try.func5 (by kernel_rfl)
    (of_decide_eq_true (by kernel_rfl)) (by unfold Func.isWrapper; first | (rw [if_pos (by decide +kernel)]; kernel_rfl) | (rw [if_neg (by decide +kernel)]; exact ⟨rfl, rfl⟩))
    (fun os started H enc _ => lifted os started H enc)

/-- The given statement. -/
theorem fileSealed_proved : Rows.FileSealedSaid :=
  over
#print axioms fileSealed_proved
end Go.Proofs.Ytphbkbjgjicncaa.fileSealed
