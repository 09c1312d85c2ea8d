/-
  For every file, floor, time and label RuleKeeps returns true: what is kept stays kept, till its time has come, and nobody holds it; it is never opened again, nor kept for less long.
  Conditions: none beyond the given statement's own.
-/
import Derived.Test.YtjfgmkgcdkocgaaRows
import Derived.Test.YtjfgmkgcdkocgaaWorks
import Derived.Test.YtjfgmkgcdkocgaaOpens
import Derived.Test.YtjfgmkgcdkocgaaFew
import Derived.WalkKit
import Derived.ProofKit
import Derived.OpenShut
import Derived.ShutString
import Derived.ChangeOld
import Derived.Below
namespace Go.Proofs.Ytjfgmkgcdkocgaa.ruleKeeps
open Go.ChangeShapes Go.WideShapes Go.ChangeAt Go.RowKit
open Go.ChangeMaps (open_string shut_string)
set_option linter.unusedVariables false

theorem own : ownKnob Try.prog.godebug = none := by kernel_rfl
theorem laidOut : laidOutB Try.prog = true := by kernel_rfl

theorem ent19 : ∀ args w, (callFunc 19 args).run Try.prog w = .ok (.enter 19 args) w := enters_of Try.func19 (by kernel_rfl) rfl
theorem kept_iff (f : Fl) (fl : Int) : kptB f fl = true ↔ f.se = true ∧ (fl < f.un ∨ 0 < f.hn) := by
  unfold kptB mayC
  cases f.se
  · simp
  · by_cases h1 : fl < f.un
    · simp [h1]
    · by_cases h2 : 0 < f.hn
      · simp [h1, h2]
      · simp [h1, h2]
theorem ins_len (x : ByteArray) (L : List ByteArray) (se : Bool) : L.length ≤ (hldL se x L).length := by
  unfold hldL
  split
  · rw [insAt_len _ _ _ (plc_le x L)]; omega
  · exact Nat.le_refl _

set_option maxRecDepth 100000 in
set_option maxHeartbeats 4000000 in
theorem walk (f : Fl) (L : List ByteArray) (fl t : Int) (s : ByteArray) (w : World) (wf : f.wf w L) (w1 : (Lit.int .i64 fl).wf = true) (w2 : (Lit.int .i64 t).wf = true) (w3 : s.size ≤ maxLen) :
    Calls Try.prog 5 #[.agg (flr f), .int .i64 fl, .int .i64 t, .string s] w fun e w' => e = .returned (.bool true) ∧ Below w.heap.size w w' := by
  unfold maxLen at w3
  have K0 : Hid (KW w.heap.size w [(w.heap.size, .cells (flr f) 27)] (w.alloc (.cells (flr f) 27))) := Lib.hid ((KW.start w).new _)
  have hat : Hid (∀ v, Below w.heap.size w v → StrAt v.heap.size v f.ha L) := Lib.hid (fun v hb => wf.at_.on hb)
  have wn := Lib.hid wf.n
  have cw := Lib.hid (fun v (hb : Below w.heap.size w v) => few_any f L v (hat.out v hb) wf.n wf.m)
  have hz := zero27
  have hs64 : (s.size : Int) ≤ 9223372036854775807 := by omega
  clear wf
  cases hfew : fewB f L with
  | false =>
    rw [hfew] at cw
    clear hfew
    go_enter Try.func5, Try.ntmps5
    go_wp2_with fail
    refine (works_any _).mono ?_
    rintro e v1 ⟨rfl, b1⟩
    have K1 := Lib.hid (K0.out.past b1)
    have g1 : Hid (_ = some (Obj.cells (flr f) 27)) := Lib.hid (K1.out.at 0 rfl)
    clear b1
    go_wp2_with (with_reducible refine wpList_load_row rfl 27 (.tmp 4) rfl _ rfl 27 _ _ g1.out Try.underlying27 rfl (row27 _) ?_)
    refine (cw.out _ K1.out.bel).mono ?_
    rintro e v2 ⟨rfl, b2⟩
    have K2 := Lib.hid (K1.out.past b2)
    clear b2 K1 g1 K0
    go_wp2_with fail
    go_ret
    exact ⟨rfl, K2.out.bel⟩
  | true =>
    rw [hfew] at cw
    have hL := Lib.hid (fewB_true hfew)
    clear hfew
    by_cases hs : 200 < s.size
    · have t1 : decide ((200 : Int) < (s.size : Int)) = true := by simp; omega
      clear hs w3
      go_enter Try.func5, Try.ntmps5
      go_wp2_with fail
      refine (works_any _).mono ?_
      rintro e v1 ⟨rfl, b1⟩
      have K1 := Lib.hid (K0.out.past b1)
      have g1 : Hid (_ = some (Obj.cells (flr f) 27)) := Lib.hid (K1.out.at 0 rfl)
      clear b1
      go_wp2_with (with_reducible refine wpList_load_row rfl 27 (.tmp 4) rfl _ rfl 27 _ _ g1.out Try.underlying27 rfl (row27 _) ?_)
      refine (cw.out _ K1.out.bel).mono ?_
      rintro e v2 ⟨rfl, b2⟩
      have K2 := Lib.hid (K1.out.past b2)
      clear b2 K1 g1 K0
      go_wp2_with fail
      go_ret
      exact ⟨rfl, K2.out.bel⟩
    have t1 : decide ((200 : Int) < (s.size : Int)) = false := by simp; omega
    have hs40 : s.size ≤ 1099511627776 := by omega
    have ck := Lib.hid (fun v => kept_any f fl v)
    cases hk : kptB f fl with
    | false =>
      rw [hk] at ck
      clear hk hs w3
      go_enter Try.func5, Try.ntmps5
      go_wp2_with fail
      refine (works_any _).mono ?_
      rintro e v1 ⟨rfl, b1⟩
      have K1 := Lib.hid (K0.out.past b1)
      have g1 : Hid (_ = some (Obj.cells (flr f) 27)) := Lib.hid (K1.out.at 0 rfl)
      clear b1
      go_wp2_with (with_reducible refine wpList_load_row rfl 27 (.tmp 4) rfl _ rfl 27 _ _ g1.out Try.underlying27 rfl (row27 _) ?_)
      refine (cw.out _ K1.out.bel).mono ?_
      rintro e v2 ⟨rfl, b2⟩
      have K2 := Lib.hid (K1.out.past b2)
      have g2 : Hid (_ = some (Obj.cells (flr f) 27)) := Lib.hid (K2.out.at 0 rfl)
      clear b2 K1 g1 K0
      go_wp2_with (with_reducible refine wpList_load_row_g (by with_unfolding_all rfl) 27 (.tmp 4) rfl _ rfl 27 _ _ g2.out Try.underlying27 rfl (row27 _) ?_)
      refine (ck.out _).mono ?_
      rintro e v3 ⟨rfl, b3⟩
      have K3 := Lib.hid (K2.out.past b3)
      clear b3 K2 g2
      go_wp2_with fail
      go_ret
      exact ⟨rfl, K3.out.bel⟩
    | true =>
      rw [hk] at ck
      obtain ⟨hse, hkk⟩ := (kept_iff f fl).1 hk
      have hL2 : L.length ≤ 1000 := by have := hL.out.1; omega
      have hL3 : ∀ y ∈ L, y.size ≤ 1099511627776 := fun y hy => by have := hL.out.2.1 y hy; omega
      have cS : Hid (∀ v, Below w.heap.size w v → Calls Try.prog 19 #[.agg (flr f), .int .i64 t] v fun e v' => ∃ A : Fl, e = .returned (.tuple #[.agg (flr A), .int .i64 5]) ∧ (A.se = true ∧ kptB A fl = true) ∧ Below v.heap.size v v') := Lib.hid (fun v hb => by
        refine (seal_any f t L v (hat.out v hb) wn.out hL2).mono ?_
        have e1 : sealF f t = (f, 5) := by unfold sealF; rw [if_pos hse]
        rw [e1]
        rintro e v' ⟨a, c, rfl, _, hB⟩
        exact ⟨_, rfl, ⟨hse, (kept_iff _ _).2 ⟨hse, by rw [← wn.out]; exact hkk⟩⟩, hB⟩)
      have cE : Hid (∀ v, Below w.heap.size w v → Calls Try.prog 20 #[.agg (flr f), .int .i64 t] v fun e v' => ∃ (A : Fl) (x : Int), e = .returned (.tuple #[.agg (flr A), .int .i64 x]) ∧ (A.se = true ∧ kptB A fl = true ∧ f.un ≤ A.un ∧ A.da = f.da) ∧ Below v.heap.size v v') := Lib.hid (fun v hb => by
        refine (extend_any f t L v (hat.out v hb) wn.out hL2).mono ?_
        have e1 : (extF f t).1.se = true ∧ f.un ≤ (extF f t).1.un ∧ (extF f t).1.da = f.da := by
          unfold extF
          rw [if_neg (by rw [hse]; decide)]
          split
          · exact ⟨hse, Int.le_refl _, rfl⟩
          · split
            · exact ⟨hse, Int.le_refl _, rfl⟩
            · exact ⟨hse, by show f.un ≤ t; omega, rfl⟩
        rintro e v' ⟨a, c, rfl, _, hB⟩
        exact ⟨_, _, rfl, ⟨e1.1, (kept_iff _ _).2 ⟨e1.1, hkk.imp (fun q => Int.lt_of_lt_of_le q e1.2.1) (fun q => by rw [← wn.out]; exact q)⟩, e1.2.1, e1.2.2⟩, hB⟩)
      have cH : Hid (∀ v, Below w.heap.size w v → Calls Try.prog 21 #[.agg (flr f), .string s] v fun e v' => ∃ (A : Fl) (x : Int), e = .returned (.tuple #[.agg (flr A), .int .i64 x]) ∧ (A.se = true ∧ kptB A fl = true ∧ A.da = f.da) ∧ Below v.heap.size v v') := Lib.hid (fun v hb => by
        refine (hold_any f s L v (hat.out v hb) wn.out hL2 hL3 hs40).mono ?_
        rintro e v' ⟨a, c, rfl, _, hB⟩
        exact ⟨_, _, rfl, ⟨hse, (kept_iff _ _).2 ⟨hse, hkk.imp id (fun q => by have := ins_len s L f.se; rw [wn.out] at q; exact Nat.lt_of_lt_of_le q this)⟩, rfl⟩, hB⟩)
      have cR : Hid (∀ v, Below w.heap.size w v → Calls Try.prog 22 #[.agg (flr f), .string s] v fun e v' => ∃ (A : Fl) (x : Int), e = .returned (.tuple #[.agg (flr A), .int .i64 x]) ∧ (A.se = true ∧ A.un = f.un ∧ A.da = f.da) ∧ Below v.heap.size v v') := Lib.hid (fun v hb => by
        refine (release_any f s L v (hat.out v hb) wn.out hL2).mono ?_
        rintro e v' ⟨a, c, rfl, _, hB⟩
        exact ⟨_, _, rfl, ⟨hse, rfl, rfl⟩, hB⟩)
      have hz := zero27
      clear hk hs w3 hse hkk hL2 hL3 hs40
      go_enter Try.func5, Try.ntmps5
      go_wp2_with fail
      refine (works_any _).mono ?_
      rintro e v1 ⟨rfl, b1⟩
      have K1 := Lib.hid (K0.out.past b1)
      have g1 : Hid (_ = some (Obj.cells (flr f) 27)) := Lib.hid (K1.out.at 0 rfl)
      clear b1
      go_wp2_with (with_reducible refine wpList_load_row rfl 27 (.tmp 4) rfl _ rfl 27 _ _ g1.out Try.underlying27 rfl (row27 _) ?_)
      refine (cw.out _ K1.out.bel).mono ?_
      rintro e v2 ⟨rfl, b2⟩
      have K2 := Lib.hid (K1.out.past b2)
      have g2 : Hid (_ = some (Obj.cells (flr f) 27)) := Lib.hid (K2.out.at 0 rfl)
      clear b2 K1 g1 K0
      go_wp2_with (with_reducible refine wpList_load_row_g (by with_unfolding_all rfl) 27 (.tmp 4) rfl _ rfl 27 _ _ g2.out Try.underlying27 rfl (row27 _) ?_)
      refine (ck.out _).mono ?_
      rintro e v3 ⟨rfl, b3⟩
      have K3 := Lib.hid (K2.out.past b3)
      clear b3 K2 g2
      have g4 : Hid (_ = some (Obj.cells (flr f) 27)) := Lib.hid (K3.out.at 0 rfl)
      go_wp2_with (with_reducible refine wpList_load_row rfl 27 (.tmp 4) rfl _ rfl 27 _ _ g4.out Try.underlying27 rfl (row27 _) ?_)
      refine (cS.out _ K3.out.bel).mono ?_
      rintro e v4 ⟨A, rfl, hA, hb⟩
      have hA' := Lib.hid hA
      have P4 := Lib.hid (K3.out.past hb)
      have q4 : Hid ((v4.alloc (.cells (flr fl0) 27)).heap[v4.heap.size]? = some (.cells (flr fl0) 27)) := Lib.hid (by rw [heap_alloc_if, if_pos rfl])
      have K4 := Lib.hid (P4.out.lay fl0 A)
      clear hb P4 K3 g4 hA
      go_wp2_with (first
        | (with_reducible refine park_at 45 rfl (fun Pk hX => ?_))
        | (with_reducible refine wpList_store_row rfl 27 (.tmp 11) (.tmp 42) rfl _ (flr A) rfl rfl 27 _ q4.out (row27 _) (flr_same _ _) (flr_one _) ?_))
      refine hX.out ?_
      clear hX q4
      generalize (v4.alloc (.cells (flr fl0) 27)).setRow v4.heap.size (flr A) = W4 at *
      generalize v4.heap.size = b4 at *
      have g5 : Hid (_ = some (Obj.cells (flr f) 27)) := Lib.hid (K4.out.at 1 rfl)
      go_wp2_with (with_reducible refine wpList_load_row rfl 27 (.tmp 4) rfl _ rfl 27 _ _ g5.out Try.underlying27 rfl (row27 _) ?_)
      refine (cE.out _ K4.out.bel).mono ?_
      rintro e v5 ⟨B, xB, rfl, hB, hb⟩
      have hB' := Lib.hid hB
      have P5 := Lib.hid (K4.out.past hb)
      have q5 : Hid ((v5.alloc (.cells (flr fl0) 27)).heap[v5.heap.size]? = some (.cells (flr fl0) 27)) := Lib.hid (by rw [heap_alloc_if, if_pos rfl])
      have K5 := Lib.hid (P5.out.lay fl0 B)
      clear hb P5 K4 g5 hB
      go_wp2_with (first
        | (with_reducible refine park_at 51 rfl (fun Pk hX => ?_))
        | (with_reducible refine wpList_store_row rfl 27 (.tmp 13) (.tmp 48) rfl _ (flr B) rfl rfl 27 _ q5.out (row27 _) (flr_same _ _) (flr_one _) ?_))
      refine hX.out ?_
      clear hX q5
      generalize (v5.alloc (.cells (flr fl0) 27)).setRow v5.heap.size (flr B) = W5 at *
      generalize v5.heap.size = b5 at *
      have g6 : Hid (_ = some (Obj.cells (flr f) 27)) := Lib.hid (K5.out.at 2 rfl)
      go_wp2_with (with_reducible refine wpList_load_row rfl 27 (.tmp 4) rfl _ rfl 27 _ _ g6.out Try.underlying27 rfl (row27 _) ?_)
      refine (cH.out _ K5.out.bel).mono ?_
      rintro e v6 ⟨C, xC, rfl, hC, hb⟩
      have hC' := Lib.hid hC
      have P6 := Lib.hid (K5.out.past hb)
      have q6 : Hid ((v6.alloc (.cells (flr fl0) 27)).heap[v6.heap.size]? = some (.cells (flr fl0) 27)) := Lib.hid (by rw [heap_alloc_if, if_pos rfl])
      have K6 := Lib.hid (P6.out.lay fl0 C)
      clear hb P6 K5 g6 hC
      go_wp2_with (first
        | (with_reducible refine park_at 57 rfl (fun Pk hX => ?_))
        | (with_reducible refine wpList_store_row rfl 27 (.tmp 15) (.tmp 54) rfl _ (flr C) rfl rfl 27 _ q6.out (row27 _) (flr_same _ _) (flr_one _) ?_))
      refine hX.out ?_
      clear hX q6
      generalize (v6.alloc (.cells (flr fl0) 27)).setRow v6.heap.size (flr C) = W6 at *
      generalize v6.heap.size = b6 at *
      have g7 : Hid (_ = some (Obj.cells (flr f) 27)) := Lib.hid (K6.out.at 3 rfl)
      go_wp2_with (with_reducible refine wpList_load_row rfl 27 (.tmp 4) rfl _ rfl 27 _ _ g7.out Try.underlying27 rfl (row27 _) ?_)
      refine (cR.out _ K6.out.bel).mono ?_
      rintro e v7 ⟨D, xD, rfl, hD, hb⟩
      have hD' := Lib.hid hD
      have P7 := Lib.hid (K6.out.past hb)
      have q7 : Hid ((v7.alloc (.cells (flr fl0) 27)).heap[v7.heap.size]? = some (.cells (flr fl0) 27)) := Lib.hid (by rw [heap_alloc_if, if_pos rfl])
      have K7 := Lib.hid (P7.out.lay fl0 D)
      clear hb P7 K6 g7 hD
      have g8 : Hid (_ = some (Obj.cells (flr A) 27)) := Lib.hid (K7.out.at 3 rfl)
      have kA : Hid (∀ v, Calls Try.prog 13 #[.agg (flr A), .int .i64 fl] v fun e v' => e = .returned (.bool true) ∧ Below v.heap.size v v') := Lib.hid (fun v => by have := kept_any A fl v; rw [hA'.out.2] at this; exact this)
      have kB : Hid (∀ v, Calls Try.prog 13 #[.agg (flr B), .int .i64 fl] v fun e v' => e = .returned (.bool true) ∧ Below v.heap.size v v') := Lib.hid (fun v => by have := kept_any B fl v; rw [hB'.out.2.1] at this; exact this)
      have kC : Hid (∀ v, Calls Try.prog 13 #[.agg (flr C), .int .i64 fl] v fun e v' => e = .returned (.bool true) ∧ Below v.heap.size v v') := Lib.hid (fun v => by have := kept_any C fl v; rw [hC'.out.2.1] at this; exact this)
      have kD := Lib.hid (fun v => kept_any D fl v)
      go_wp2_with (first
        | (with_reducible refine wpList_store_row rfl 27 (.tmp 17) (.tmp 60) rfl _ (flr D) rfl rfl 27 _ q7.out (row27 _) (flr_same _ _) (flr_one _) ?_)
        | (with_reducible refine wpList_load_row_g (by with_unfolding_all rfl) 27 (.tmp 11) rfl _ rfl 27 _ _ g8.out Try.underlying27 rfl (row27 _) ?_))
      clear q7
      generalize v7.heap.size = b7 at *
      refine (kA.out _).mono ?_
      rintro e v8 ⟨rfl, hb⟩
      have K8 := Lib.hid (K7.out.past hb)
      clear hb K7 g8
      have g9 : Hid (_ = some (Obj.cells (flr B) 27)) := Lib.hid (K8.out.at 2 rfl)
      go_wp2_with (with_reducible refine wpList_load_row_g (by with_unfolding_all rfl) 27 (.tmp 13) rfl _ rfl 27 _ _ g9.out Try.underlying27 rfl (row27 _) ?_)
      refine (kB.out _).mono ?_
      rintro e v9 ⟨rfl, hb⟩
      have K9 := Lib.hid (K8.out.past hb)
      clear hb K8 g9
      have g10 : Hid (_ = some (Obj.cells (flr C) 27)) := Lib.hid (K9.out.at 1 rfl)
      go_wp2_with (with_reducible refine wpList_load_row_g (by with_unfolding_all rfl) 27 (.tmp 15) rfl _ rfl 27 _ _ g10.out Try.underlying27 rfl (row27 _) ?_)
      refine (kC.out _).mono ?_
      rintro e v10 ⟨rfl, hb⟩
      have K10 := Lib.hid (K9.out.past hb)
      clear hb K9 g10
      have g11 : Hid (_ = some (Obj.cells (flr D) 27)) := Lib.hid (K10.out.at 0 rfl)
      go_wp2_with (with_reducible refine wpList_load_row rfl 27 (.tmp 17) rfl _ rfl 27 _ _ g11.out Try.underlying27 rfl (row27 _) ?_)
      obtain ⟨r, hr⟩ : ∃ r, kptB D fl = r := ⟨_, rfl⟩
      rw [hr] at kD
      refine (kD.out _).mono ?_
      rintro e v11 ⟨rfl, hb⟩
      have K11 := Lib.hid (K10.out.past hb)
      have hd : Hid (r = false → ¬ fl < f.un ∧ ¬ 0 < D.hn) := Lib.hid (fun h => by
        have q := (not_congr (kept_iff D fl)).1 (by rw [hr, h]; decide)
        have q2 : ¬ (fl < D.un ∨ 0 < D.hn) := fun z => q ⟨hD'.out.1, z⟩
        rw [hD'.out.2.1] at q2
        exact ⟨fun z => q2 (.inl z), fun z => q2 (.inr z)⟩)
      clear hb K10 g11 hr kA kB kC kD
      have cf2 := K11.out.cell 4 rfl 2 (y := .string f.da) rfl
      have cf4 := K11.out.cell 4 rfl 4 (y := .int .i64 f.un) rfl
      have cA3 : v11.cell? ⟨b4, 3, none⟩ = some (.bool true) := by have := K11.out.cell 3 rfl 3 (y := .bool A.se) rfl; rw [hA'.out.1] at this; exact this
      have cB3 : v11.cell? ⟨b5, 3, none⟩ = some (.bool true) := by have := K11.out.cell 2 rfl 3 (y := .bool B.se) rfl; rw [hB'.out.1] at this; exact this
      have cB4 := K11.out.cell 2 rfl 4 (y := .int .i64 B.un) rfl
      have cB2 : v11.cell? ⟨b5, 2, none⟩ = some (.string f.da) := by have := K11.out.cell 2 rfl 2 (y := .string B.da) rfl; rw [hB'.out.2.2.2] at this; exact this
      have cC3 : v11.cell? ⟨b6, 3, none⟩ = some (.bool true) := by have := K11.out.cell 1 rfl 3 (y := .bool C.se) rfl; rw [hC'.out.1] at this; exact this
      have cC2 : v11.cell? ⟨b6, 2, none⟩ = some (.string f.da) := by have := K11.out.cell 1 rfl 2 (y := .string C.da) rfl; rw [hC'.out.2.2] at this; exact this
      have cD3 : v11.cell? ⟨b7, 3, none⟩ = some (.bool true) := by have := K11.out.cell 0 rfl 3 (y := .bool D.se) rfl; rw [hD'.out.1] at this; exact this
      have cD4 : v11.cell? ⟨b7, 4, none⟩ = some (.int .i64 f.un) := by have := K11.out.cell 0 rfl 4 (y := .int .i64 D.un) rfl; rw [hD'.out.2.1] at this; exact this
      have cD2 : v11.cell? ⟨b7, 2, none⟩ = some (.string f.da) := by have := K11.out.cell 0 rfl 2 (y := .string D.da) rfl; rw [hD'.out.2.2] at this; exact this
      have cD5 := K11.out.cell 0 rfl 5 (y := .slice D.ha D.hn D.hc) rfl
      have t2 : decide (f.un ≤ B.un) = true := by have := hB'.out.2.2.1; simpa using this
      cases r with
      | true =>
        clear hd
        go_wp2_with fail
        go_ret
        exact ⟨by simp, K11.out.bel⟩
      | false =>
        have t3 : decide (fl < f.un) = false := by have := (hd.out rfl).1; simpa using this
        have t4 : decide (0 < D.hn) = false := by have := (hd.out rfl).2; simpa using this
        clear hd
        go_wp2_with fail
        go_ret
        exact ⟨by simp, K11.out.bel⟩

set_option maxRecDepth 100000 in
theorem lifted (os : Os) (started : os.Started) (H : Type) (enc : TypeId × Value → H) :
    ReturnsInHanded {} Try.checked os 5 .any (Rows.ruleKeepsSpec.pre6 enc Try.prog Try.f5 Rows.ruleKeepsRow.domain false) (Rows.ruleKeepsSpec.post enc Try.prog Try.f5 false true false false) := by
  refine returnsInHanded_of_change (C := Try.checked) own started (by kernel_rfl) Try.func5
    (ChangeSpec.witness6 (enc := enc) (C := Try.checked) false ⟨#[], #[.agg #[.int .i64 0, .string ByteArray.empty, .string ByteArray.empty, .bool false, .int .i64 0, .slice none 0 0], .int .i64 0, .int .i64 0, .string ByteArray.empty], []⟩ 8 (by kernel_rfl) (by kernel_rfl) (by kernel_rfl) (by kernel_rfl)) ?_
  intro W base args ds gs before hval0 hW hcnd _
  have hval : ∀ (j : Nat) t v, Try.f5.params[j]? = some t → args[j]? = some v → Value.okWide Try.prog W .any base t v := hval0
  have hW' := hW
  obtain ⟨p, q, hA0, hV, rfl, hfz, hnd⟩ := hW
  have hA : DataW.TrodAll enc Try.prog W 0 (fun _ => true) true Try.f5.params.toList args.toList ds p := hA0
  rw [Try.params5] at hA hval
  obtain ⟨v0, vs0, d0, ds0, p0, q0, hargs, rfl, rfl, h0, r0⟩ := trodAll_cons hA
  obtain ⟨v1, vs1, d1, ds1, p1, q1, rfl, rfl, rfl, h1, r1⟩ := trodAll_cons r0
  obtain ⟨v2, vs2, d2, ds2, p2, q2, rfl, rfl, rfl, h2, r2⟩ := trodAll_cons r1
  obtain ⟨v3, vs3, d3, ds3, p3, q3, rfl, rfl, rfl, h3, r3⟩ := trodAll_cons r2
  obtain ⟨rfl, rfl, rfl⟩ := trodAll_nil r3
  obtain rfl : args = #[v0, v1, v2, v3] := by cases args; simp_all
  obtain ⟨rfl, rfl⟩ := trodVars_none hV
  have k0 := h0
  have lt0 : ∀ x ∈ p0, x.block < W.heap.size := by obtain ⟨m, hm⟩ := k0; exact DataW.trod_lt m _ _ _ hm
  obtain ⟨f0, L0, rfl, wf0⟩ := open_file (hval 0 27 v0 rfl rfl) h0
  obtain ⟨a1, rfl, rfl, rfl, w1⟩ := open_int Try.underlying3 (hval 1 3 v1 rfl rfl) h1
  obtain ⟨a2, rfl, rfl, rfl, w2⟩ := open_int Try.underlying3 (hval 2 3 v2 rfl rfl) h2
  obtain ⟨a3, rfl, rfl, rfl, w3⟩ := open_string Try.underlying9 (hval 3 9 v3 rfl rfl) h3
  clear hA0 hval0
  refine (walk f0 L0 a1 a2 a3 W wf0 w1 w2 w3).mono fun e W' ⟨he, bel⟩ => ?_
  subst he
  exact ⟨_, rfl, _, _, _, [], _, [], hW', trodAll_mk1 (shut_bool Try.underlying4 _), (trodAll_cons_mk (Below.trod laidOut (by kernel_rfl) (of_decide_eq_true (by kernel_rfl)) k0 bel lt0) (trodAll_cons_mk (shut_int Try.underlying3 w1) (trodAll_cons_mk (shut_int Try.underlying3 w2) (trodAll_cons_mk (shut_string Try.underlying9 w3) trodAll_mk0)))), rfl, bel.frame _, fun h => by cases h⟩

theorem over : Rows.ruleKeepsRow.holds Try.pinned (OpenSpec.ofChange Rows.ruleKeepsSpec) :=
  OpenClaim.holds_of_wide 5 Try.f5 rfl rfl rfl rfl rfl rfl rfl ⟨rfl, rfl, rfl, rfl, rfl⟩ rfl rfl rfl rfl rfl (by kernel_rfl) Try.func5 (by kernel_rfl)
    (of_decide_eq_true (by kernel_rfl)) (by unfold Func.isWrapper; first | (rw [if_pos (by decide +kernel)]; kernel_rfl) | (rw [if_neg (by decide +kernel)]; exact ⟨rfl, rfl⟩))
    (fun os started H enc _ => lifted os started H enc)

/-- The given statement. -/
theorem ruleKeeps_proved : Rows.RuleKeepsSaid :=
  over
#print axioms ruleKeeps_proved
end Go.Proofs.Ytjfgmkgcdkocgaa.ruleKeeps
