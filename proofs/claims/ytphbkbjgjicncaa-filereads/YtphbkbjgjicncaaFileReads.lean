/-
  For every file, and any three places, FileReads returns true: what is read in two parts is what is read as a whole; as a whole it is all.
  Conditions: none beyond the given statement's own.
-/
import Derived.Test.YtphbkbjgjicncaaRows
import Derived.Test.YtphbkbjgjicncaaWorks
import Derived.Test.YtphbkbjgjicncaaOpens
import Derived.WalkKit
import Derived.ProofKit
import Derived.OpenShut
import Derived.ShutString
import Derived.ChangeOld
import Derived.Below
namespace Go.Proofs.Ytphbkbjgjicncaa.fileReads
open Go.ChangeShapes Go.WideShapes Go.ChangeAt Go.RowKit
open Go.ChangeMaps (open_string shut_string)
set_option linter.unusedVariables false

theorem own : ownKnob Try.prog.godebug = none := by kernel_rfl
theorem laidOut : laidOutB Try.prog = true := by kernel_rfl

theorem ext_app (d : ByteArray) (a b c : Nat) (h1 : a ≤ b) (h2 : b ≤ c) : d.extract a b ++ d.extract b c = d.extract a c := by
  rw [ByteArray.extract_append_extract]
  rw [Nat.min_eq_left (by omega), Nat.max_eq_right (by omega)]
theorem rd_ok (d : ByteArray) (a b : Int) (h : 0 ≤ a ∧ a ≤ b ∧ b ≤ (d.size : Int)) : rdR d a b = (d.extract a.toNat b.toNat, 0) := by unfold rdR; rw [if_pos h]
theorem rd_no (d : ByteArray) (a b : Int) (h : ¬ (0 ≤ a ∧ a ≤ b ∧ b ≤ (d.size : Int))) : rdR d a b = (em, 1) := by unfold rdR; rw [if_neg h]

set_option maxHeartbeats 4000000 in
set_option maxRecDepth 100000 in
theorem walk (f : Fl) (L : List ByteArray) (a b c : Int) (w : World) (wf : f.wf w L) (wa : (Lit.int .i64 a).wf = true) (wb : (Lit.int .i64 b).wf = true) (wc : (Lit.int .i64 c).wf = true) :
    Calls Try.prog 7 #[.agg (flr f), .int .i64 a, .int .i64 b, .int .i64 c] w fun e w' => e = .returned (.bool true) ∧ Below w.heap.size w w' := by
  have cf := Lib.hid (fun v (hb : Below w.heap.size w v) => few_any f L v (wf.at_.on hb) wf.n wf.m)
  have hd := Lib.hid wf.da
  have cr := Lib.hid (fun a b v => read_any f a b v hd.out)
  have ba := bounds_i64 wa
  have bb := bounds_i64 wb
  have bc := bounds_i64 wc
  have K0 := Lib.hid ((KW.start w).new (.cells (flr f) 24))
  clear wf wa wb wc
  go_enter Try.func7, Try.ntmps7
  go_wp2_with fail
  refine (works_any _).mono ?_
  rintro e v1 ⟨rfl, hb⟩
  have K1 := Lib.hid (K0.out.past hb)
  clear hb K0
  go_wp2_with (refine wpList_load_row (by rfl) 24 (.tmp 4) rfl _ rfl 24 _ _ (K1.out.at 0 rfl) Try.underlying24 rfl (row27 _) ?_)
  refine (cf.out _ K1.out.bel).mono ?_
  rintro e v2 ⟨rfl, hb⟩
  have K2 := Lib.hid (K1.out.past hb)
  clear hb K1
  cases hfe : fewB f L with
  | false =>
    go_wp2_with fail
    go_ret
    exact ⟨rfl, K2.out.bel⟩
  | true =>
    have hs : f.da.size ≤ 2000 := (fewB_true hfe).2.2.1
    have c2 := K2.out.cell 0 rfl 2 (y := .string f.da) rfl
    have c0 := cr.out 0 (f.da.size : Int)
    rw [rd_ok f.da 0 _ ⟨by omega, by omega, by omega⟩, show (f.da.extract (0 : Int).toNat ((f.da.size : Int)).toNat) = f.da by simp] at c0
    have c0' := Lib.hid c0
    clear hfe c0
    go_wp2_with (refine wpList_load_row (by rfl) 24 (.tmp 4) rfl _ rfl 24 _ _ (K2.out.at 0 rfl) Try.underlying24 rfl (row27 _) ?_)
    refine (c0'.out _).mono ?_
    rintro e v3 ⟨rfl, hb⟩
    have K3 := Lib.hid (K2.out.past hb)
    have c3 := K3.out.cell 0 rfl 2 (y := .string f.da) rfl
    clear hb K2 c2 c0'
    have crab := Lib.hid (cr.out a b)
    have crbc := Lib.hid (cr.out b c)
    have crac := Lib.hid (cr.out a c)
    go_wp2_with (refine wpList_load_row (by rfl) 24 (.tmp 4) rfl _ rfl 24 _ _ (K3.out.at 0 rfl) Try.underlying24 rfl (row27 _) ?_)
    refine (crab.out _).mono ?_
    rintro e v4 ⟨rfl, hb⟩
    have K4 := Lib.hid (K3.out.past hb)
    clear hb K3 c3
    go_wp2_with (refine wpList_load_row (by rfl) 24 (.tmp 4) rfl _ rfl 24 _ _ (K4.out.at 0 rfl) Try.underlying24 rfl (row27 _) ?_)
    refine (crbc.out _).mono ?_
    rintro e v5 ⟨rfl, hb⟩
    have K5 := Lib.hid (K4.out.past hb)
    clear hb K4
    go_wp2_with (refine wpList_load_row (by rfl) 24 (.tmp 4) rfl _ rfl 24 _ _ (K5.out.at 0 rfl) Try.underlying24 rfl (row27 _) ?_)
    refine (crac.out _).mono ?_
    rintro e v6 ⟨rfl, hb⟩
    have K6 := Lib.hid (K5.out.past hb)
    clear hb K5 crab crbc crac cr
    by_cases h1 : 0 ≤ a ∧ a ≤ b ∧ b ≤ (f.da.size : Int)
    · by_cases h2 : 0 ≤ b ∧ b ≤ c ∧ c ≤ (f.da.size : Int)
      · rw [rd_ok _ _ _ h1, rd_ok _ _ _ h2, rd_ok f.da a c ⟨h1.1, by omega, h2.2.2⟩]
        obtain ⟨x, rfl⟩ : ∃ x : Nat, a = (x : Int) := ⟨a.toNat, by omega⟩
        obtain ⟨y, rfl⟩ : ∃ y : Nat, b = (y : Int) := ⟨b.toNat, by omega⟩
        obtain ⟨z, rfl⟩ : ∃ z : Nat, c = (z : Int) := ⟨c.toNat, by omega⟩
        simp only [Int.toNat_natCast]
        have hE := ext_app f.da x y z (by omega) (by omega)
        have hz : Hid ((f.da.extract x z).size = z - x) := Lib.hid (by rw [ByteArray.size_extract]; omega)
        rw [← hE] at hz ⊢
        have hw : IntKind.i64.wrap ((z : Int) - (x : Int)) = ((f.da.extract x y ++ f.da.extract y z).size : Int) := by
          rw [hz.out, IntWalk.i64_in _ (by omega)]; omega
        have hq : (f.da.extract x y).size + (f.da.extract y z).size ≤ 2000 := by have := hz.out; rw [ByteArray.size_append] at this; omega
        generalize f.da.extract x y = X1 at *
        generalize f.da.extract y z = X2 at *
        clear hE hz h1 h2
        go_wp2_with fail
        go_ret
        exact ⟨by simp, K6.out.bel⟩
      · rw [rd_ok _ _ _ h1, rd_no _ _ _ h2]
        generalize rdR f.da a c = R
        clear h1 h2
        go_wp2_with fail
        go_ret
        exact ⟨rfl, K6.out.bel⟩
    · rw [rd_no _ _ _ h1]
      generalize rdR f.da b c = R1
      generalize rdR f.da a c = R2
      clear h1
      go_wp2_with fail
      go_ret
      exact ⟨rfl, K6.out.bel⟩


set_option maxRecDepth 100000 in
theorem lifted (os : Os) (started : os.Started) (H : Type) (enc : TypeId × Value → H) :
    ReturnsInHanded {} Try.checked os 7 .any (Rows.fileReadsSpec.pre6 enc Try.prog Try.f7 Rows.fileReadsRow.domain false) (Rows.fileReadsSpec.post enc Try.prog Try.f7 false true false false) := by
  refine returnsInHanded_of_change (C := Try.checked) own started (by kernel_rfl) Try.func7
    (ChangeSpec.witness6 (enc := enc) (C := Try.checked) false ⟨#[], #[.agg #[.int .i64 0, .string ByteArray.empty, .string ByteArray.empty, .bool false, .int .i64 0, .slice none 0 0], .int .i64 0, .int .i64 0, .int .i64 0], []⟩ 8 (by kernel_rfl) (by kernel_rfl) (by kernel_rfl) (by kernel_rfl)) ?_
  intro W base args ds gs before hval0 hW hcnd _
  have hval : ∀ (j : Nat) t v, Try.f7.params[j]? = some t → args[j]? = some v → Value.okWide Try.prog W .any base t v := hval0
  have hW' := hW
  obtain ⟨p, q, hA0, hV, rfl, hfz, hnd⟩ := hW
  have hA : DataW.TrodAll enc Try.prog W 0 (fun _ => true) true Try.f7.params.toList args.toList ds p := hA0
  rw [Try.params7] at hA hval
  obtain ⟨v0, vs0, d0, ds0, p0, q0, hargs, rfl, rfl, h0, r0⟩ := trodAll_cons hA
  obtain ⟨v1, vs1, d1, ds1, p1, q1, rfl, rfl, rfl, h1, r1⟩ := trodAll_cons r0
  obtain ⟨v2, vs2, d2, ds2, p2, q2, rfl, rfl, rfl, h2, r2⟩ := trodAll_cons r1
  obtain ⟨v3, vs3, d3, ds3, p3, q3, rfl, rfl, rfl, h3, r3⟩ := trodAll_cons r2
  obtain ⟨rfl, rfl, rfl⟩ := trodAll_nil r3
  obtain rfl : args = #[v0, v1, v2, v3] := by cases args; simp_all
  obtain ⟨rfl, rfl⟩ := trodVars_none hV
  have k0 := h0
  have lt0 : ∀ x ∈ p0, x.block < W.heap.size := by obtain ⟨m, hm⟩ := k0; exact DataW.trod_lt m _ _ _ hm
  obtain ⟨f0, L0, rfl, wf0⟩ := open_file (hval 0 24 v0 rfl rfl) h0
  obtain ⟨a1, rfl, rfl, rfl, w1⟩ := open_int Try.underlying3 (hval 1 3 v1 rfl rfl) h1
  obtain ⟨a2, rfl, rfl, rfl, w2⟩ := open_int Try.underlying3 (hval 2 3 v2 rfl rfl) h2
  obtain ⟨a3, rfl, rfl, rfl, w3⟩ := open_int Try.underlying3 (hval 3 3 v3 rfl rfl) h3
  clear hA0 hval0
  refine (walk f0 L0 a1 a2 a3 W wf0 w1 w2 w3).mono fun e W' ⟨he, bel⟩ => ?_
  subst he
  exact ⟨_, rfl, _, _, _, [], _, [], hW', trodAll_mk1 (shut_bool Try.underlying4 _), (trodAll_cons_mk (Below.trod laidOut (by kernel_rfl) (of_decide_eq_true (by kernel_rfl)) k0 bel lt0) (trodAll_cons_mk (shut_int Try.underlying3 w1) (trodAll_cons_mk (shut_int Try.underlying3 w2) (trodAll_cons_mk (shut_int Try.underlying3 w3) trodAll_mk0)))), rfl, bel.frame _, fun h => by cases h⟩

theorem over : Rows.fileReadsRow.holds Try.pinned (OpenSpec.ofChange Rows.fileReadsSpec) :=
  OpenClaim.holds_of_wide 7 Try.f7 rfl rfl rfl rfl rfl rfl rfl ⟨rfl, rfl, rfl, rfl, rfl⟩ rfl rfl rfl rfl rfl (by kernel_rfl) Try.func7 (by kernel_rfl)
    (of_decide_eq_true (by kernel_rfl)) (by unfold Func.isWrapper; first | (rw [if_pos (by decide +kernel)]; kernel_rfl) | (rw [if_neg (by decide +kernel)]; exact ⟨rfl, rfl⟩))
    (fun os started H enc _ => lifted os started H enc)

/-- The given statement. -/
theorem fileReads_proved : Rows.FileReadsSaid :=
  over
#print axioms fileReads_proved
end Go.Proofs.Ytphbkbjgjicncaa.fileReads
