/-
  For every floor, and every row of times, RuleFloor returns true: the floor never falls; behind any times, in any order, it is the greatest; it is never above 2^40, if it was not.
  Conditions: none beyond the given statement's own.
-/
import Derived.Test.YtjfgmkgcdkocgaaRows
import Derived.Test.YtjfgmkgcdkocgaaWorks
import Derived.Test.YtjfgmkgcdkocgaaOpens
import Derived.WalkKit
import Derived.ProofKit
import Derived.OpenShut
import Derived.ShutString
import Derived.ChangeOld
import Derived.Below
namespace Go.Proofs.Ytjfgmkgcdkocgaa.ruleFloor
open Go.ChangeShapes Go.WideShapes Go.ChangeAt Go.RowKit
open Go.ChangeMaps (open_string shut_string)
set_option linter.unusedVariables false

theorem own : ownKnob Try.prog.godebug = none := by kernel_rfl
theorem laidOut : laidOutB Try.prog = true := by kernel_rfl

theorem fl_ge (a t : Int) : a ≤ flC a t := by unfold flC; omega
theorem fl_le (a t : Int) (h : t ≤ 1099511627776) : t ≤ flC a t := by unfold flC; omega
theorem fl_top (a t : Int) (h : a ≤ 1099511627776) : flC a t ≤ 1099511627776 := by unfold flC; omega
theorem fl_comm (a s t : Int) : flC (flC a s) t = flC (flC a t) s := by unfold flC; omega
/-- The floor behind times, the last one first. -/
def bk (fl : Int) : List Int → Int
  | [] => fl
  | t :: l => flC (bk fl l) t
theorem bk_in (fl t : Int) (l : List Int) : bk (flC fl t) l = flC (bk fl l) t := by
  induction l with
  | nil => rfl
  | cons s l ih => unfold bk; rw [ih, fl_comm]
theorem fold_bk (fl : Int) (l : List Int) : l.foldl flC fl = bk fl l := by
  induction l generalizing fl with
  | nil => rfl
  | cons t l ih => rw [List.foldl_cons, ih, bk_in]; rfl
theorem take_fold (fl : Int) (l : List Int) (k : Nat) (h : k < l.length) : (l.take (k + 1)).foldl flC fl = flC ((l.take k).foldl flC fl) l[k] := by
  rw [List.take_succ_eq_append_getElem h, List.foldl_append]; rfl
theorem drop_bk (fl : Int) (l : List Int) (j : Nat) (h : j < l.length) : bk fl (l.drop j) = flC (bk fl (l.drop (j + 1))) l[j] := by
  rw [List.drop_eq_getElem_cons h]; rfl

set_option maxHeartbeats 1000000 in
theorem walk (fl : Int) (L : List Int) (p : Option Addr) (c : Nat) (w : World) (w0 : (Lit.int .i64 fl).wf = true) (hE : IntAt w.heap.size w p L) (hI : ∀ s ∈ L, i64 s) (hm : L.length ≤ maxLen) :
    Calls Try.prog 4 #[.int .i64 fl, .slice p L.length c] w fun e w' => e = .returned (.bool true) ∧ Below w.heap.size w w' := by
  have hf := bounds_i64 w0
  unfold maxLen at hm
  by_cases h200 : 200 < L.length
  · have t1 : decide ((200 : Int) < (L.length : Int)) = true := by simp; omega
    clear hE hI h200
    go_enter Try.func4, Try.ntmps4
    go_wp2_with fail
    refine (works_any _).mono ?_
    rintro e v1 ⟨rfl, b1⟩
    go_wp2_with fail
    go_ret
    exact ⟨rfl, b1⟩
  have t1 : decide ((200 : Int) < (L.length : Int)) = false := by simp; omega
  have hE' := Lib.hid hE
  have hI' := Lib.hid hI
  have hl : L.length ≤ 200 := by omega
  clear hE hI h200 w0
  go_enter Try.func4, Try.ntmps4
  go_wp2_with fail
  refine (works_any _).mono ?_
  rintro e v ⟨rfl, b1⟩
  have B1 := Lib.hid b1
  have hV := Lib.hid (hE'.out.past b1)
  clear b1 hE'
  go_wp2_with fail
  go_loop [6, 7] (fun n i => ∃ (k : Nat) (now : Int), k ≤ L.length ∧ i = .int .i64 (k : Int) ∧ n = .int .i64 now ∧ Hid (now = (L.take k).foldl flC fl) ∧ Hid (fl ≤ 1099511627776 → now ≤ 1099511627776)) (fun _ i => L.length - (intOf i).toNat)
  case atStart => exact ⟨0, fl, Nat.zero_le _, rfl, rfl, Lib.hid rfl, Lib.hid id⟩
  case round =>
    obtain ⟨k, now, hk, rfl, rfl, hn, ht⟩ := hrel
    by_cases hlt : k < L.length
    · have hlt' : (k : Int) < (L.length : Int) := by omega
      have hlt2 : decide (k < L.length) = true := by simpa using hlt
      rcases hV.out with h0 | ⟨b, o, rfl, _, hc⟩
      · rw [h0] at hlt; simp at hlt
      have hck := hc k hlt
      have hnx : Hid (flC now L[k] = (L.take (k + 1)).foldl flC fl) := Lib.hid (by rw [take_fold _ _ _ hlt, ← hn.out])
      clear hc
      generalize L[k] = t at *
      have q1 := fl_ge now t
      have q2 := fl_le now t
      have q3 : Hid (fl ≤ 1099511627776 → flC now t ≤ 1099511627776) := Lib.hid (fun h => fl_top _ _ (ht.out h))
      have cf := Lib.hid (fun v => floor_any now t v)
      generalize flC now t = nx at *
      have s1 : decide (nx < now) = false := by simp; omega
      have s1' : ¬ nx < now := by omega
      have q3' := q3.out
      by_cases h2 : nx < t
      · have s2 : decide (nx < t) = true := by simp; omega
        have s3 : decide (t ≤ 1099511627776) = false := by simp; omega
        by_cases h4 : 1099511627776 < nx
        · have s4 : decide ((1099511627776 : Int) < nx) = true := by simp; omega
          have s5 : decide (fl ≤ 1099511627776) = false := by simp; omega
          clear q1 q2 q3' h2 h4 s1'
          go_wp2_with (go_at_call 17; refine (cf.out _).mono ?_; rintro e w' ⟨rfl, rfl⟩)
          go_round
          case rel => exact ⟨k + 1, nx, by omega, by go_num, rfl, hnx, q3⟩
          case measure => simp [intOf]; omega
        · have s4 : decide ((1099511627776 : Int) < nx) = false := by simp; omega
          clear q1 q2 q3' h2 h4 s1'
          go_wp2_with (go_at_call 17; refine (cf.out _).mono ?_; rintro e w' ⟨rfl, rfl⟩)
          go_round
          case rel => exact ⟨k + 1, nx, by omega, by go_num, rfl, hnx, q3⟩
          case measure => simp [intOf]; omega
      · have s2 : decide (nx < t) = false := by simp; omega
        by_cases h4 : 1099511627776 < nx
        · have s4 : decide ((1099511627776 : Int) < nx) = true := by simp; omega
          have s5 : decide (fl ≤ 1099511627776) = false := by simp; omega
          clear q1 q2 q3' h2 h4 s1'
          go_wp2_with (go_at_call 17; refine (cf.out _).mono ?_; rintro e w' ⟨rfl, rfl⟩)
          go_round
          case rel => exact ⟨k + 1, nx, by omega, by go_num, rfl, hnx, q3⟩
          case measure => simp [intOf]; omega
        · have s4 : decide ((1099511627776 : Int) < nx) = false := by simp; omega
          clear q1 q2 q3' h2 h4 s1'
          go_wp2_with (go_at_call 17; refine (cf.out _).mono ?_; rintro e w' ⟨rfl, rfl⟩)
          go_round
          case rel => exact ⟨k + 1, nx, by omega, by go_num, rfl, hnx, q3⟩
          case measure => simp [intOf]; omega
    · obtain rfl : k = L.length := by omega
      have hlt2 : decide (L.length < L.length) = false := by simp
      have hlt' : ¬ (L.length : Int) < (L.length : Int) := by omega
      have hN : Hid (now = bk fl L) := Lib.hid (by rw [hn.out, List.take_length, fold_bk])
      clear hn ht hlt
      go_wp2_with fail
      go_loop [9, 10] (fun m i => ∃ (j : Nat) (bb : Int), j ≤ L.length ∧ i = .int .i64 ((j : Int) - 1) ∧ m = .int .i64 bb ∧ Hid (bb = bk fl (L.drop j))) (fun _ i => (intOf i + 1).toNat)
      case atStart => exact ⟨L.length, fl, Nat.le_refl _, rfl, rfl, Lib.hid (by rw [List.drop_length]; rfl)⟩
      case round =>
        obtain ⟨j, bb, hj, rfl, rfl, hb⟩ := hrel
        by_cases h0 : 1 ≤ j
        · obtain ⟨i, rfl⟩ : ∃ i, j = i + 1 := ⟨j - 1, by omega⟩
          have e1 : ((i + 1 : Nat) : Int) - 1 = (i : Int) := by omega
          rw [e1]
          have hi : i < L.length := by omega
          have hi' : (i : Int) < (L.length : Int) := by omega
          have hi2 : decide (i < L.length) = true := by simpa using hi
          rcases hV.out with h0 | ⟨b, o, rfl, _, hc⟩
          · rw [h0] at hi; simp at hi
          have hck := hc i hi
          have hnx : Hid (flC bb L[i] = bk fl (L.drop i)) := Lib.hid (by rw [drop_bk _ _ _ hi, ← hb.out])
          clear hc
          generalize L[i] = t at *
          have cf := Lib.hid (fun v => floor_any bb t v)
          generalize flC bb t = nx at *
          have s0 : (0 : Int) ≤ (i : Int) := by omega
          go_wp2_with (go_at_call 17; refine (cf.out _).mono ?_; rintro e w' ⟨rfl, rfl⟩)
          go_round
          case rel => exact ⟨i, nx, by omega, rfl, rfl, hnx⟩
          case measure => simp [intOf]
        · obtain rfl : j = 0 := by omega
          have hB : Hid (now = bb) := Lib.hid (by rw [hN.out, hb.out, List.drop_zero])
          have e0 : ((0 : Nat) : Int) - 1 = -1 := rfl
          rw [e0]
          obtain rfl := hB.out
          clear hB hN hb h0
          go_wp2_with fail
          go_ret
          exact ⟨by simp, B1.out⟩

set_option maxRecDepth 100000 in
theorem lifted (os : Os) (started : os.Started) (H : Type) (enc : TypeId × Value → H) :
    ReturnsInHanded {} Try.checked os 4 .any (Rows.ruleFloorSpec.pre6 enc Try.prog Try.f4 Rows.ruleFloorRow.domain false) (Rows.ruleFloorSpec.post enc Try.prog Try.f4 false true false false) := by
  refine returnsInHanded_of_change (C := Try.checked) own started (by kernel_rfl) Try.func4
    (ChangeSpec.witness6 (enc := enc) (C := Try.checked) false ⟨#[], #[.int .i64 0, .slice none 0 0], []⟩ 8 (by kernel_rfl) (by kernel_rfl) (by kernel_rfl) (by kernel_rfl)) ?_
  intro W base args ds gs before hval0 hW hcnd _
  have hval : ∀ (j : Nat) t v, Try.f4.params[j]? = some t → args[j]? = some v → Value.okWide Try.prog W .any base t v := hval0
  have hW' := hW
  obtain ⟨p, q, hA0, hV, rfl, hfz, hnd⟩ := hW
  have hA : DataW.TrodAll enc Try.prog W 0 (fun _ => true) true Try.f4.params.toList args.toList ds p := hA0
  rw [Try.params4] at hA hval
  obtain ⟨v0, vs0, d0, ds0, p0, q0, hargs, rfl, rfl, h0, r0⟩ := trodAll_cons hA
  obtain ⟨v1, vs1, d1, ds1, p1, q1, rfl, rfl, rfl, h1, r1⟩ := trodAll_cons r0
  obtain ⟨rfl, rfl, rfl⟩ := trodAll_nil r1
  obtain rfl : args = #[v0, v1] := by cases args; simp_all
  obtain ⟨rfl, rfl⟩ := trodVars_none hV
  obtain ⟨a0, rfl, rfl, rfl, w0⟩ := open_int Try.underlying3 (hval 0 3 v0 rfl rfl) h0
  have k1 := h1
  have lt1 : ∀ x ∈ p1, x.block < W.heap.size := by obtain ⟨m, hm⟩ := k1; exact DataW.trod_lt m _ _ _ hm
  obtain ⟨a1, len1, cap1, rfl⟩ := okWide_slice Try.underlying32 (hval 1 32 v1 rfl rfl)
  obtain ⟨fuel1, hf1⟩ := h1
  obtain ⟨a, c, L1, hcs1, E1, wf1, mx1⟩ := open_ints (cs := [Value.slice a1 len1 cap1]) hf1
  simp only [List.cons.injEq, Value.slice.injEq, and_true] at hcs1
  obtain ⟨rfl, rfl, rfl⟩ := hcs1
  clear hA0 hval0
  refine (walk a0 L1 a1 cap1 W w0 E1 wf1 mx1).mono fun e W' ⟨he, bel⟩ => ?_
  subst he
  exact ⟨_, rfl, _, _, _, [], _, [], hW', trodAll_mk1 (shut_bool Try.underlying4 _), (trodAll_cons_mk (shut_int Try.underlying3 w0) (trodAll_cons_mk (Below.trod laidOut (by kernel_rfl) (of_decide_eq_true (by kernel_rfl)) k1 bel lt1) trodAll_mk0)), rfl, bel.frame _, fun h => by cases h⟩

theorem over : Rows.ruleFloorRow.holds Try.pinned (OpenSpec.ofChange Rows.ruleFloorSpec) :=
  OpenClaim.holds_of_wide 4 Try.f4 rfl rfl rfl rfl rfl rfl rfl ⟨rfl, rfl, rfl, rfl, rfl⟩ rfl rfl rfl rfl rfl (by kernel_rfl) Try.func4 (by kernel_rfl)
    (of_decide_eq_true (by kernel_rfl)) (by unfold Func.isWrapper; first | (rw [if_pos (by decide +kernel)]; kernel_rfl) | (rw [if_neg (by decide +kernel)]; exact ⟨rfl, rfl⟩))
    (fun os started H enc _ => lifted os started H enc)

/-- The given statement. -/
theorem ruleFloor_proved : Rows.RuleFloorSaid :=
  over
#print axioms ruleFloor_proved
end Go.Proofs.Ytjfgmkgcdkocgaa.ruleFloor
