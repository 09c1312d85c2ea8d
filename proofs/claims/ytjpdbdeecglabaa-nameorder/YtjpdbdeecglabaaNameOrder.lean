/-
  For every three texts NameOrder returns true: names are in one order.
  Conditions: none beyond the given statement's own.
-/
import Derived.Test.YtjpdbdeecglabaaRows
import Derived.Test.YtjpdbdeecglabaaWorks
import Derived.WalkKit
import Derived.ProofKit
import Derived.OpenShut
import Derived.ShutString
import Derived.ChangeOld
import Derived.Below
namespace Go.Proofs.Ytjpdbdeecglabaa.nameOrder
open Go.ChangeShapes Go.WideShapes Go.ChangeAt Go.RowKit
open Go.ChangeMaps (open_string shut_string)
set_option linter.unusedVariables false

theorem own : ownKnob Try.prog.godebug = none := by kernel_rfl

/-- What is known of the answers. -/
structure Ord (X Y Z U V D E : Bool) : Prop where
  both : X = true → Y = false
  one : (X || Y) = D
  tri : X = true → Z = true → U = true
  none : E = false → V = true
theorem ord_of (a b c : ByteArray) : Ord (lxl (pl (li a)) (pl (li b))) (lxl (pl (li b)) (pl (li a))) (lxl (pl (li b)) (pl (li c))) (lxl (pl (li a)) (pl (li c))) (lxl (pl (li ⟨#[]⟩)) (pl (li a))) (!(a.toList == b.toList)) (a.toList == (⟨#[]⟩ : ByteArray).toList) := {
  both := fun h => by
    cases e : lxl (pl (li b)) (pl (li a))
    · rfl
    · exact absurd ⟨h, e⟩ (lxl_not _ _)
  one := by
    by_cases h : a.toList = b.toList
    · have h' : li a = li b := by rw [toList_data, toList_data] at h; exact h
      rw [h', lxl_irr, h]
      simp
    · have h' : pl (li a) ≠ pl (li b) := fun e => h (by rw [toList_data, toList_data]; exact pl_inj _ _ e)
      have hf : (a.toList == b.toList) = false := by rw [beq_eq_false_iff_ne]; exact h
      rw [hf]
      rcases lxl_or _ _ h' with k | k <;> simp [k]
  tri := fun h k => lxl_trans _ _ _ h k
  none := fun h => by
    have hn : li a ≠ [] := fun e => by
      rw [beq_eq_false_iff_ne, toList_data, toList_data] at h
      exact h e
    rw [pl_cons _ hn]
    rfl }

set_option maxHeartbeats 1000000 in
set_option maxRecDepth 100000 in
theorem walk (a0 a1 a2 : ByteArray) (w0 : a0.size ≤ maxLen) (w1 : a1.size ≤ maxLen) (w2 : a2.size ≤ maxLen) (w : World) :
    Calls Try.prog 5 #[.string a0, .string a1, .string a2] w fun e w' => e = .returned (.bool true) ∧ Below w.heap.size w w' := by
  by_cases k0 : 200 < a0.size
  · have t0 : decide ((200 : Int) < (a0.size : Int)) = true := by simp; omega
    clear w0 w1 w2 k0
    go_enter Try.func5, Try.ntmps5
    go_wp2_with fail
    refine (works_any _).mono ?_
    rintro e v1 ⟨rfl, h1⟩
    go_wp2_with fail
    go_ret
    exact ⟨rfl, h1⟩
  have t0 : decide ((200 : Int) < (a0.size : Int)) = false := by simp; omega
  by_cases k1 : 200 < a1.size
  · have t1 : decide ((200 : Int) < (a1.size : Int)) = true := by simp; omega
    clear w0 w1 w2 k0 k1
    go_enter Try.func5, Try.ntmps5
    go_wp2_with fail
    refine (works_any _).mono ?_
    rintro e v1 ⟨rfl, h1⟩
    go_wp2_with fail
    go_ret
    exact ⟨rfl, h1⟩
  have t1 : decide ((200 : Int) < (a1.size : Int)) = false := by simp; omega
  by_cases k2 : 200 < a2.size
  · have t2 : decide ((200 : Int) < (a2.size : Int)) = true := by simp; omega
    clear w0 w1 w2 k0 k1 k2
    go_enter Try.func5, Try.ntmps5
    go_wp2_with fail
    refine (works_any _).mono ?_
    rintro e v1 ⟨rfl, h1⟩
    go_wp2_with fail
    go_ret
    exact ⟨rfl, h1⟩
  have t2 : decide ((200 : Int) < (a2.size : Int)) = false := by simp; omega
  have c1 := Lib.hid (fun v => less_any a0 a1 (by omega) (by omega) v)
  have c2 := Lib.hid (fun v => less_any a1 a0 (by omega) (by omega) v)
  have c3 := Lib.hid (fun v => less_any a1 a2 (by omega) (by omega) v)
  have c4 := Lib.hid (fun v => less_any a0 a2 (by omega) (by omega) v)
  have c5 := Lib.hid (fun v => less_any ⟨#[]⟩ a0 (by decide) (by omega) v)
  have hO := Lib.hid (ord_of a0 a1 a2)
  revert c1 c2 c3 c4 c5 hO
  generalize lxl (pl (li a0)) (pl (li a1)) = X
  generalize lxl (pl (li a1)) (pl (li a0)) = Y
  generalize lxl (pl (li a1)) (pl (li a2)) = Z
  generalize lxl (pl (li a0)) (pl (li a2)) = U
  generalize lxl (pl (li ⟨#[]⟩)) (pl (li a0)) = V
  intro c1 c2 c3 c4 c5 hO
  obtain ⟨D, hD⟩ : ∃ D, (a0.toList == a1.toList) = D := ⟨_, rfl⟩
  obtain ⟨E, hE⟩ : ∃ E, (a0.toList == (⟨#[]⟩ : ByteArray).toList) = E := ⟨_, rfl⟩
  rw [hD, hE] at hO
  clear w0 w1 w2 k0 k1 k2
  go_enter Try.func5, Try.ntmps5
  go_wp2_with fail
  refine (works_any _).mono ?_
  rintro e v1 ⟨rfl, h1⟩
  have B1 := Lib.hid h1
  clear h1
  go_wp2_with fail
  refine (c1.out _).mono ?_
  rintro e v2 ⟨rfl, h2⟩
  have B2 := Lib.hid (B1.out.trans (h2.mono B1.out.size))
  clear h2 B1
  go_wp2_with fail
  refine (c2.out _).mono ?_
  rintro e v3 ⟨rfl, h3⟩
  have B3 := Lib.hid (B2.out.trans (h3.mono B2.out.size))
  clear h3 B2
  go_wp2_with fail
  refine (c3.out _).mono ?_
  rintro e v4 ⟨rfl, h4⟩
  have B4 := Lib.hid (B3.out.trans (h4.mono B3.out.size))
  clear h4 B3 c1 c2 c3
  cases E with
  | true =>
    have hE' : (a0.toList == []) = true := by
      have := eq_of_beq hE
      rw [this, toList_data]; rfl
    clear hE
    cases X with
    | true =>
      obtain rfl : Y = false := hO.out.both rfl
      obtain rfl : D = false := by have := hO.out.one; cases D; rfl; cases this
      cases Z with
      | true =>
        obtain rfl : U = true := hO.out.tri rfl rfl
        go_wp2_with fail
        refine (c4.out _).mono ?_
        rintro e v5 ⟨rfl, h5⟩
        have B5 := Lib.hid (B4.out.trans (h5.mono B4.out.size))
        clear h5 B4
        go_wp2_with fail
        go_ret
        exact ⟨rfl, B5.out⟩
      | false =>
        go_wp2_with fail
        go_ret
        exact ⟨rfl, B4.out⟩
    | false =>
      obtain rfl : Y = !D := by have := hO.out.one; rw [← this]; rfl
      go_wp2_with fail
      go_ret
      exact ⟨by cases D <;> rfl, B4.out⟩
  | false =>
    obtain rfl : V = true := hO.out.none rfl
    have hE' : ¬ a0.toList = [] := fun e => by
      rw [beq_eq_false_iff_ne] at hE
      exact hE (by rw [e, toList_data])
    clear hE
    cases X with
    | true =>
      obtain rfl : Y = false := hO.out.both rfl
      obtain rfl : D = false := by have := hO.out.one; cases D; rfl; cases this
      cases Z with
      | true =>
        obtain rfl : U = true := hO.out.tri rfl rfl
        go_wp2_with fail
        refine (c4.out _).mono ?_
        rintro e v5 ⟨rfl, h5⟩
        have B5 := Lib.hid (B4.out.trans (h5.mono B4.out.size))
        clear h5 B4
        go_wp2_with fail
        refine (c5.out _).mono ?_
        rintro e v6 ⟨rfl, h6⟩
        have B6 := Lib.hid (B5.out.trans (h6.mono B5.out.size))
        clear h6 B5
        go_wp2_with fail
        go_ret
        exact ⟨rfl, B6.out⟩
      | false =>
        go_wp2_with fail
        refine (c5.out _).mono ?_
        rintro e v6 ⟨rfl, h6⟩
        have B6 := Lib.hid (B4.out.trans (h6.mono B4.out.size))
        clear h6 B4
        go_wp2_with fail
        go_ret
        exact ⟨rfl, B6.out⟩
    | false =>
      obtain rfl : Y = !D := by have := hO.out.one; rw [← this]; rfl
      cases D with
      | true =>
        go_wp2_with fail
        refine (c5.out _).mono ?_
        rintro e v6 ⟨rfl, h6⟩
        have B6 := Lib.hid (B4.out.trans (h6.mono B4.out.size))
        clear h6 B4
        go_wp2_with fail
        go_ret
        exact ⟨rfl, B6.out⟩
      | false =>
        go_wp2_with fail
        refine (c5.out _).mono ?_
        rintro e v6 ⟨rfl, h6⟩
        have B6 := Lib.hid (B4.out.trans (h6.mono B4.out.size))
        clear h6 B4
        go_wp2_with fail
        go_ret
        exact ⟨rfl, B6.out⟩

set_option maxRecDepth 100000 in
theorem lifted (os : Os) (started : os.Started) (H : Type) (enc : TypeId × Value → H) :
    ReturnsInHanded {} Try.checked os 5 .any (Rows.nameOrderSpec.pre6 enc Try.prog Try.f5 Rows.nameOrderRow.domain false) (Rows.nameOrderSpec.post enc Try.prog Try.f5 false true false false) := by
  refine returnsInHanded_of_change (C := Try.checked) own started (by kernel_rfl) Try.func5
    (ChangeSpec.witness6 (enc := enc) (C := Try.checked) false ⟨#[], #[.string ByteArray.empty, .string ByteArray.empty, .string ByteArray.empty], []⟩ 8 (by kernel_rfl) (by kernel_rfl) (by kernel_rfl) (by kernel_rfl)) ?_
  intro W base args ds gs before hval0 hW hcnd _
  have hval : ∀ (j : Nat) t v, Try.f5.params[j]? = some t → args[j]? = some v → Value.okWide Try.prog W .any base t v := hval0
  have hW' := hW
  obtain ⟨p, q, hA0, hV, rfl, hfz, hnd⟩ := hW
  have hA : DataW.TrodAll enc Try.prog W 0 (fun _ => true) true Try.f5.params.toList args.toList ds p := hA0
  rw [Try.params5] at hA hval
  obtain ⟨v0, vs0, d0, ds0, p0, q0, hargs, rfl, rfl, h0, r0⟩ := trodAll_cons hA
  obtain ⟨v1, vs1, d1, ds1, p1, q1, rfl, rfl, rfl, h1, r1⟩ := trodAll_cons r0
  obtain ⟨v2, vs2, d2, ds2, p2, q2, rfl, rfl, rfl, h2, r2⟩ := trodAll_cons r1
  obtain ⟨rfl, rfl, rfl⟩ := trodAll_nil r2
  obtain rfl : args = #[v0, v1, v2] := by cases args; simp_all
  obtain ⟨rfl, rfl⟩ := trodVars_none hV
  obtain ⟨a0, rfl, rfl, rfl, w0⟩ := open_string Try.underlying9 (hval 0 9 v0 rfl rfl) h0
  obtain ⟨a1, rfl, rfl, rfl, w1⟩ := open_string Try.underlying9 (hval 1 9 v1 rfl rfl) h1
  obtain ⟨a2, rfl, rfl, rfl, w2⟩ := open_string Try.underlying9 (hval 2 9 v2 rfl rfl) h2
  clear hA0 hval0
  simp only [List.append_nil] at hW'
  refine (walk a0 a1 a2 w0 w1 w2 W).mono fun e W' ⟨he, bel⟩ => ?_
  subst he
  exact ⟨_, rfl, _, _, _, [], [], [], hW', (trodAll_cons_mk (shut_bool Try.underlying4 _) trodAll_mk0), (trodAll_cons_mk (shut_string Try.underlying9 w0) (trodAll_cons_mk (shut_string Try.underlying9 w1) (trodAll_cons_mk (shut_string Try.underlying9 w2) trodAll_mk0))), rfl, bel.frame _, fun h => by cases h⟩

theorem over : Rows.nameOrderRow.holds Try.pinned (OpenSpec.ofChange Rows.nameOrderSpec) :=
  OpenClaim.holds_of_wide 5 Try.f5 rfl rfl rfl rfl rfl rfl rfl ⟨rfl, rfl, rfl, rfl, rfl⟩ rfl rfl rfl rfl rfl (by kernel_rfl) Try.func5 (by kernel_rfl)
    (of_decide_eq_true (by kernel_rfl)) (by unfold Func.isWrapper; first | (rw [if_pos (by decide +kernel)]; kernel_rfl) | (rw [if_neg (by decide +kernel)]; exact ⟨rfl, rfl⟩))
    (fun os started H enc _ => lifted os started H enc)

/-- The given statement. -/
theorem nameOrder_proved : Rows.NameOrderSaid :=
  over
#print axioms nameOrder_proved
end Go.Proofs.Ytjpdbdeecglabaa.nameOrder
