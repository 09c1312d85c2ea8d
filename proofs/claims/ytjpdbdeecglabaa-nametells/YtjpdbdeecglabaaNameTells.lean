/-
  For every two texts NameTells returns true: whether a text is a name, how many runes it has, how it is shown, what is shown so, and which one is ahead, is just what the reference says.
  Conditions: none beyond the given statement's own.
-/
import Derived.Test.YtjpdbdeecglabaaRows
import Derived.Test.YtjpdbdeecglabaaWorks
import Derived.Test.YtjpdbdeecglabaaRunq
import Derived.WalkKit
import Derived.ProofKit
import Derived.OpenShut
import Derived.ShutString
import Derived.ChangeOld
import Derived.Below
namespace Go.Proofs.Ytjpdbdeecglabaa.nameTells
open Go.ChangeShapes Go.WideShapes Go.ChangeAt Go.RowKit
open Go.ChangeMaps (open_string shut_string)
set_option linter.unusedVariables false

theorem own : ownKnob Try.prog.godebug = none := by kernel_rfl

set_option maxHeartbeats 1000000 in
set_option maxRecDepth 100000 in
theorem walk (a0 a1 : ByteArray) (w0 : a0.size ≤ maxLen) (w1 : a1.size ≤ maxLen) (w : World) :
    Calls Try.prog 3 #[.string a0, .string a1] w fun e w' => e = .returned (.bool true) ∧ Below w.heap.size w w' := by
  by_cases k0 : 200 < a0.size
  · have t0 : decide ((200 : Int) < (a0.size : Int)) = true := by simp; omega
    clear w0 w1 k0
    go_enter Try.func3, Try.ntmps3
    go_wp2_with fail
    refine (works_any _).mono ?_
    rintro e v1 ⟨rfl, h1⟩
    go_wp2_with fail
    go_ret
    exact ⟨rfl, h1⟩
  have t0 : decide ((200 : Int) < (a0.size : Int)) = false := by simp; omega
  by_cases k1 : 200 < a1.size
  · have t1 : decide ((200 : Int) < (a1.size : Int)) = true := by simp; omega
    clear w0 w1 k0 k1
    go_enter Try.func3, Try.ntmps3
    go_wp2_with fail
    refine (works_any _).mono ?_
    rintro e v1 ⟨rfl, h1⟩
    go_wp2_with fail
    go_ret
    exact ⟨rfl, h1⟩
  have t1 : decide ((200 : Int) < (a1.size : Int)) = false := by simp; omega
  have c1 := Lib.hid (fun v => unquote_any a1 (by omega) v)
  have c2 := Lib.hid (fun v => runquote_any a1 (by omega) v)
  have c3 := Lib.hid (fun v => rvalid_any a0 (by omega) v)
  have c4 := Lib.hid (fun v => rless_any a0 a1 (by omega) (by omega) v)
  have c5 := Lib.hid (fun v => valid_any a0 (by omega) v)
  have c6 := Lib.hid (fun v => count_any a0 (by omega) v)
  have c7 := Lib.hid (fun v => runes_any a0 (by omega) v)
  have c8 := Lib.hid (fun v => quote_any a0 (by omega) v)
  have c9 := Lib.hid (fun v => rquote_any a0 (by omega) v)
  have c10 := Lib.hid (fun v => less_any a0 a1 (by omega) (by omega) v)
  unfold unqR at c2
  have hpl : (pl (li a0)).length ≤ 200 := by have := pl_le (li a0); rw [li_len] at this; omega
  revert c1 c2 c3 c4 c5 c6 c7 c8 c9 c10 hpl
  generalize (⟨(unq (li a1)).1.toArray⟩ : ByteArray) = U
  generalize (unq (li a1)).2 = O
  generalize vld (li a0) = V
  generalize lxl (pl (li a0)) (pl (li a1)) = L
  generalize (⟨(quote (li a0)).toArray⟩ : ByteArray) = Q
  generalize pl (li a0) = P
  intro c1 c2 c3 c4 c5 c6 c7 c8 c9 c10 hpl
  clear w0 w1 k0 k1
  go_enter Try.func3, Try.ntmps3
  go_wp2_with fail
  refine (works_any _).mono ?_
  rintro e v1 ⟨rfl, h1⟩
  have B1 := Lib.hid h1
  clear h1
  go_wp2_with fail
  refine (c1.out _).mono ?_
  rintro e v2 ⟨rfl, h2⟩
  have B2 := Lib.hid (B1.out.trans (h2.mono B1.out.size))
  clear h2 B1
  go_wp2_with fail
  refine (c2.out _).mono ?_
  rintro e v3 ⟨rfl, h3⟩
  have B3 := Lib.hid (B2.out.trans (h3.mono B2.out.size))
  clear h3 B2
  go_wp2_with fail
  refine (c3.out _).mono ?_
  rintro e v4 ⟨rfl, h4⟩
  have B4 := Lib.hid (B3.out.trans (h4.mono B3.out.size))
  clear h4 B3
  go_wp2_with fail
  refine (c4.out _).mono ?_
  rintro e v5 ⟨rfl, h5⟩
  have B5 := Lib.hid (B4.out.trans (h5.mono B4.out.size))
  clear h5 B4
  go_wp2_with fail
  refine (c5.out _).mono ?_
  rintro e v6 ⟨rfl, h6⟩
  have B6 := Lib.hid (B5.out.trans (h6.mono B5.out.size))
  clear h6 B5
  go_wp2_with fail
  refine (c6.out _).mono ?_
  rintro e v7 ⟨rfl, h7⟩
  have B7 := Lib.hid (B6.out.trans (h7.mono B6.out.size))
  clear h7 B6
  go_wp2_with fail
  refine (c7.out _).mono ?_
  rintro e v8 ⟨v, rfl, o8, h8⟩
  have B8 := Lib.hid (B7.out.trans (h8.mono B7.out.size))
  obtain ⟨A, n, rfl, P'⟩ := pls_gen o8
  clear h8 B7 o8 P'
  go_wp2_with fail
  refine (c8.out _).mono ?_
  rintro e v9 ⟨rfl, h9⟩
  have B9 := Lib.hid (B8.out.trans (h9.mono B8.out.size))
  clear h9 B8
  go_wp2_with fail
  refine (c9.out _).mono ?_
  rintro e v10 ⟨rfl, h10⟩
  have B10 := Lib.hid (B9.out.trans (h10.mono B9.out.size))
  clear h10 B9
  go_wp2_with fail
  refine (c10.out _).mono ?_
  rintro e v11 ⟨rfl, h11⟩
  have B11 := Lib.hid (B10.out.trans (h11.mono B10.out.size))
  clear h11 B10
  go_wp2_with fail
  go_ret
  exact ⟨by simp, B11.out⟩

set_option maxRecDepth 100000 in
theorem lifted (os : Os) (started : os.Started) (H : Type) (enc : TypeId × Value → H) :
    ReturnsInHanded {} Try.checked os 3 .any (Rows.nameTellsSpec.pre6 enc Try.prog Try.f3 Rows.nameTellsRow.domain false) (Rows.nameTellsSpec.post enc Try.prog Try.f3 false true false false) := by
  refine returnsInHanded_of_change (C := Try.checked) own started (by kernel_rfl) Try.func3
    (ChangeSpec.witness6 (enc := enc) (C := Try.checked) false ⟨#[], #[.string ByteArray.empty, .string ByteArray.empty], []⟩ 8 (by kernel_rfl) (by kernel_rfl) (by kernel_rfl) (by kernel_rfl)) ?_
  intro W base args ds gs before hval0 hW hcnd _
  have hval : ∀ (j : Nat) t v, Try.f3.params[j]? = some t → args[j]? = some v → Value.okWide Try.prog W .any base t v := hval0
  have hW' := hW
  obtain ⟨p, q, hA0, hV, rfl, hfz, hnd⟩ := hW
  have hA : DataW.TrodAll enc Try.prog W 0 (fun _ => true) true Try.f3.params.toList args.toList ds p := hA0
  rw [Try.params3] at hA hval
  obtain ⟨v0, vs0, d0, ds0, p0, q0, hargs, rfl, rfl, h0, r0⟩ := trodAll_cons hA
  obtain ⟨v1, vs1, d1, ds1, p1, q1, rfl, rfl, rfl, h1, r1⟩ := trodAll_cons r0
  obtain ⟨rfl, rfl, rfl⟩ := trodAll_nil r1
  obtain rfl : args = #[v0, v1] := by cases args; simp_all
  obtain ⟨rfl, rfl⟩ := trodVars_none hV
  obtain ⟨a0, rfl, rfl, rfl, w0⟩ := open_string Try.underlying9 (hval 0 9 v0 rfl rfl) h0
  obtain ⟨a1, rfl, rfl, rfl, w1⟩ := open_string Try.underlying9 (hval 1 9 v1 rfl rfl) h1
  clear hA0 hval0
  simp only [List.append_nil] at hW'
  refine (walk a0 a1 w0 w1 W).mono fun e W' ⟨he, bel⟩ => ?_
  subst he
  exact ⟨_, rfl, _, _, _, [], [], [], hW', (trodAll_cons_mk (shut_bool Try.underlying4 _) trodAll_mk0), (trodAll_cons_mk (shut_string Try.underlying9 w0) (trodAll_cons_mk (shut_string Try.underlying9 w1) trodAll_mk0)), rfl, bel.frame _, fun h => by cases h⟩

theorem over : Rows.nameTellsRow.holds Try.pinned (OpenSpec.ofChange Rows.nameTellsSpec) :=
  OpenClaim.holds_of_wide 3 Try.f3 rfl rfl rfl rfl rfl rfl rfl ⟨rfl, rfl, rfl, rfl, rfl⟩ rfl rfl rfl rfl rfl (by kernel_rfl) Try.func3 (by kernel_rfl)
    (of_decide_eq_true (by kernel_rfl)) (by unfold Func.isWrapper; first | (rw [if_pos (by decide +kernel)]; kernel_rfl) | (rw [if_neg (by decide +kernel)]; exact ⟨rfl, rfl⟩))
    (fun os started H enc _ => lifted os started H enc)

/-- The given statement. -/
theorem nameTells_proved : Rows.NameTellsSaid :=
  over
#print axioms nameTells_proved
end Go.Proofs.Ytjpdbdeecglabaa.nameTells
