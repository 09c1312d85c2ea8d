/-
  For every two texts and two bytes CrcByte returns true: one byte that is another one is told, wherever it stands.
  Conditions: none beyond the given statement's own.
-/
import Derived.Test.YtcfifhanhkjdmaaRows
import Derived.Test.YtcfifhanhkjdmaaWorks
import Derived.WalkKit
import Derived.ProofKit
import Derived.OpenShut
import Derived.ShutString
import Derived.ChangeOld
import Derived.Below
namespace Go.Proofs.Ytcfifhanhkjdmaa.crcByte
open Go.ChangeShapes Go.WideShapes Go.ChangeAt Go.RowKit
open Go.ChangeMaps (open_string shut_string)
set_option linter.unusedVariables false

theorem own : ownKnob Try.prog.godebug = none := by kernel_rfl

theorem conv_new (v : World) (t : TypeId) (l : List UInt8) :
    (convert 33 9 (.slice (some ⟨v.heap.size, 0, none⟩) l.length l.length)).run Try.prog (v.alloc (.cells (l.map fun b => Value.int .u8 (b.toNat : Int)).toArray t)) = .ok (.string ⟨l.toArray⟩) (v.alloc (.cells (l.map fun b => Value.int .u8 (b.toNat : Int)).toArray t)) :=
  run_convert_bytes_back (P := Try.prog) _ 33 9 5 ⟨v.heap.size, 0, none⟩ _ l Try.underlying33 Try.underlying5 Try.underlying9 (fun j hj => by
    have e : (⟨v.heap.size, 0, none⟩ : Addr).add j = ⟨v.heap.size, j, none⟩ := by unfold Addr.add; split <;> simp_all
    rw [e, World.cell?_alloc_at _ _ _ _ rfl]
    simp [hj])

theorem past {w v v' : World} {o : Obj} (h : Below w.heap.size w v) (k : Below (v.alloc o).heap.size (v.alloc o) v') : Below w.heap.size w v' := by
  have h1 : Below w.heap.size w (v.alloc o) := h.alloc h.size o
  exact h1.trans (k.mono h1.size)
theorem size_one (a b : ByteArray) (ha : a.size ≤ 600) (hb : b.size ≤ 600) (x : UInt8) : (a ++ ⟨#[x]⟩ ++ b).size ≤ 4000 := by
  rw [ByteArray.size_append, ByteArray.size_append, show (ByteArray.mk #[x]).size = 1 from rfl]
  omega

set_option maxHeartbeats 1000000 in
theorem walk (a0 : ByteArray) (a1 : Int) (a2 : Int) (a3 : ByteArray) (w0 : a0.size ≤ maxLen) (w1 : (Lit.int .u8 a1).wf = true) (w2 : (Lit.int .u8 a2).wf = true) (w3 : a3.size ≤ maxLen) (w : World) :
    Calls Try.prog 6 #[.string a0, .int .u8 a1, .int .u8 a2, .string a3] w fun e w' => e = .returned (.bool true) ∧ Below w.heap.size w w' := by
  obtain ⟨x, rfl⟩ := u8_byte w1
  obtain ⟨y, rfl⟩ := u8_byte w2
  clear w1 w2
  unfold maxLen at w0 w3
  by_cases hl : a0.size ≤ 600
  · have hl' : decide ((600 : Int) < (a0.size : Int)) = false := by simp; omega
    by_cases hk : a3.size ≤ 600
    · have hk' : decide ((600 : Int) < (a3.size : Int)) = false := by simp; omega
      by_cases hxy : x = y
      · subst hxy
        have hb : ((x.toNat : Int) == (x.toNat : Int)) = true := by simp
        go_enter Try.func6, Try.ntmps6
        go_wp2_with fail
        refine (works_any _).mono ?_
        rintro e v1 ⟨rfl, h1⟩
        go_wp2_with fail
        go_ret
        exact ⟨rfl, h1⟩
      · have hb : ((x.toNat : Int) == (y.toNat : Int)) = false := by
          rw [beq_eq_false_iff_ne]; intro h; exact hxy (UInt8.toNat_inj.mp (by omega))
        go_enter Try.func6, Try.ntmps6
        go_wp2_with fail
        refine (works_any _).mono ?_
        rintro e v1 ⟨rfl, h1⟩
        have hz := Lib.hid (size_one a0 a3 hl hk)
        have hc := fun (v : World) (t : TypeId) (b : UInt8) => conv_new v t [b]
        simp only [List.length_cons, List.length_nil, List.map_cons, List.map_nil, Nat.zero_add] at hc
        go_wp2_with fail
        refine (of_any _ (hz.out x) _).mono ?_
        rintro e v2 ⟨rfl, h2⟩
        go_wp2_with fail
        refine (of_any _ (hz.out y) _).mono ?_
        rintro e v3 ⟨rfl, h3⟩
        have hne : (V (more 0#32 (a0.data.toList ++ x :: a3.data.toList)) != V (more 0#32 (a0.data.toList ++ y :: a3.data.toList))) = true := by
          rw [bne_iff_ne]; intro h; exact hxy (more_byte _ _ _ _ _ (V_inj _ _ h))
        go_wp2_with fail
        go_ret
        exact ⟨rfl, past (past h1 h2) h3⟩
    · have hk' : decide ((600 : Int) < (a3.size : Int)) = true := by simp; omega
      go_enter Try.func6, Try.ntmps6
      go_wp2_with fail
      refine (works_any _).mono ?_
      rintro e v1 ⟨rfl, h1⟩
      go_wp2_with fail
      go_ret
      exact ⟨rfl, h1⟩
  · have hl' : decide ((600 : Int) < (a0.size : Int)) = true := by simp; omega
    go_enter Try.func6, Try.ntmps6
    go_wp2_with fail
    refine (works_any _).mono ?_
    rintro e v1 ⟨rfl, h1⟩
    go_wp2_with fail
    go_ret
    exact ⟨rfl, h1⟩

set_option maxRecDepth 100000 in
theorem lifted (os : Os) (started : os.Started) (H : Type) (enc : TypeId × Value → H) :
    ReturnsInHanded {} Try.checked os 6 .any (Rows.crcByteSpec.pre6 enc Try.prog Try.f6 Rows.crcByteRow.domain false) (Rows.crcByteSpec.post enc Try.prog Try.f6 false true false false) := by
  refine returnsInHanded_of_change (C := Try.checked) own started (by kernel_rfl) Try.func6
    (ChangeSpec.witness6 (enc := enc) (C := Try.checked) false ⟨#[], #[.string ByteArray.empty, .int .u8 0, .int .u8 0, .string ByteArray.empty], []⟩ 8 (by kernel_rfl) (by kernel_rfl) (by kernel_rfl) (by kernel_rfl)) ?_
  intro W base args ds gs before hval0 hW hcnd _
  have hval : ∀ (j : Nat) t v, Try.f6.params[j]? = some t → args[j]? = some v → Value.okWide Try.prog W .any base t v := hval0
  have hW' := hW
  obtain ⟨p, q, hA0, hV, rfl, hfz, hnd⟩ := hW
  have hA : DataW.TrodAll enc Try.prog W 0 (fun _ => true) true Try.f6.params.toList args.toList ds p := hA0
  rw [Try.params6] at hA hval
  obtain ⟨v0, vs0, d0, ds0, p0, q0, hargs, rfl, rfl, h0, r0⟩ := trodAll_cons hA
  obtain ⟨v1, vs1, d1, ds1, p1, q1, rfl, rfl, rfl, h1, r1⟩ := trodAll_cons r0
  obtain ⟨v2, vs2, d2, ds2, p2, q2, rfl, rfl, rfl, h2, r2⟩ := trodAll_cons r1
  obtain ⟨v3, vs3, d3, ds3, p3, q3, rfl, rfl, rfl, h3, r3⟩ := trodAll_cons r2
  obtain ⟨rfl, rfl, rfl⟩ := trodAll_nil r3
  obtain rfl : args = #[v0, v1, v2, v3] := by cases args; simp_all
  obtain ⟨rfl, rfl⟩ := trodVars_none hV
  obtain ⟨a0, rfl, rfl, rfl, w0⟩ := open_string Try.underlying9 (hval 0 9 v0 rfl rfl) h0
  obtain ⟨a1, rfl, rfl, rfl, w1⟩ := open_int Try.underlying5 (hval 1 5 v1 rfl rfl) h1
  obtain ⟨a2, rfl, rfl, rfl, w2⟩ := open_int Try.underlying5 (hval 2 5 v2 rfl rfl) h2
  obtain ⟨a3, rfl, rfl, rfl, w3⟩ := open_string Try.underlying9 (hval 3 9 v3 rfl rfl) h3
  clear hA0 hval0
  simp only [List.append_nil] at hW'
  refine (walk a0 a1 a2 a3 w0 w1 w2 w3 W).mono fun e W' ⟨he, bel⟩ => ?_
  subst he
  exact ⟨_, rfl, _, _, _, [], [], [], hW', (trodAll_cons_mk (shut_bool Try.underlying4 _) trodAll_mk0), (trodAll_cons_mk (shut_string Try.underlying9 w0) (trodAll_cons_mk (shut_int Try.underlying5 w1) (trodAll_cons_mk (shut_int Try.underlying5 w2) (trodAll_cons_mk (shut_string Try.underlying9 w3) trodAll_mk0)))), rfl, bel.frame _, fun h => by cases h⟩

theorem over : Rows.crcByteRow.holds Try.pinned (OpenSpec.ofChange Rows.crcByteSpec) :=
  OpenClaim.holds_of_wide 6 Try.f6 rfl rfl rfl rfl rfl rfl rfl ⟨rfl, rfl, rfl, rfl, rfl⟩ rfl rfl rfl rfl rfl (by kernel_rfl) Try.func6 (by kernel_rfl)
    (of_decide_eq_true (by kernel_rfl)) (by unfold Func.isWrapper; first | (rw [if_pos (by decide +kernel)]; kernel_rfl) | (rw [if_neg (by decide +kernel)]; exact ⟨rfl, rfl⟩))
    (fun os started H enc _ => lifted os started H enc)

/-- The given statement. -/
theorem crcByte_proved : Rows.CrcByteSaid :=
  over
#print axioms crcByte_proved
end Go.Proofs.Ytcfifhanhkjdmaa.crcByte
