/-
  For every text CrcBehind returns true: with its own check behind it, the lowest byte first, any text has one and the same check.
  Conditions: none beyond the given statement's own.
-/
import Derived.Test.YtcfifhanhkjdmaaRows
import Derived.Test.YtcfifhanhkjdmaaWorks
import Derived.WalkKit
import Derived.ProofKit
import Derived.OpenShut
import Derived.ShutString
import Derived.ChangeOld
import Derived.Below
namespace Go.Proofs.Ytcfifhanhkjdmaa.crcBehind
open Go.ChangeShapes Go.WideShapes Go.ChangeAt Go.RowKit
open Go.ChangeMaps (open_string shut_string)
set_option linter.unusedVariables false

theorem own : ownKnob Try.prog.godebug = none := by kernel_rfl

/-- The lowest byte of a word. -/
def low (c : BitVec 32) : UInt8 := UInt8.ofNat c.toNat

theorem low_byte (c : BitVec 32) : byte (low c) = c &&& 255#32 := by
  apply BitVec.eq_of_toNat_eq
  have e : (255#32).toNat = 255 := rfl
  rw [BitVec.toNat_and, e, nat_mask8]
  unfold byte low
  rw [BitVec.toNat_ofNat, UInt8.toNat_ofNat']
  omega

theorem peel (s c : BitVec 32) : hv 8 (s ^^^ c) = stp s (low c) ^^^ (c >>> (8 : Nat)) := by
  have h1 : c = (c &&& 255#32) ^^^ (c &&& ~~~255#32) := by
    apply BitVec.eq_of_getLsbD_eq; intro i hi
    simp only [BitVec.getLsbD_xor, BitVec.getLsbD_and, BitVec.getLsbD_not, hi, decide_true, Bool.true_and]
    cases c.getLsbD i <;> cases (255#32).getLsbD i <;> rfl
  have h2 : hv 8 (c &&& ~~~255#32) = c >>> (8 : Nat) := by
    rw [hv_low]
    · apply BitVec.eq_of_getLsbD_eq; intro i hi
      rw [BitVec.getLsbD_ushiftRight, BitVec.getLsbD_ushiftRight, BitVec.getLsbD_and, BitVec.getLsbD_not]
      by_cases h : 8 + i < 32
      · have hm : (255#32).getLsbD (8 + i) = false := by
          have : ∀ j : Fin 24, (255#32).getLsbD (8 + j.val) = false := by decide
          exact this ⟨i, by omega⟩
        rw [hm, decide_eq_true h]; cases c.getLsbD (8 + i) <;> rfl
      · have : c.getLsbD (8 + i) = false := BitVec.getLsbD_of_ge _ _ (by omega)
        rw [this]; rfl
    · intro i hi
      have hm : (255#32).getLsbD i = true := by
        have : ∀ j : Fin 8, (255#32).getLsbD j.val = true := by decide
        exact this ⟨i, hi⟩
      rw [BitVec.getLsbD_and, BitVec.getLsbD_not, hm]; simp
  unfold stp
  rw [low_byte]
  calc hv 8 (s ^^^ c) = hv 8 (s ^^^ ((c &&& 255#32) ^^^ (c &&& ~~~255#32))) := by rw [← h1]
    _ = hv 8 ((s ^^^ (c &&& 255#32)) ^^^ (c &&& ~~~255#32)) := by rw [BitVec.xor_assoc]
    _ = _ := by rw [hv_xor, h2]

/-- The four bytes of a word, the lowest first. -/
def tail4 (c : BitVec 32) : List UInt8 := [low c, low (c >>> (8 : Nat)), low (c >>> (16 : Nat)), low (c >>> (24 : Nat))]

theorem run_tail (s c : BitVec 32) : run s (tail4 c) = hv 32 (s ^^^ c) := by
  have e1 : (c >>> (8 : Nat)) >>> (8 : Nat) = c >>> (16 : Nat) := (BitVec.shiftRight_add c 8 8).symm
  have e2 : (c >>> (16 : Nat)) >>> (8 : Nat) = c >>> (24 : Nat) := (BitVec.shiftRight_add c 16 8).symm
  have e3 : (c >>> (24 : Nat)) >>> (8 : Nat) = 0#32 := by
    rw [← BitVec.shiftRight_add]
    apply BitVec.eq_of_toNat_eq
    rw [BitVec.toNat_ushiftRight, Nat.shiftRight_eq_div_pow]
    have := c.isLt
    show _ = 0
    omega
  have e4 : hv 32 (s ^^^ c) = hv 8 (hv 8 (hv 8 (hv 8 (s ^^^ c)))) := by
    rw [← hv_add, ← hv_add, ← hv_add]
  rw [e4, peel, peel, e1, peel, e2, peel, e3, BitVec.xor_zero]
  rfl

theorem xor_not (a : BitVec 32) : a ^^^ ~~~a = BitVec.allOnes 32 := by
  apply BitVec.eq_of_getLsbD_eq; intro i hi
  simp only [BitVec.getLsbD_xor, BitVec.getLsbD_not, BitVec.getLsbD_allOnes, hi, decide_true, Bool.true_and]
  cases a.getLsbD i <;> rfl

theorem more_tail (l : List UInt8) : V (more 0#32 (l ++ tail4 (more 0#32 l))) = 558161692 := by
  have e : more 0#32 (l ++ tail4 (more 0#32 l)) = ~~~(hv 32 (BitVec.allOnes 32)) := by
    unfold more
    rw [run_append, run_tail, xor_not]
  rw [e]
  decide +kernel

theorem conv_u8 (c : BitVec 32) : V c % (256 : Int) = ((low c).toNat : Int) := by
  unfold low V
  rw [UInt8.toNat_ofNat']
  omega

theorem conv_new (v : World) (t : TypeId) (l : List UInt8) :
    (convert 33 9 (.slice (some ⟨v.heap.size, 0, none⟩) l.length l.length)).run Try.prog (v.alloc (.cells (l.map fun b => Value.int .u8 (b.toNat : Int)).toArray t)) = .ok (.string ⟨l.toArray⟩) (v.alloc (.cells (l.map fun b => Value.int .u8 (b.toNat : Int)).toArray t)) :=
  run_convert_bytes_back (P := Try.prog) _ 33 9 5 ⟨v.heap.size, 0, none⟩ _ l Try.underlying33 Try.underlying5 Try.underlying9 (fun j hj => by
    have e : (⟨v.heap.size, 0, none⟩ : Addr).add j = ⟨v.heap.size, j, none⟩ := by unfold Addr.add; split <;> simp_all
    rw [e, World.cell?_alloc_at _ _ _ _ rfl]
    simp [hj])

theorem conv_tail (c : BitVec 32) (v : World) :
    (convert 33 9 (.slice (some ⟨v.heap.size, 0, none⟩) 4 4)).run Try.prog (v.alloc (.cells #[.int .u8 (V c % 256), .int .u8 (V c / 256 % 256), .int .u8 (V c / 65536 % 256), .int .u8 (V c / 16777216 % 256)] 5)) = .ok (.string ⟨(tail4 c).toArray⟩) (v.alloc (.cells #[.int .u8 (V c % 256), .int .u8 (V c / 256 % 256), .int .u8 (V c / 65536 % 256), .int .u8 (V c / 16777216 % 256)] 5)) := by
  rw [conv_u8, show V c / (256 : Int) = V (c >>> (8 : Nat)) from shrV c 8, show V c / (65536 : Int) = V (c >>> (16 : Nat)) from shrV c 16, show V c / (16777216 : Int) = V (c >>> (24 : Nat)) from shrV c 24, conv_u8, conv_u8, conv_u8]
  exact conv_new v 5 (tail4 c)

theorem tail_size (a : ByteArray) (h : a.size ≤ 600) (c : BitVec 32) : (a ++ ⟨(tail4 c).toArray⟩).size ≤ 4000 := by
  rw [ByteArray.size_append, show (ByteArray.mk (tail4 c).toArray).size = 4 from rfl]
  omega
theorem tail_list (a : ByteArray) (c : BitVec 32) : (a ++ ⟨(tail4 c).toArray⟩).data.toList = a.data.toList ++ tail4 c := by
  rw [ByteArray.data_append, Array.toList_append]

theorem past {w v v' : World} {o : Obj} (h : Below w.heap.size w v) (k : Below (v.alloc o).heap.size (v.alloc o) v') : Below w.heap.size w v' := by
  have h1 : Below w.heap.size w (v.alloc o) := h.alloc h.size o
  exact h1.trans (k.mono h1.size)

set_option maxHeartbeats 1000000 in
theorem walk (a0 : ByteArray) (w0 : a0.size ≤ maxLen) (w : World) :
    Calls Try.prog 9 #[.string a0] w fun e w' => e = .returned (.bool true) ∧ Below w.heap.size w w' := by
  unfold maxLen at w0
  by_cases hl : a0.size ≤ 600
  · have hl' : decide ((600 : Int) < (a0.size : Int)) = false := by simp; omega
    have hmt := Lib.hid (more_tail a0.data.toList)
    go_enter Try.func9, Try.ntmps9
    go_wp2_with fail
    refine (works_any _).mono ?_
    rintro e v1 ⟨rfl, h1⟩
    go_wp2_with fail
    refine (of_any a0 (by omega) _).mono ?_
    rintro e v2 ⟨rfl, h2⟩
    revert hmt
    generalize more 0#32 a0.data.toList = c
    intro hmt
    have hc := conv_tail c v2
    have hz := Lib.hid (tail_size a0 hl c)
    have hu := Lib.hid (tail_list a0 c)
    have hy : (ByteArray.mk (tail4 c).toArray).size ≤ 4 := Nat.le_refl _
    revert hc hz hu hy
    generalize ByteArray.mk (tail4 c).toArray = t
    intro hc hz hu hy
    go_wp2_with fail
    refine (of_any _ hz.out _).mono ?_
    rintro e v3 ⟨rfl, h3⟩
    rw [hu.out, hmt.out]
    go_wp2_with fail
    go_ret
    exact ⟨rfl, past (h1.trans (h2.mono h1.size)) h3⟩
  · have hl' : decide ((600 : Int) < (a0.size : Int)) = true := by simp; omega
    go_enter Try.func9, Try.ntmps9
    go_wp2_with fail
    refine (works_any _).mono ?_
    rintro e v1 ⟨rfl, h1⟩
    go_wp2_with fail
    go_ret
    exact ⟨rfl, h1⟩

set_option maxRecDepth 100000 in
theorem lifted (os : Os) (started : os.Started) (H : Type) (enc : TypeId × Value → H) :
    ReturnsInHanded {} Try.checked os 9 .any (Rows.crcBehindSpec.pre6 enc Try.prog Try.f9 Rows.crcBehindRow.domain false) (Rows.crcBehindSpec.post enc Try.prog Try.f9 false true false false) := by
  refine returnsInHanded_of_change (C := Try.checked) own started (by kernel_rfl) Try.func9
    (ChangeSpec.witness6 (enc := enc) (C := Try.checked) false ⟨#[], #[.string ByteArray.empty], []⟩ 8 (by kernel_rfl) (by kernel_rfl) (by kernel_rfl) (by kernel_rfl)) ?_
  intro W base args ds gs before hval0 hW hcnd _
  have hval : ∀ (j : Nat) t v, Try.f9.params[j]? = some t → args[j]? = some v → Value.okWide Try.prog W .any base t v := hval0
  have hW' := hW
  obtain ⟨p, q, hA0, hV, rfl, hfz, hnd⟩ := hW
  have hA : DataW.TrodAll enc Try.prog W 0 (fun _ => true) true Try.f9.params.toList args.toList ds p := hA0
  rw [Try.params9] at hA hval
  obtain ⟨v0, vs0, d0, ds0, p0, q0, hargs, rfl, rfl, h0, r0⟩ := trodAll_cons hA
  obtain ⟨rfl, rfl, rfl⟩ := trodAll_nil r0
  obtain rfl : args = #[v0] := by cases args; simp_all
  obtain ⟨rfl, rfl⟩ := trodVars_none hV
  obtain ⟨a0, rfl, rfl, rfl, w0⟩ := open_string Try.underlying9 (hval 0 9 v0 rfl rfl) h0
  clear hA0 hval0
  simp only [List.append_nil] at hW'
  refine (walk a0 w0 W).mono fun e W' ⟨he, bel⟩ => ?_
  subst he
  exact ⟨_, rfl, _, _, _, [], [], [], hW', (trodAll_cons_mk (shut_bool Try.underlying4 _) trodAll_mk0), (trodAll_cons_mk (shut_string Try.underlying9 w0) trodAll_mk0), rfl, bel.frame _, fun h => by cases h⟩

theorem over : Rows.crcBehindRow.holds Try.pinned (OpenSpec.ofChange Rows.crcBehindSpec) :=
  OpenClaim.holds_of_wide 9 Try.f9 rfl rfl rfl rfl rfl rfl rfl ⟨rfl, rfl, rfl, rfl, rfl⟩ rfl rfl rfl rfl rfl (by kernel_rfl) Try.func9 (by kernel_rfl)
    (of_decide_eq_true (by kernel_rfl)) (by unfold Func.isWrapper; first | (rw [if_pos (by decide +kernel)]; kernel_rfl) | (rw [if_neg (by decide +kernel)]; exact ⟨rfl, rfl⟩))
    (fun os started H enc _ => lifted os started H enc)

/-- The given statement. -/
theorem crcBehind_proved : Rows.CrcBehindSaid :=
  over
#print axioms crcBehind_proved
end Go.Proofs.Ytcfifhanhkjdmaa.crcBehind
