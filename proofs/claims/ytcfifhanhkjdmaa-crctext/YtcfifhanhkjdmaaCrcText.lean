/-
  For every check and every text CrcText returns true: Text and Number of the program answer as the reference does, and what is told is read again.
  Conditions: none beyond the given statement's own.
-/
import Derived.Test.YtcfifhanhkjdmaaRows
import Derived.Test.YtcfifhanhkjdmaaWorks
import Derived.WalkKit
import Derived.ProofKit
import Derived.OpenShut
import Derived.ShutString
import Derived.ChangeOld
import Derived.Below
namespace Go.Proofs.Ytcfifhanhkjdmaa.crcText
open Go.ChangeShapes Go.WideShapes Go.ChangeAt Go.RowKit
open Go.ChangeMaps (open_string shut_string)
set_option linter.unusedVariables false

theorem own : ownKnob Try.prog.godebug = none := by kernel_rfl

theorem put_nat (c : BitVec 32) (n : Nat) (h : n < 16) : (put c n).toNat = c.toNat * 16 % 4294967296 + n := by
  have := addShl c n h
  unfold V at this
  omega

theorem numTo_cons {b : UInt8} {l : List UInt8} {c n : BitVec 32} (h : numTo (b :: l) c = some n) : ∃ v, v < 16 ∧ b = dg v ∧ numTo l (put c v) = some n := by
  cases hv : val b with
  | none => simp only [numTo, hv] at h; cases h
  | some v =>
    simp only [numTo, hv] at h
    exact ⟨v, (val_some hv).1, (val_some hv).2, h⟩

theorem numTo_dg {v : Nat} (hv : v < 16) (l : List UInt8) (c : BitVec 32) : numTo (dg v :: l) c = numTo l (put c v) := by
  simp only [numTo, val_dg v hv]

/-- A digit of a word. -/
def nib (c : BitVec 32) (k : Nat) : Nat := (c >>> (4 * k)).toNat % 16
theorem nib_lt (c : BitVec 32) (k : Nat) : nib c k < 16 := Nat.mod_lt _ (by decide)
theorem nib_nat (c : BitVec 32) (k : Nat) : nib c k = c.toNat / 2 ^ (4 * k) % 16 := by
  unfold nib; rw [BitVec.toNat_ushiftRight, Nat.shiftRight_eq_div_pow]
theorem txt_nibs (c : BitVec 32) : txt c = [dg (nib c 7), dg (nib c 6), dg (nib c 5), dg (nib c 4), dg (nib c 3), dg (nib c 2), dg (nib c 1), dg (nib c 0)] := by
  rw [← rtl_txt]; rfl

theorem num_txt (c : BitVec 32) : num (txt c) = some c := by
  have hc := c.isLt
  unfold num
  rw [if_pos (txt_length c), txt_nibs]
  rw [numTo_dg (nib_lt c 7), numTo_dg (nib_lt c 6), numTo_dg (nib_lt c 5), numTo_dg (nib_lt c 4), numTo_dg (nib_lt c 3), numTo_dg (nib_lt c 2), numTo_dg (nib_lt c 1), numTo_dg (nib_lt c 0)]
  refine congrArg some (BitVec.eq_of_toNat_eq ?_)
  simp only [put_nat _ _ (nib_lt c 7), put_nat _ _ (nib_lt c 6), put_nat _ _ (nib_lt c 5), put_nat _ _ (nib_lt c 4), put_nat _ _ (nib_lt c 3), put_nat _ _ (nib_lt c 2), put_nat _ _ (nib_lt c 1), put_nat _ _ (nib_lt c 0)]
  simp only [nib_nat]
  rw [show (0#32).toNat = 0 from rfl]
  omega

theorem txt_num {l : List UInt8} {n : BitVec 32} (h : num l = some n) : txt n = l := by
  unfold num at h
  by_cases hl : l.length = 8
  · rw [if_pos hl] at h
    match l, hl with
    | [b0, b1, b2, b3, b4, b5, b6, b7], _ =>
      obtain ⟨v0, g0, rfl, k0⟩ := numTo_cons h
      obtain ⟨v1, g1, rfl, k1⟩ := numTo_cons k0
      obtain ⟨v2, g2, rfl, k2⟩ := numTo_cons k1
      obtain ⟨v3, g3, rfl, k3⟩ := numTo_cons k2
      obtain ⟨v4, g4, rfl, k4⟩ := numTo_cons k3
      obtain ⟨v5, g5, rfl, k5⟩ := numTo_cons k4
      obtain ⟨v6, g6, rfl, k6⟩ := numTo_cons k5
      obtain ⟨v7, g7, rfl, k7⟩ := numTo_cons k6
      have hn := congrArg BitVec.toNat (Option.some.inj k7)
      simp only [put_nat _ _ g0, put_nat _ _ g1, put_nat _ _ g2, put_nat _ _ g3, put_nat _ _ g4, put_nat _ _ g5, put_nat _ _ g6, put_nat _ _ g7] at hn
      rw [show (0#32).toNat = 0 from rfl] at hn
      rw [txt_nibs]
      simp only [nib_nat]
      generalize n.toNat = m at hn
      have e7 : m / 2 ^ (4 * 7) % 16 = v0 := by omega
      have e6 : m / 2 ^ (4 * 6) % 16 = v1 := by omega
      have e5 : m / 2 ^ (4 * 5) % 16 = v2 := by omega
      have e4 : m / 2 ^ (4 * 4) % 16 = v3 := by omega
      have e3 : m / 2 ^ (4 * 3) % 16 = v4 := by omega
      have e2 : m / 2 ^ (4 * 2) % 16 = v5 := by omega
      have e1 : m / 2 ^ (4 * 1) % 16 = v6 := by omega
      have e0 : m / 2 ^ (4 * 0) % 16 = v7 := by omega
      rw [e7, e6, e5, e4, e3, e2, e1, e0]
  · rw [if_neg hl] at h; cases h

theorem rnumber_short (s : ByteArray) (h : ¬ s.size = 8) (w : World) :
    Calls Try.prog 18 #[.string s] w fun e w' => e = numR s.data.toList ∧ Below w.heap.size w w' := by
  have hN : Hid (numR s.data.toList = .returned (.tuple #[.int .u32 0, .bool false])) := numR_none (by unfold num; rw [if_neg (by simpa using h)])
  have hb : ((s.size : Int) == 8) = false := by rw [beq_eq_false_iff_ne]; omega
  go_enter Try.func18, Try.ntmps18
  go_wp2
  go_ret2
  exact ⟨hN.out.symm, Below.refl _ _⟩

theorem rnumber_any (s : ByteArray) (w : World) :
    Calls Try.prog 18 #[.string s] w fun e w' => e = numR s.data.toList ∧ Below w.heap.size w w' := by
  by_cases h : s.size = 8
  · exact rnumber_eight s h w
  · exact rnumber_short s h w

theorem no_any {s : ByteArray} (h : num s.data.toList = none) (w : World) :
    Calls Try.prog 17 #[.string s] w fun e w' => e = .returned (.tuple #[.int .u32 0, .bool false]) ∧ Below w.heap.size w w' := by
  have := number_any s w
  rw [numR_none h] at this
  exact this
theorem rno_any {s : ByteArray} (h : num s.data.toList = none) (w : World) :
    Calls Try.prog 18 #[.string s] w fun e w' => e = .returned (.tuple #[.int .u32 0, .bool false]) ∧ Below w.heap.size w w' := by
  have := rnumber_any s w
  rw [numR_none h] at this
  exact this
theorem yes_any {s : ByteArray} {n : BitVec 32} (h : num s.data.toList = some n) (w : World) :
    Calls Try.prog 17 #[.string s] w fun e w' => e = .returned (.tuple #[.int .u32 (V n), .bool true]) ∧ Below w.heap.size w w' := by
  have := number_any s w
  rw [numR_some h] at this
  exact this
theorem ryes_any {s : ByteArray} {n : BitVec 32} (h : num s.data.toList = some n) (w : World) :
    Calls Try.prog 18 #[.string s] w fun e w' => e = .returned (.tuple #[.int .u32 (V n), .bool true]) ∧ Below w.heap.size w w' := by
  have := rnumber_any s w
  rw [numR_some h] at this
  exact this
theorem next {w v v' : World} (h : Below w.heap.size w v) (k : Below v.heap.size v v') : Below w.heap.size w v' := h.trans (k.mono h.size)

set_option maxHeartbeats 1000000 in
theorem walk_no (c : BitVec 32) (s : ByteArray) (hn0 : num s.data.toList = none) (w : World) :
    Calls Try.prog 4 #[.int .u32 (V c), .string s] w fun e w' => e = .returned (.bool true) ∧ Below w.heap.size w w' := by
  have hn := Lib.hid hn0
  clear hn0
  have hc := Lib.hid (num_txt c)
  go_enter Try.func4, Try.ntmps4
  go_wp2_with fail
  refine (works_any _).mono ?_
  rintro e v1 ⟨rfl, h1⟩
  go_wp2_with fail
  refine (no_any hn.out _).mono ?_
  rintro e v2 ⟨rfl, h2⟩
  go_wp2_with fail
  refine (rno_any hn.out _).mono ?_
  rintro e v3 ⟨rfl, h3⟩
  go_wp2_with fail
  refine (text_any c _).mono ?_
  rintro e v4 ⟨rfl, h4⟩
  revert hc
  generalize htx : txt c = t
  intro hc
  have hty := Lib.hid htx
  clear htx
  go_wp2_with fail
  refine (yes_any (s := ⟨t.toArray⟩) hc.out _).mono ?_
  rintro e v5 ⟨rfl, h5⟩
  go_wp2_with fail
  refine (text_any c _).mono ?_
  rintro e v6 ⟨rfl, h6⟩
  rw [hty.out]
  go_wp2_with fail
  refine (rtext_any c _).mono ?_
  rintro e v7 ⟨rfl, rfl⟩
  rw [hty.out]
  go_wp2_with fail
  go_ret
  exact ⟨rfl, next (next (next (next (next h1 h2) h3) h4) h5) h6⟩

set_option maxHeartbeats 1000000 in
theorem walk_yes (c : BitVec 32) (s : ByteArray) (n : BitVec 32) (hn0 : num s.data.toList = some n) (w : World) :
    Calls Try.prog 4 #[.int .u32 (V c), .string s] w fun e w' => e = .returned (.bool true) ∧ Below w.heap.size w w' := by
  have hn := Lib.hid hn0
  have hm : Hid (Value.string ⟨(txt n).toArray⟩ = .string s) := by rw [Hid, txt_num hn0]
  clear hn0
  have hc := Lib.hid (num_txt c)
  go_enter Try.func4, Try.ntmps4
  go_wp2_with fail
  refine (works_any _).mono ?_
  rintro e v1 ⟨rfl, h1⟩
  go_wp2_with fail
  refine (yes_any hn.out _).mono ?_
  rintro e v2 ⟨rfl, h2⟩
  go_wp2_with fail
  refine (ryes_any hn.out _).mono ?_
  rintro e v3 ⟨rfl, h3⟩
  go_wp2_with fail
  refine (text_any c _).mono ?_
  rintro e v4 ⟨rfl, h4⟩
  revert hc
  generalize htx : txt c = t
  intro hc
  have hty := Lib.hid htx
  clear htx
  go_wp2_with fail
  refine (yes_any (s := ⟨t.toArray⟩) hc.out _).mono ?_
  rintro e v5 ⟨rfl, h5⟩
  go_wp2_with fail
  refine (text_any c _).mono ?_
  rintro e v6 ⟨rfl, h6⟩
  rw [hty.out]
  go_wp2_with fail
  refine (rtext_any c _).mono ?_
  rintro e v7 ⟨rfl, rfl⟩
  rw [hty.out]
  go_wp2_with fail
  refine (text_any n _).mono ?_
  rintro e v8 ⟨rfl, h8⟩
  rw [hm.out]
  go_wp2_with fail
  go_ret
  exact ⟨rfl, next (next (next (next (next (next h1 h2) h3) h4) h5) h6) h8⟩

theorem walk (a0 : Int) (a1 : ByteArray) (w0 : (Lit.int .u32 a0).wf = true) (w1 : a1.size ≤ maxLen) (w : World) :
    Calls Try.prog 4 #[.int .u32 a0, .string a1] w fun e w' => e = .returned (.bool true) ∧ Below w.heap.size w w' := by
  obtain ⟨c, rfl⟩ := u32_word w0
  cases h : num a1.data.toList with
  | none => exact walk_no c a1 h w
  | some n => exact walk_yes c a1 n h w

set_option maxRecDepth 100000 in
theorem lifted (os : Os) (started : os.Started) (H : Type) (enc : TypeId × Value → H) :
    ReturnsInHanded {} Try.checked os 4 .any (Rows.crcTextSpec.pre6 enc Try.prog Try.f4 Rows.crcTextRow.domain false) (Rows.crcTextSpec.post enc Try.prog Try.f4 false true false false) := by
  refine returnsInHanded_of_change (C := Try.checked) own started (by kernel_rfl) Try.func4
    (ChangeSpec.witness6 (enc := enc) (C := Try.checked) false ⟨#[], #[.int .u32 0, .string ByteArray.empty], []⟩ 8 (by kernel_rfl) (by kernel_rfl) (by kernel_rfl) (by kernel_rfl)) ?_
  intro W base args ds gs before hval0 hW hcnd _
  have hval : ∀ (j : Nat) t v, Try.f4.params[j]? = some t → args[j]? = some v → Value.okWide Try.prog W .any base t v := hval0
  have hW' := hW
  obtain ⟨p, q, hA0, hV, rfl, hfz, hnd⟩ := hW
  have hA : DataW.TrodAll enc Try.prog W 0 (fun _ => true) true Try.f4.params.toList args.toList ds p := hA0
  rw [Try.params4] at hA hval
  obtain ⟨v0, vs0, d0, ds0, p0, q0, hargs, rfl, rfl, h0, r0⟩ := trodAll_cons hA
  obtain ⟨v1, vs1, d1, ds1, p1, q1, rfl, rfl, rfl, h1, r1⟩ := trodAll_cons r0
  obtain ⟨rfl, rfl, rfl⟩ := trodAll_nil r1
  obtain rfl : args = #[v0, v1] := by cases args; simp_all
  obtain ⟨rfl, rfl⟩ := trodVars_none hV
  obtain ⟨a0, rfl, rfl, rfl, w0⟩ := open_int Try.underlying22 (hval 0 22 v0 rfl rfl) h0
  obtain ⟨a1, rfl, rfl, rfl, w1⟩ := open_string Try.underlying9 (hval 1 9 v1 rfl rfl) h1
  clear hA0 hval0
  simp only [List.append_nil] at hW'
  refine (walk a0 a1 w0 w1 W).mono fun e W' ⟨he, bel⟩ => ?_
  subst he
  exact ⟨_, rfl, _, _, _, [], [], [], hW', (trodAll_cons_mk (shut_bool Try.underlying4 _) trodAll_mk0), (trodAll_cons_mk (shut_int Try.underlying22 w0) (trodAll_cons_mk (shut_string Try.underlying9 w1) trodAll_mk0)), rfl, bel.frame _, fun h => by cases h⟩

theorem over : Rows.crcTextRow.holds Try.pinned (OpenSpec.ofChange Rows.crcTextSpec) :=
  OpenClaim.holds_of_wide 4 Try.f4 rfl rfl rfl rfl rfl rfl rfl ⟨rfl, rfl, rfl, rfl, rfl⟩ rfl rfl rfl rfl rfl (by kernel_rfl) Try.func4 (by kernel_rfl)
    (of_decide_eq_true (by kernel_rfl)) (by unfold Func.isWrapper; first | (rw [if_pos (by decide +kernel)]; kernel_rfl) | (rw [if_neg (by decide +kernel)]; exact ⟨rfl, rfl⟩))
    (fun os started H enc _ => lifted os started H enc)

/-- The given statement. -/
theorem crcText_proved : Rows.CrcTextSaid :=
  over
#print axioms crcText_proved
end Go.Proofs.Ytcfifhanhkjdmaa.crcText
