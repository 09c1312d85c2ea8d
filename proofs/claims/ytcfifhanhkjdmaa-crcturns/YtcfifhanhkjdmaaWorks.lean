/-
  The document's examples of layer 1 hold at the program: works returns true.
-/
import Derived.Test.YtcfifhanhkjdmaaMore
import Derived.OpenShut
namespace Go.Proofs.Ytcfifhanhkjdmaa
open Go.RowKit

theorem number_any (s : ByteArray) (w : World) :
    Calls Try.prog 17 #[.string s] w fun e w' => e = numR s.data.toList ∧ Below w.heap.size w w' := by
  by_cases h : s.size = 8
  · exact number_eight s h w
  · exact number_short s h w

theorem of_lit9 (w : World) :
    Calls Try.prog 11 #[.string ⟨#[49, 50, 51, 52, 53, 54, 55, 56, 57]⟩] w fun e w' => e = .returned (.int .u32 3421780262) ∧ Below w.heap.size w w' := by
  have h := of_any ⟨#[49, 50, 51, 52, 53, 54, 55, 56, 57]⟩ (by decide) w
  rw [show V (more 0#32 [49, 50, 51, 52, 53, 54, 55, 56, 57]) = 3421780262 by decide +kernel] at h
  exact h
theorem of_lit4 (w : World) :
    Calls Try.prog 11 #[.string ⟨#[49, 50, 51, 52]⟩] w fun e w' => e = .returned (.int .u32 (V (more 0#32 [49, 50, 51, 52]))) ∧ Below w.heap.size w w' :=
  of_any ⟨#[49, 50, 51, 52]⟩ (by decide) w
theorem more_lit (w : World) :
    Calls Try.prog 13 #[.int .u32 (V (more 0#32 [49, 50, 51, 52])), .string ⟨#[53, 54, 55, 56, 57]⟩] w fun e w' => e = .returned (.int .u32 3421780262) ∧ Below w.heap.size w w' := by
  have h := more_any (more 0#32 [49, 50, 51, 52]) ⟨#[53, 54, 55, 56, 57]⟩ (by decide) w
  rw [show V (more (more 0#32 [49, 50, 51, 52]) [53, 54, 55, 56, 57]) = 3421780262 by decide +kernel] at h
  exact h
theorem num_lit (w : World) :
    Calls Try.prog 17 #[.string ⟨#[99, 98, 102, 52, 51, 57, 50, 54]⟩] w fun e w' => e = .returned (.tuple #[.int .u32 3421780262, .bool true]) ∧ Below w.heap.size w w' := by
  have h := number_any ⟨#[99, 98, 102, 52, 51, 57, 50, 54]⟩ w
  have e : num [99, 98, 102, 52, 51, 57, 50, 54] = some 3421780262#32 := by decide +kernel
  have e2 := numR_some e
  rw [show numR (({ data := #[99, 98, 102, 52, 51, 57, 50, 54] } : ByteArray).data.toList) = .returned (.tuple #[.int .u32 3421780262, .bool true]) from e2] at h
  exact h
theorem text_lit (w : World) :
    Calls Try.prog 19 #[.int .u32 3421780262] w fun e w' => e = .returned (.string ⟨#[99, 98, 102, 52, 51, 57, 50, 54]⟩) ∧ Below w.heap.size w w' := by
  have h := text_any 3421780262#32 w
  rw [show V 3421780262#32 = 3421780262 by decide +kernel, show txt 3421780262#32 = [99, 98, 102, 52, 51, 57, 50, 54] by decide +kernel] at h
  exact h
theorem step_lit0 (w : World) :
    Calls Try.prog 15 #[.int .u32 0, .int .u8 0] w fun e w' => e = .returned (.int .u32 0) ∧ w = w' := by
  have h := step_any 0#32 0 w
  rw [show V (stp 0#32 0) = 0 by decide +kernel] at h
  exact h
theorem step_lit1 (w : World) :
    Calls Try.prog 15 #[.int .u32 0, .int .u8 1] w fun e w' => e = .returned (.int .u32 1996959894) ∧ w = w' := by
  have h := step_any 0#32 1 w
  rw [show V (stp 0#32 1) = 1996959894 by decide +kernel] at h
  exact h

set_option maxHeartbeats 1000000 in
theorem works_any (w : World) :
    Calls Try.prog 10 #[] w fun e w' => e = .returned (.bool true) ∧ Below w.heap.size w w' := by
  go_enter Try.func10, Try.ntmps10
  go_wp2_with fail
  refine (of_lit9 _).mono ?_
  rintro e w1 ⟨rfl, h1⟩
  go_wp2_with fail
  refine (num_lit _).mono ?_
  rintro e w2 ⟨rfl, h2⟩
  go_wp2_with fail
  refine (text_lit _).mono ?_
  rintro e w3 ⟨rfl, h3⟩
  go_wp2_with fail
  refine (of_lit4 _).mono ?_
  rintro e w4 ⟨rfl, h4⟩
  go_wp2_with fail
  refine (more_lit _).mono ?_
  rintro e w5 ⟨rfl, h5⟩
  go_wp2_with fail
  refine (step_lit0 _).mono ?_
  rintro e w6 ⟨rfl, rfl⟩
  go_wp2_with fail
  refine (step_lit1 _).mono ?_
  rintro e w7 ⟨rfl, rfl⟩
  go_wp2_with fail
  go_ret
  have b2 := h1.trans (h2.mono h1.size)
  have b3 := b2.trans (h3.mono b2.size)
  have b4 := b3.trans (h4.mono b3.size)
  exact ⟨rfl, b4.trans (h5.mono b4.size)⟩

theorem u32_word {n : Int} (h : (Lit.int .u32 n).wf = true) : ∃ c : BitVec 32, n = V c := by
  have := bounds_u32 h
  exact ⟨BitVec.ofNat 32 n.toNat, (V_of n this.1 this.2).symm⟩
theorem u8_byte {n : Int} (h : (Lit.int .u8 n).wf = true) : ∃ b : UInt8, n = (b.toNat : Int) := by
  have := bounds_u8 h
  refine ⟨UInt8.ofNat n.toNat, ?_⟩
  rw [UInt8.toNat_ofNat']; omega

end Go.Proofs.Ytcfifhanhkjdmaa
