/-
  The document's example holds: works returns true.
-/
import Derived.Test.YtjpdbdeecglabaaValid
import Derived.Test.YtjpdbdeecglabaaMeant
import Derived.Test.YtjpdbdeecglabaaRquote
namespace Go.Proofs.Ytjpdbdeecglabaa
open Go.RowKit

theorem conv_list (w : World) (l : List UInt8) (c : Array Value) (hc : c = (Lib.byteCells l).toArray) : (convert 32 9 (.slice (some ⟨w.heap.size, 0, none⟩) l.length l.length)).run Try.prog (w.alloc (.cells c 5)) = .ok (.string ⟨l.toArray⟩) (w.alloc (.cells c 5)) := by
  subst hc
  refine run_convert_bytes_back (P := Try.prog) (w.alloc (.cells (Lib.byteCells l).toArray 5)) 32 9 5 ⟨w.heap.size, 0, none⟩ l.length l Try.underlying32 Try.underlying5 Try.underlying9 (fun j hj => ?_)
  have e : (⟨w.heap.size, 0, none⟩ : Addr).add j = ⟨w.heap.size, j, none⟩ := by unfold Addr.add; split <;> simp_all
  rw [e, World.cell?_alloc_at _ _ _ _ rfl]
  simp [Lib.byteCells, hj]

def exA : ByteArray := ⟨#[97]⟩ ++ ⟨#[34]⟩ ++ ⟨#[98]⟩
def exQ : ByteArray := ⟨#[34, 97, 92, 34, 98, 34]⟩
theorem exA_eq : exA = ⟨#[97, 34, 98]⟩ := by decide
theorem quote_ex : quote (li exA) = [34, 97, 92, 34, 98, 34] := by decide +kernel

theorem ex_quote (w : World) : Calls Try.prog 17 #[.string exA] w fun e w' => e = .returned (.string exQ) ∧ Below w.heap.size w w' := by
  have h := quote_any exA (by decide) w
  rw [quote_ex] at h
  exact h
theorem ex_unquote (w : World) : Calls Try.prog 10 #[.string exQ] w fun e w' => e = .returned (.tuple #[.string exA, .bool true]) ∧ Below w.heap.size w w' := by
  have h := unquote_any exQ (by decide) w
  have e : li exQ = quote (li exA) := by rw [quote_ex]; rfl
  rw [e, unq_quote, mk_li] at h
  exact h
theorem ex_yes (w : World) : Calls Try.prog 14 #[.string ⟨#[120, 32, 121]⟩] w fun e w' => e = .returned (.bool true) ∧ Below w.heap.size w w' := by
  have h := valid_any ⟨#[120, 32, 121]⟩ (by decide) w
  rw [show vld (li ⟨#[120, 32, 121]⟩) = true by decide +kernel] at h
  exact h
theorem ex_no (w : World) : Calls Try.prog 14 #[.string ⟨#[32, 120]⟩] w fun e w' => e = .returned (.bool false) ∧ Below w.heap.size w w' := by
  have h := valid_any ⟨#[32, 120]⟩ (by decide) w
  rw [show vld (li ⟨#[32, 120]⟩) = false by decide +kernel] at h
  exact h
theorem ex_count (w : World) : Calls Try.prog 15 #[.string ⟨#[195, 169, 255]⟩] w fun e w' => e = .returned (.int .i64 2) ∧ Below w.heap.size w w' := by
  have h := count_any ⟨#[195, 169, 255]⟩ (by decide) w
  rw [show (pl (li ⟨#[195, 169, 255]⟩)).length = 2 by decide +kernel] at h
  exact h
theorem ex_less (w : World) : Calls Try.prog 19 #[.string ⟨#[97]⟩, .string ⟨#[98]⟩] w fun e w' => e = .returned (.bool true) ∧ Below w.heap.size w w' := by
  have h := less_any ⟨#[97]⟩ ⟨#[98]⟩ (by decide) (by decide) w
  rw [show lxl (pl (li ⟨#[97]⟩)) (pl (li ⟨#[98]⟩)) = true by decide +kernel] at h
  exact h
theorem ex_more (w : World) : Calls Try.prog 19 #[.string ⟨#[98]⟩, .string ⟨#[97]⟩] w fun e w' => e = .returned (.bool false) ∧ Below w.heap.size w w' := by
  have h := less_any ⟨#[98]⟩ ⟨#[97]⟩ (by decide) (by decide) w
  rw [show lxl (pl (li ⟨#[98]⟩)) (pl (li ⟨#[97]⟩)) = false by decide +kernel] at h
  exact h

set_option maxHeartbeats 1000000 in
set_option maxRecDepth 100000 in
theorem works_any (w : World) : Calls Try.prog 9 #[] w fun e w' => e = .returned (.bool true) ∧ Below w.heap.size w w' := by
  have cv := conv_one w 34
  rw [show (((34 : UInt8).toNat : Nat) : Int) = 34 from rfl] at cv
  have q0 := Lib.hid (fun v => ex_quote v)
  go_enter Try.func9, Try.ntmps9
  go_wp2_with fail
  refine (q0.out _).mono ?_
  rintro e w1 ⟨rfl, b1⟩
  have B1 := Lib.hid (((Below.refl w.heap.size w).alloc (Nat.le_refl _) (.cells #[.int .u8 34] 5)).trans (b1.mono (by simp)))
  clear b1 cv
  go_wp2_with fail
  refine (ex_unquote _).mono ?_
  rintro e w2 ⟨rfl, b2⟩
  have B2 := Lib.hid (B1.out.trans (b2.mono B1.out.size))
  clear b2 B1
  have cA := conv_list w2 [34, 97, 92, 34, 98, 34] #[.int .u8 34, .int .u8 97, .int .u8 92, .int .u8 34, .int .u8 98, .int .u8 34] rfl
  rw [show ([34, 97, 92, 34, 98, 34] : List UInt8).length = 6 from rfl] at cA
  have cB := conv_one (w2.alloc (.cells #[.int .u8 34, .int .u8 97, .int .u8 92, .int .u8 34, .int .u8 98, .int .u8 34] 5)) 34
  rw [show (((34 : UInt8).toNat : Nat) : Int) = 34 from rfl, show (w2.alloc (.cells #[.int .u8 34, .int .u8 97, .int .u8 92, .int .u8 34, .int .u8 98, .int .u8 34] 5)).heap.size = w2.heap.size + 1 by simp] at cB
  have e1 : exQ.toList = [34, 97, 92, 34, 98, 34] := by decide +kernel
  have e2 : exA.toList = (ByteArray.mk #[97] ++ ByteArray.mk #[34] ++ ByteArray.mk #[98]).toList := rfl
  go_wp2_with fail
  refine (ex_yes _).mono ?_
  rintro e w3 ⟨rfl, b3⟩
  have B3 := Lib.hid (((B2.out.alloc B2.out.size (.cells #[.int .u8 34, .int .u8 97, .int .u8 92, .int .u8 34, .int .u8 98, .int .u8 34] 5)).alloc (Nat.le_trans B2.out.size (by simp)) (.cells #[.int .u8 34] 5)).trans (b3.mono (by have := B2.out.size; simp; omega)))
  clear b3 B2 cA cB e1 e2
  go_wp2_with fail
  refine (ex_no _).mono ?_
  rintro e w4 ⟨rfl, b4⟩
  have B4 := Lib.hid (B3.out.trans (b4.mono B3.out.size))
  clear b4 B3
  have cC := conv_list w4 [195, 169, 255] #[.int .u8 195, .int .u8 169, .int .u8 255] rfl
  rw [show ([195, 169, 255] : List UInt8).length = 3 from rfl] at cC
  go_wp2_with fail
  refine (ex_count _).mono ?_
  rintro e w5 ⟨rfl, b5⟩
  have B5 := Lib.hid ((B4.out.alloc B4.out.size (.cells #[.int .u8 195, .int .u8 169, .int .u8 255] 5)).trans (b5.mono (by have := B4.out.size; simp; omega)))
  clear b5 B4 cC
  go_wp2_with fail
  refine (ex_less _).mono ?_
  rintro e w6 ⟨rfl, b6⟩
  have B6 := Lib.hid (B5.out.trans (b6.mono B5.out.size))
  clear b6 B5
  go_wp2_with fail
  refine (ex_more _).mono ?_
  rintro e w7 ⟨rfl, b7⟩
  have B7 := Lib.hid (B6.out.trans (b7.mono B6.out.size))
  clear b7 B6
  go_wp2_with fail
  go_ret
  exact ⟨rfl, B7.out⟩

end Go.Proofs.Ytjpdbdeecglabaa
