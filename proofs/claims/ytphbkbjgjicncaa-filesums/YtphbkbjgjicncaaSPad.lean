/-
  What Pad of the program returns: bytes, and what is put behind them.
-/
import Derived.Test.YtphbkbjgjicncaaSText
import Derived.Deep.RegionHeld3
namespace Go.Proofs.Ytphbkbjgjicncaa.sh
open Go.RowKit

def z8 : List UInt8 := [0, 0, 0, 0, 0, 0, 0, 0]
set_option maxRecDepth 100000 in
theorem z8_zero : row z8 = #[.int .u8 0, .int .u8 0, .int .u8 0, .int .u8 0, .int .u8 0, .int .u8 0, .int .u8 0, .int .u8 0] := rfl
set_option maxRecDepth 100000 in
theorem wrb8 (n : Nat) : wrb 0 8 z8 n = be 8 n := by
  rw [wrb_eq _ _ _ _ (by decide)]
  have : z8.drop (0 + 8) = [] := rfl
  rw [this]; simp
set_option maxRecDepth 100000 in
theorem rep_zero (c : Nat) : Lib.repeatL [0] c = List.replicate c (0 : UInt8) := by
  induction c with
  | zero => rfl
  | succ c ih => show [0] ++ Lib.repeatL [0] c = _; rw [ih]; rfl
set_option maxRecDepth 100000 in
theorem rep_any (c : Nat) (h : c < 64) (w : World) :
    Calls Try.prog 68 #[.string ⟨#[0]⟩, .int .i64 (c : Int)] w fun e w' => e = .returned (.string ⟨(List.replicate c (0 : UInt8)).toArray⟩) ∧ Below w.heap.size w w' := by
  have := Try.strings_Repeat ⟨#[0]⟩ c w (by omega) (by show 1 * c ≤ _; omega)
  rw [show (ByteArray.mk #[0]).data.toList = [0] from rfl, rep_zero] at this
  exact this
set_option maxRecDepth 100000 in
theorem pad_join (s : ByteArray) (n : Nat) (hn : n = s.size) : s ++ ⟨#[128]⟩ ++ ⟨(List.replicate (zer n) (0 : UInt8)).toArray⟩ ++ ⟨(be 8 (n * 8)).toArray⟩ = ⟨(pad s.data.toList).toArray⟩ := by
  subst hn
  apply ByteArray.ext
  rw [ByteArray.data_append, ByteArray.data_append, ByteArray.data_append]
  apply Array.toList_inj.mp
  simp [pad]
set_option maxRecDepth 100000 in
theorem setRow_top1 (w : World) (c c' : Array Value) (t : TypeId) : (w.alloc (.cells c t)).setRow w.heap.size c' = w.alloc (.cells c' t) := World.setRow_alloc_new w c c' t

/-- A row of bytes of the call's own. -/
structure One (w : World) (l : List UInt8) (v : World) : Prop where
  bel : Below w.heap.size w v
  one : v.heap[w.heap.size]? = some (.cells (row l) 97)
set_option maxRecDepth 100000 in
theorem One.conv {w v : World} {l : List UInt8} (h : One w l v) (hl : l.length = 8) : (convert 99 9 (.slice (some ⟨w.heap.size, 0, none⟩) 8 8)).run Try.prog v = .ok (.string ⟨l.toArray⟩) v := conv_row _ _ _ _ _ hl h.one
set_option maxRecDepth 100000 in
theorem One.past {w v v' : World} {l : List UInt8} (h : One w l v) (hb : Below v.heap.size v v') : One w l v' := {
  bel := h.bel.trans (hb.mono h.bel.size)
  one := (hb.block _ (Array.getElem?_eq_some_iff.1 h.one).1).trans h.one }
set_option maxRecDepth 100000 in
theorem rep_in {w : World} {l : List UInt8} (hl : l.length = 8) (c : Nat) (h : c < 64) (v : World) (hv : One w l v) :
    Calls Try.prog 68 #[.string ⟨#[0]⟩, .int .i64 (c : Int)] v fun e v' => e = .returned (.string ⟨(List.replicate c (0 : UInt8)).toArray⟩) ∧ One w l v' ∧ (convert 99 9 (.slice (some ⟨w.heap.size, 0, none⟩) 8 8)).run Try.prog v' = .ok (.string ⟨l.toArray⟩) v' :=
  (rep_any c h v).mono fun _ _ ⟨he, hb⟩ => ⟨he, hv.past hb, (hv.past hb).conv hl⟩

set_option maxRecDepth 100000 in
set_option maxHeartbeats 400000 in
theorem pad_any (s : ByteArray) (hs : s.size ≤ 4000) (w : World) :
    Calls Try.prog 49 #[.string s] w fun e w' => e = .returned (.string ⟨(pad s.data.toList).toArray⟩) ∧ Below w.heap.size w w' := by
  have hj := Lib.hid (pad_join s s.size rfl)
  go_enter Try.func49, Try.ntmps49
  go_wp2_with fail
  rw [← z8_zero, show ((s.size : Int) * 8) = ((s.size * 8 : Nat) : Int) by omega]
  refine (phf_any _ w.heap.size 0 8 _ (s.size * 8) z8 97 ?_ (by decide) (by decide)).mono ?_
  · rw [heap_alloc_if, if_pos rfl]
  rintro e w' ⟨rfl, rfl⟩
  rw [setRow_top1, wrb8]
  go_wp2_with fail
  rw [show ((119 : Int) - (s.size : Int) % 64) % 64 = ((zer s.size : Nat) : Int) by unfold zer; omega]
  have hz : zer s.size < 64 := Nat.mod_lt _ (by decide)
  have h0 : One w (be 8 (s.size * 8)) (w.alloc (.cells (row (be 8 (s.size * 8))) 97)).drew := ⟨((Below.refl _ _).alloc (Nat.le_refl _) _).drew, by show (w.alloc _).heap[_]? = _; rw [heap_alloc_if, if_pos rfl]⟩
  have hc := h0.conv (be_length _ _)
  have hX : (ByteArray.mk (be 8 (s.size * 8)).toArray).size = 8 := by show (be 8 (s.size * 8)).toArray.size = 8; simp [be_length]
  have hR : (ByteArray.mk (List.replicate (zer s.size) (0 : UInt8)).toArray).size = zer s.size := by show (List.replicate (zer s.size) (0 : UInt8)).toArray.size = _; simp
  have hrep := Lib.hid (rep_in (w := w) (l := be 8 (s.size * 8)) (be_length _ _) (zer s.size) hz)
  have hX1 : (ByteArray.mk (be 8 (s.size * 8)).toArray).size ≤ 8 := by omega
  have hR1 : (ByteArray.mk (List.replicate (zer s.size) (0 : UInt8)).toArray).size ≤ 64 := by omega
  have hone := Lib.hid h0
  clear hX hR h0
  revert hj hc hX1 hR1 hrep
  generalize ByteArray.mk (be 8 (s.size * 8)).toArray = X
  generalize ByteArray.mk (List.replicate (zer s.size) (0 : UInt8)).toArray = R
  intro hj hc hrep hX1 hR1
  have c1 : ¬ 9223372036854775807 < s.size + 1 := by omega
  have c2 : ¬ 9223372036854775807 < s.size + 1 + R.size := by omega
  have c3 : ¬ 9223372036854775807 < s.size + 1 + R.size + X.size := by omega
  go_region_held3 (fun w' => (convert 99 9 (.slice (some ⟨w.heap.size, 0, none⟩) 8 8)).run Try.prog w' = .ok (.string X) w')
    (first | exact hc | exact hcR)
    ((go_at_call 68; refine (hrep.out _ hone.out).mono ?_; rintro e vR ⟨rfl, hkR, hcR⟩))
  go_wp2_with fail
  go_ret
  exact ⟨by rw [← hj.out]; rfl, hkR.bel⟩
end Go.Proofs.Ytphbkbjgjicncaa.sh
