/-
  What putHighestFirst, joined and Text of the program return.
-/
import Derived.Test.YtphbkbjgjicncaaSLeafs
import Derived.Test.YtphbkbjgjicncaaSCells
import Derived.Test.YtphbkbjgjicncaaSLaws
namespace Go.Proofs.Ytphbkbjgjicncaa.sh
open Go.RowKit

/-- So many bytes of a number laid over a row, the last one first. -/
def wrb (off : Nat) : Nat → List UInt8 → Nat → List UInt8
  | 0, l, _ => l
  | L + 1, l, n => wrb off L (l.set (off + L) (UInt8.ofNat (n % 256))) (n / 256)
theorem wrb_eq (off L n : Nat) (l : List UInt8) (h : off + L ≤ l.length) : wrb off L l n = l.take off ++ (be L n ++ l.drop (off + L)) := by
  induction L generalizing l n with
  | zero => simp [wrb, be]
  | succ L ih =>
    rw [wrb, ih _ _ (by simp; omega)]
    have e1 : (l.set (off + L) (UInt8.ofNat (n % 256))).take off = l.take off := by
      rw [List.take_set_of_le (by omega)]
    have e2 : (l.set (off + L) (UInt8.ofNat (n % 256))).drop (off + L) = UInt8.ofNat (n % 256) :: l.drop (off + L + 1) := by
      rw [List.drop_eq_getElem_cons (by simp; omega), List.getElem_set_self, List.drop_set_of_lt (by omega)]
    rw [e1, e2]
    simp [be, Nat.add_assoc]
theorem wrb_length (off L n : Nat) (l : List UInt8) : (wrb off L l n).length = l.length := by
  induction L generalizing l n with
  | zero => rfl
  | succ L ih => rw [wrb, ih]; simp
theorem low8 (n : Nat) : (n : Int) % 256 = ((UInt8.ofNat (n % 256)).toNat : Int) := by
  rw [UInt8.toNat_ofNat']; omega
theorem frozen_row {w : World} {z : Nat} {c : Array Value} {t : TypeId} (h : w.heap[z]? = some (.cells c t)) (j : Nat) : w.frozen? ⟨z, j, none⟩ = false := frozen_of_row w z j c t h

set_option maxHeartbeats 400000 in
theorem phf_any (w : World) (z off L cap n : Nat) (l : List UInt8) (t : TypeId) (hz : w.heap[z]? = some (.cells (row l) t)) (hl : off + L ≤ l.length) (hL : L ≤ 8) :
    Calls Try.prog 67 #[.slice (some ⟨z, off, none⟩) L cap, .int .u64 (n : Int)] w fun e w' => e = .returned (.tuple #[]) ∧ w' = w.setRow z (row (wrb off L l n)) := by
  have hz' := Lib.hid hz
  clear hz
  go_enter Try.func67, Try.ntmps67
  go_wp2_with fail
  go_loopw [1, 4] (fun nn i wr => ∃ (j m : Nat) (l' : List UInt8), j ≤ L ∧ l'.length = l.length ∧ Hid (wrb off j l' m = wrb off L l n) ∧ nn = .int .u64 (m : Int) ∧ i = .int .i64 ((j : Int) - 1) ∧ Hid (wr = w.setRow z (row l'))) (fun _ i _ => (intOf i + 1).toNat)
  case atStart => exact ⟨L, n, l, by omega, rfl, rfl, rfl, rfl, (setRow_self _ _ _ _ _ hz'.out).symm⟩
  case round =>
    obtain ⟨j, m, l', hj, hll, hw, rfl, rfl, hwr⟩ := hrel
    rename_i wr
    cases j with
    | zero =>
      rw [show ((0 : Nat) : Int) - 1 = -1 from rfl]
      go_wp2_with fail
      go_end0
      exact ⟨rfl, hwr.out.trans (by rw [← hw.out]; rfl)⟩
    | succ j =>
      have e : ((j + 1 : Nat) : Int) - 1 = (j : Int) := by omega
      rw [e]
      have hg : wr.heap[z]? = some (.cells (row l') t) := by rw [hwr.out]; exact setRow_heap _ _ _ _ _ _ hz'.out
      have hc : wr.cell? ⟨z, off + j, none⟩ = some (.int .u8 ((l'.getD (off + j) 0).toNat : Int)) := by
        rw [cell_of_row wr z _ _ _ _ hg, row_at _ _ (by omega)]
      have hf := frozen_row hg (off + j)
      have hlt : (j : Int) < (L : Int) := by omega
      have hb := low8 m
      obtain ⟨b, hB⟩ : ∃ b, UInt8.ofNat (m % 256) = b := ⟨_, rfl⟩
      rw [hB] at hb
      have hB' := Lib.hid hB
      have hg' := Lib.hid hg
      have hll' := Lib.hid hll
      clear hg hll e hB
      go_wp2_with fail
      go_roundw
      case rel =>
        refine ⟨j, m / 256, l'.set (off + j) (UInt8.ofNat (m % 256)), by omega, by simp [hll'.out], hw, by go_num, rfl, ?_⟩
        show _ = _
        rw [setCell_eq_setRow _ _ _ _ _ _ _ hg'.out, row_set, hwr.out, setRow_setRow, hB'.out]
      case measure => simp [intOf]

theorem bytesOf_length (l : List (BitVec 32)) : (bytesOf l).length = 4 * l.length := by
  induction l with
  | nil => rfl
  | cons x l ih =>
    show (be 4 x.toNat ++ bytesOf l).length = _
    simp [ih, be_length]; omega
theorem bytesOf_snoc (l : List (BitVec 32)) (x : BitVec 32) : bytesOf (l ++ [x]) = bytesOf l ++ be 4 x.toNat := by
  simp [bytesOf]
/-- The digest, as far as it is there. -/
def jl (l : List (BitVec 32)) (k : Nat) : List UInt8 := pz 0 32 (bytesOf (l.take k))
def jcells (l : List (BitVec 32)) (k : Nat) : Array Value := row (jl l k)
theorem jcells_zero (l : List (BitVec 32)) : jcells l 0 = #[.int .u8 0, .int .u8 0, .int .u8 0, .int .u8 0, .int .u8 0, .int .u8 0, .int .u8 0, .int .u8 0, .int .u8 0, .int .u8 0, .int .u8 0, .int .u8 0, .int .u8 0, .int .u8 0, .int .u8 0, .int .u8 0, .int .u8 0, .int .u8 0, .int .u8 0, .int .u8 0, .int .u8 0, .int .u8 0, .int .u8 0, .int .u8 0, .int .u8 0, .int .u8 0, .int .u8 0, .int .u8 0, .int .u8 0, .int .u8 0, .int .u8 0, .int .u8 0] := rfl
theorem jl_len (l : List (BitVec 32)) (h : l.length = 8) (k : Nat) (hk : k ≤ 8) : (jl l k).length = 32 := by
  unfold jl; rw [pz_length]; rw [bytesOf_length]; simp; omega
theorem jl_step (l : List (BitVec 32)) (h : l.length = 8) (k : Nat) (hk : k < 8) : wrb (4 * k) 4 (jl l k) (l.getD k 0#32).toNat = jl l (k + 1) := by
  rw [wrb_eq _ _ _ _ (by rw [jl_len l h k (by omega)]; omega)]
  have hb : (bytesOf (l.take k)).length = 4 * k := by rw [bytesOf_length]; simp; omega
  unfold jl
  rw [take_snocD 0#32 _ _ (by omega), bytesOf_snoc]
  have he := be_length 4 (l.getD k 0#32).toNat
  generalize bytesOf (l.take k) = B at hb ⊢
  generalize be 4 (l.getD k 0#32).toNat = E at he ⊢
  unfold pz
  rw [List.take_append_of_le_length (by omega), List.take_of_length_le (by omega), List.drop_append, List.drop_eq_nil_of_le (by omega), List.drop_replicate, List.append_assoc, List.nil_append, hb]
  congr 3
  simp; omega

theorem slice_at (k : Nat) (h : k < 8) (b : Nat) (w : World) : (Instr.sliceAt 31 (.pointer (some ⟨b, 0, none⟩)) (some (.int .i64 (4 * (k : Int)))) (some (.int .i64 (4 * (k : Int) + 4))) none).run Try.prog w = .ok (.slice (some ⟨b, 4 * k, none⟩) 4 (32 - 4 * k)) w := by
  have ht : Try.prog.underlying 31 = some (.array (Try.prog.arrayLen 31) (Try.prog.elem 31)) := by kernel_rfl
  have e1 : Try.prog.elem 31 = 5 := by kernel_rfl
  have e2 : Try.prog.arrayLen 31 = 32 := by kernel_rfl
  rw [run_sliceAt_array_lh (P := Try.prog) w 31 ⟨b, 0, none⟩ ht .i64 .i64 _ _ (by omega) (by omega) (by rw [e2]; omega), e1, e2, Try.sizeOf5]
  simp only [Result.andThen_ok, slicedAt]
  rw [if_neg (by omega), show (4 * (k : Int)).toNat = 4 * k by omega, show (4 * (k : Int) + 4).toNat = 4 * k + 4 by omega, show (4 * k + 4 - 4 * k) = 4 by omega]
  have e : (⟨b, 0, none⟩ : Addr).add (4 * k * 1) = ⟨b, 4 * k, none⟩ := by unfold Addr.add; split <;> simp_all
  rw [e]

theorem wrapV (x : BitVec 32) : IntKind.u64.wrap (V x) = (x.toNat : Int) := by
  have := x.isLt
  rw [IntKind.wrap_u64]; unfold V; omega
theorem row_one (l : List UInt8) : (row l).all (·.oneCell') = true := by
  unfold row; simp [Value.oneCell']
theorem setRow_top3 (w : World) (A B : Obj) (c c' : Array Value) (t : TypeId) : (((w.alloc A).alloc B).alloc (.cells c t)).setRow (w.heap.size + 1 + 1) c' = ((w.alloc A).alloc B).alloc (.cells c' t) := by
  have := World.setRow_alloc_new ((w.alloc A).alloc B) c c' t
  rw [show ((w.alloc A).alloc B).heap.size = w.heap.size + 1 + 1 by simp] at this
  exact this

set_option maxHeartbeats 400000 in
set_option maxRecDepth 100000 in
theorem joined_any (l : List (BitVec 32)) (hl : l.length = 8) (w : World) :
    Calls Try.prog 52 #[.agg (ws l)] w fun e w' => e = .returned (.agg (row (bytesOf l))) ∧ Below w.heap.size w w' := by
  have hl' := Lib.hid hl
  clear hl
  have hi0 : Hid ((Try.prog.info? 70).map (·.size) = some (ws l).size) := by show _ = _; rw [ws_size, hl'.out]; kernel_rfl
  go_enter Try.func52, Try.ntmps52
  go_wp2_with (with_reducible refine wpList_load_row rfl 70 (.tmp 1) rfl _ rfl 70 (ws l) _ ?hB Try.underlying70 rfl hi0.out ?_)
  case hB => rw [heap_alloc_if, if_neg (by simp; omega), heap_alloc_if, if_neg (by simp), heap_alloc_if, if_pos rfl]
  rw [← jcells_zero l]
  go_loopw [7] (fun i wr => ∃ k : Nat, k ≤ 8 ∧ i = .int .i64 k ∧ wr = ((w.alloc (.cells (ws l) 70)).alloc (.cells (jcells l 0) 31)).alloc (.cells (jcells l k) 31)) (fun i _ => 8 - (intOf i).toNat)
  case atStart => exact ⟨0, by omega, rfl, rfl⟩
  case round =>
    obtain ⟨k, hk, rfl, rfl⟩ := hrel
    by_cases hlt : k < 8
    · have hb : (k : Int) < 8 := by omega
      have h1 := fun v => run_index_row (P := Try.prog) 70 69 8 (ws l) k _ Try.underlying70 Try.isAgg69 Try.sizeOf69 hlt (ws_at l k (by rw [hl'.out]; exact hlt)) v
      have h2 := fun v => slice_at k hlt (w.heap.size + 1 + 1) v
      have h3 := Lib.hid (jl_step l hl'.out k hlt)
      have h4 := Lib.hid (jl_len l hl'.out k hk)
      have h5 := wrapV (l.getD k 0#32)
      revert h1 h3 h5
      generalize l.getD k 0#32 = x
      intro h1 h3 h5
      go_wp2_with fail
      refine (phf_any _ (w.heap.size + 1 + 1) (4 * k) 4 _ x.toNat (jl l k) 31 ?_ (by rw [h4.out]; omega) (by decide)).mono ?_
      · rw [heap_alloc_if, if_pos (by simp)]; rfl
      rintro e w' ⟨rfl, rfl⟩
      rw [setRow_top3, h3.out]
      go_wp2_with fail
      go_roundw
      case rel => exact ⟨k + 1, by omega, by go_num, rfl⟩
      case measure => simp [intOf]; omega
    · obtain rfl : k = 8 := by omega
      have hB1 : (((w.alloc (.cells (ws l) 70)).alloc (.cells (jcells l 0) 31)).alloc (.cells (jcells l 8) 31)).heap[w.heap.size + 1]? = some (.cells (jcells l 0) 31) := by rw [heap_alloc_if, if_neg (by simp), heap_alloc_if, if_pos (by simp)]
      have hB2 : (((w.alloc (.cells (ws l) 70)).alloc (.cells (jcells l 0) 31)).alloc (.cells (jcells l 8) 31)).heap[w.heap.size + 1 + 1]? = some (.cells (jcells l 8) 31) := by rw [heap_alloc_if, if_pos (by simp)]
      have hs : (jcells l 8).size = 32 := by unfold jcells; rw [row_size, jl_len l hl'.out 8 (by omega)]
      have hi : (Try.prog.info? 31).map (·.size) = some (jcells l 8).size := by rw [hs]; kernel_rfl
      have ho : (jcells l 0).size = (jcells l 8).size := by rw [hs]; rfl
      have h1 : (jcells l 8).all (·.oneCell') = true := row_one _
      have hf : jcells l 8 = row (bytesOf l) := by
        unfold jcells jl
        rw [List.take_of_length_le (by rw [hl'.out]; omega), pz_full _ _ _ (by rw [bytesOf_length, hl'.out])]
      have H := Lib.hid (And.intro hi (And.intro ho (And.intro h1 hf)))
      clear hs hi ho h1 hf
      go_wp2_with (first
        | (with_reducible refine wpList_load_row rfl 31 (.tmp 3) rfl _ rfl 31 (jcells l 8) _ hB2 Try.underlying31 rfl H.out.1 ?_)
        | (with_reducible refine wpList_store_row rfl 31 (.tmp 2) (.tmp 21) rfl _ (jcells l 8) rfl rfl 31 (jcells l 0) hB1 H.out.1 H.out.2.1 H.out.2.2.1 ?_))
      exact bodyPost_row 2 31 rfl _ rfl 31 (jcells l 8) _ (setRow_heap _ _ _ _ _ _ hB1) Try.underlying31 rfl H.out.1 rfl ⟨by rw [H.out.2.2.2], below_setRow (by go_grown) (by simp) _⟩
end Go.Proofs.Ytphbkbjgjicncaa.sh
