/-
  What schedule of the program returns: the 64 words of a block.
-/
import Derived.Test.YtphbkbjgjicncaaSLeafs
import Derived.Test.YtphbkbjgjicncaaSCells
import Derived.Test.YtphbkbjgjicncaaSLaws
import Derived.BigQuiet
import Derived.Deep.QuietTactic
import Derived.RegionTactic
namespace Go.Proofs.Ytphbkbjgjicncaa.sh
open Go.RowKit

def wcells (l : List (BitVec 32)) : Array Value := ws (pz 0#32 64 l)
theorem wcells_zero : wcells [] = #[.int .u32 0, .int .u32 0, .int .u32 0, .int .u32 0, .int .u32 0, .int .u32 0, .int .u32 0, .int .u32 0, .int .u32 0, .int .u32 0, .int .u32 0, .int .u32 0, .int .u32 0, .int .u32 0, .int .u32 0, .int .u32 0, .int .u32 0, .int .u32 0, .int .u32 0, .int .u32 0, .int .u32 0, .int .u32 0, .int .u32 0, .int .u32 0, .int .u32 0, .int .u32 0, .int .u32 0, .int .u32 0, .int .u32 0, .int .u32 0, .int .u32 0, .int .u32 0, .int .u32 0, .int .u32 0, .int .u32 0, .int .u32 0, .int .u32 0, .int .u32 0, .int .u32 0, .int .u32 0, .int .u32 0, .int .u32 0, .int .u32 0, .int .u32 0, .int .u32 0, .int .u32 0, .int .u32 0, .int .u32 0, .int .u32 0, .int .u32 0, .int .u32 0, .int .u32 0, .int .u32 0, .int .u32 0, .int .u32 0, .int .u32 0, .int .u32 0, .int .u32 0, .int .u32 0, .int .u32 0, .int .u32 0, .int .u32 0, .int .u32 0, .int .u32 0] := rfl
theorem wcells_size (l : List (BitVec 32)) (h : l.length ≤ 64) : (wcells l).size = 64 := by
  unfold wcells; rw [ws_size, pz_length _ _ _ h]
theorem wcells_at (l : List (BitVec 32)) (h : l.length ≤ 64) (j : Nat) (hj : j < 64) : (wcells l)[j]? = some (.int .u32 (V (l.getD j 0#32))) := by
  unfold wcells
  rw [ws_at _ _ (by rw [pz_length _ _ _ h]; exact hj), pz_getD]
theorem wcells_set (l : List (BitVec 32)) (t : Nat) (ht : l.length = t) (h : t < 64) (x : BitVec 32) : (wcells l).setIfInBounds t (.int .u32 (V x)) = wcells (l ++ [x]) := by
  subst ht
  unfold wcells; rw [ws_set, pz_set _ _ _ _ h]
theorem wcells_set2 (l : List (BitVec 32)) (t : Nat) (ht : l.length = t) (h : t < 64) (x y : BitVec 32) : (wcells (l ++ [y])).setIfInBounds t (.int .u32 (V x)) = wcells (l ++ [x]) := by
  rw [← wcells_set l t ht h y, Array.setIfInBounds_setIfInBounds, wcells_set l t ht h x]
theorem wcells_snoc (l : List (BitVec 32)) (h : l.length < 64) : wcells (l ++ [0#32]) = wcells l := by
  unfold wcells; rw [pz_zero _ _ _ h]
theorem snoc_at (l : List (BitVec 32)) (t : Nat) (ht : l.length = t) (x : BitVec 32) : (l ++ [x]).getD t 0#32 = x := by
  subst ht
  rw [List.getD_eq_getElem?_getD, List.getElem?_append_right (Nat.le_refl _), Nat.sub_self]; rfl

/-- The bytes of a text, one by one. -/
def gof (s : ByteArray) (i : Nat) : UInt8 := s.data.toList.getD i 0
theorem gof_at (s : ByteArray) (i : Nat) (h : i < s.size) : s[i] = gof s i := by
  unfold gof
  rw [List.getD_eq_getElem?_getD, List.getElem?_eq_getElem (by simpa using h)]; rfl

theorem orByte (x : BitVec 32) (b : UInt8) : bits .or .u32 (V x * 256 % (4294967296 : Int)) ((b.toNat : Int) % 4294967296) = V ((x <<< (8 : Nat)) ||| byte b) := by
  have e : (b.toNat : Int) % 4294967296 = V (byte b) := byteV b
  have e2 := shlV x 8
  rw [e, ← orV, ← e2]; rfl

theorem sm0_V (x : BitVec 32) : bits .xor .u32 (bits .xor .u32 (V (rot x 7)) (V (rot x 18))) (V x / (8 : Int)) = V (sm0 x) := by
  have e := shrV x 3
  rw [xorV, show V x / (8 : Int) = V (x >>> (3 : Nat)) from e, xorV]; rfl
theorem sm1_V (x : BitVec 32) : bits .xor .u32 (bits .xor .u32 (V (rot x 17)) (V (rot x 19))) (V x / (1024 : Int)) = V (sm1 x) := by
  have e := shrV x 10
  rw [xorV, show V x / (1024 : Int) = V (x >>> (10 : Nat)) from e, xorV]; rfl
theorem addV (a b : BitVec 32) : (V a + V b) % (4294967296 : Int) = V (a + b) := by
  unfold V; rw [BitVec.toNat_add]; omega

theorem addV4 (a b c d : BitVec 32) : (V a + V b + V c + V d) % (4294967296 : Int) = V (a + b + c + d) := by
  rw [← addV, ← addV, ← addV]; omega
theorem drewN_alloc (w : World) (o : Obj) (m : Nat) : (w.alloc o).drewN m = (w.drewN m).alloc o := rfl
theorem ws_one (l : List (BitVec 32)) : (ws l).all (·.oneCell') = true := by
  unfold ws; simp [Value.oneCell']

set_option maxHeartbeats 1000000 in
set_option maxRecDepth 100000 in
theorem schedule_any (s : ByteArray) (hs : s.size = 64) (w : World) :
    Calls Try.prog 51 #[.string s] w fun e w' => e = .returned (.agg (ws (sch (gof s) 64))) ∧ Below w.heap.size w w' := by
  have hsz := Lib.hid hs
  clear hs
  go_enter Try.func51, Try.ntmps51
  go_wp2_with fail
  rw [← wcells_zero]
  go_loopw [11] (fun t wr => ∃ k n : Nat, k ≤ 16 ∧ t = .int .i64 k ∧ wr = ((w.drewN n).alloc (.cells (wcells []) 72)).alloc (.cells (wcells (sch (gof s) k)) 72)) (fun i _ => 16 - (intOf i).toNat)
  case atStart => exact ⟨0, 0, by omega, rfl, rfl⟩
  case round =>
    obtain ⟨k, n, hk, rfl, rfl⟩ := hrel
    by_cases hlt : k < 16
    · have hb : (k : Int) < 16 := by omega
      have hl := Lib.hid (sch_length (gof s) k)
      rw [← wcells_snoc (sch (gof s) k) (by rw [hl.out]; omega)]
      go_wp2_with fail
      go_loopw [14] (fun t wr => ∃ i n : Nat, i ≤ 4 ∧ t = .int .i64 i ∧ wr = ((w.drewN n).alloc (.cells (wcells []) 72)).alloc (.cells (wcells (sch (gof s) k ++ [bwp (gof s) k i])) 72)) (fun i _ => 4 - (intOf i).toNat)
      case atStart => exact ⟨0, n, by omega, rfl, rfl⟩
      case round =>
        obtain ⟨i, n, hi, rfl, rfl⟩ := hrel
        by_cases hlt2 : i < 4
        · have hb2 : (i : Int) < 4 := by omega
          have h1 := wcells_at (sch (gof s) k ++ [bwp (gof s) k i]) (by simp [hl.out]; omega) k (by omega)
          rw [snoc_at _ _ hl.out] at h1
          have h2 : 4 * k + i < s.size := by rw [hsz.out]; omega
          have h3 := gof_at s (4 * k + i) h2
          have h4 : (k : Int) < 64 := by omega
          have h5 : 4 * (k : Int) + (i : Int) < (s.size : Int) := by omega
          have h6 : (4 * (k : Int) + (i : Int)).toNat = 4 * k + i := by omega
          go_wp2_with fail
          have h7 := orByte (bwp (gof s) k i) (gof s (4 * k + i))
          have h8 := Lib.hid (wcells_set2 (sch (gof s) k) k hl.out (by omega) (bwp (gof s) k (i + 1)) (bwp (gof s) k i))
          go_region
          go_wp2_with fail
          go_roundw
          case rel => exact ⟨i + 1, n + 1, by omega, by go_num, by rw [← h8.out]; rfl⟩
          case measure => simp [intOf]; omega
        · obtain rfl : i = 4 := by omega
          have h9 : Hid (sch (gof s) (k + 1) = sch (gof s) k ++ [bwp (gof s) k 4]) := by
            show _ = _
            rw [show sch (gof s) (k + 1) = sch (gof s) k ++ [if k < 16 then bwp (gof s) k 4 else nxt (sch (gof s) k)] from rfl, if_pos hlt]
          go_wp2_with fail
          go_roundw
          case rel => exact ⟨k + 1, n, by omega, by go_num, by rw [h9.out]⟩
          case measure => simp [intOf]; omega
    · obtain rfl : k = 16 := by omega
      rw [show ((16 : Nat) : Int) = 16 from rfl]
      go_wp2_with fail
      go_loopw [6] (fun t wr => ∃ t' n : Nat, 16 ≤ t' ∧ t' ≤ 64 ∧ t = .int .i64 t' ∧ wr = ((w.drewN n).alloc (.cells (wcells []) 72)).alloc (.cells (wcells (sch (gof s) t')) 72)) (fun i _ => 64 - (intOf i).toNat)
      case atStart => exact ⟨16, n, by omega, by omega, rfl, rfl⟩
      case round =>
        obtain ⟨t, n, ht1, ht2, rfl, rfl⟩ := hrel
        by_cases hlt3 : t < 64
        · have hb : (t : Int) < 64 := by omega
          have hl := Lib.hid (sch_length (gof s) t)
          have a15 := wcells_at (sch (gof s) t) (by rw [hl.out]; omega) (t - 15) (by omega)
          have a2 := wcells_at (sch (gof s) t) (by rw [hl.out]; omega) (t - 2) (by omega)
          have a7 := wcells_at (sch (gof s) t) (by rw [hl.out]; omega) (t - 7) (by omega)
          have a16 := wcells_at (sch (gof s) t) (by rw [hl.out]; omega) (t - 16) (by omega)
          have at' := wcells_at (sch (gof s) t) (by rw [hl.out]; omega) t (by omega)
          have e15 : ((t : Int) - 15).toNat = t - 15 := by omega
          have e2 : ((t : Int) - 2).toNat = t - 2 := by omega
          have e7 : ((t : Int) - 7).toNat = t - 7 := by omega
          have e16 : ((t : Int) - 16).toNat = t - 16 := by omega
          have hnx : nxt (sch (gof s) t) = sm1 ((sch (gof s) t).getD (t - 2) 0#32) + (sch (gof s) t).getD (t - 7) 0#32 + sm0 ((sch (gof s) t).getD (t - 15) 0#32) + (sch (gof s) t).getD (t - 16) 0#32 := by
            unfold nxt; rw [hl.out]
          have hsch : Hid (sch (gof s) (t + 1) = sch (gof s) t ++ [nxt (sch (gof s) t)]) := by
            show _ = _
            rw [show sch (gof s) (t + 1) = sch (gof s) t ++ [if t < 16 then bwp (gof s) t 4 else nxt (sch (gof s) t)] from rfl, if_neg (by omega)]
          have hset := Lib.hid (wcells_set (sch (gof s) t) t hl.out (by omega) (nxt (sch (gof s) t)))
          revert a15 a2 a7 a16 hnx
          generalize (sch (gof s) t).getD (t - 15) 0#32 = x
          generalize (sch (gof s) t).getD (t - 2) 0#32 = y
          generalize (sch (gof s) t).getD (t - 7) 0#32 = z
          generalize (sch (gof s) t).getD (t - 16) 0#32 = u
          intro a15 a2 a7 a16 hnx
          have hnx' := Lib.hid hnx
          clear hnx
          have hs0 := sm0_V x
          have hs1 := sm1_V y
          go_wp2_with fail
          go_quiet (fail)
          go_wp2_with fail
          refine (right_any x 7 (by decide) (by decide) _).mono ?_
          rintro e w' ⟨rfl, rfl⟩
          go_wp2_with fail
          refine (right_any x 18 (by decide) (by decide) _).mono ?_
          rintro e w' ⟨rfl, rfl⟩
          go_wp2_with fail
          refine (right_any y 17 (by decide) (by decide) _).mono ?_
          rintro e w' ⟨rfl, rfl⟩
          go_wp2_with fail
          refine (right_any y 19 (by decide) (by decide) _).mono ?_
          rintro e w' ⟨rfl, rfl⟩
          go_wp2_with fail
          go_region
          go_wp2_with fail
          go_roundw
          case rel => 
            refine ⟨t + 1, n + nq + 1, by omega, by omega, by go_num, ?_⟩
            rw [hsch.out, ← hset.out, hnx'.out]
            rw [drewN_alloc, drewN_alloc, World.drewN_drewN, World.setCell_alloc_at _ _ _ _ _ (by simp), addV4]
            rfl
          case measure => simp [intOf]; omega
        · obtain rfl : t = 64 := by omega
          have hB0 : (((w.drewN n).alloc (.cells (wcells []) 72)).alloc (.cells (wcells (sch (gof s) 64)) 72)).heap[w.heap.size]? = some (.cells (wcells []) 72) := by rw [heap_alloc_if, if_neg (by simp), heap_alloc_if, if_pos (by simp)]
          have hB1 : (((w.drewN n).alloc (.cells (wcells []) 72)).alloc (.cells (wcells (sch (gof s) 64)) 72)).heap[w.heap.size + 1]? = some (.cells (wcells (sch (gof s) 64)) 72) := by rw [heap_alloc_if, if_pos (by simp)]
          have hl : (wcells (sch (gof s) 64)).size = 64 := wcells_size _ (by rw [sch_length]; omega)
          have hi : (Try.prog.info? 72).map (·.size) = some (wcells (sch (gof s) 64)).size := by rw [hl]; kernel_rfl
          have ho : (wcells []).size = (wcells (sch (gof s) 64)).size := by rw [hl]; rfl
          have h1 : (wcells (sch (gof s) 64)).all (·.oneCell') = true := ws_one _
          have hf : wcells (sch (gof s) 64) = ws (sch (gof s) 64) := by unfold wcells; rw [pz_full _ _ _ (sch_length _ _)]
          have H := Lib.hid (And.intro hi (And.intro ho (And.intro h1 hf)))
          clear hl hi ho h1 hf
          go_wp2_with (first
            | (with_reducible refine wpList_load_row rfl 72 (.tmp 3) rfl _ rfl 72 (wcells (sch (gof s) 64)) _ hB1 Try.underlying72 rfl H.out.1 ?_)
            | (with_reducible refine wpList_store_row rfl 72 (.tmp 2) (.tmp 76) rfl _ (wcells (sch (gof s) 64)) rfl rfl 72 (wcells []) hB0 H.out.1 H.out.2.1 H.out.2.2.1 ?_))
          exact bodyPost_row 2 72 rfl _ rfl 72 (wcells (sch (gof s) 64)) _ (setRow_heap _ _ _ _ _ _ hB0) Try.underlying72 rfl H.out.1 rfl ⟨by rw [H.out.2.2.2], below_setRow (((below_drewN (Below.refl _ _) n).alloc (by simp) _).alloc (by simp) _) (Nat.le_refl _) _⟩
end Go.Proofs.Ytphbkbjgjicncaa.sh
