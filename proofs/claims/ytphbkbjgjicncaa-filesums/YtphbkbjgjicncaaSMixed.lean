/-
  What mixed of the program returns: what all rounds make of eight words.
-/
import Derived.Test.YtphbkbjgjicncaaSSched
namespace Go.Proofs.Ytphbkbjgjicncaa.sh
open Go.RowKit

def c8 (s : St) : Array Value := #[.int .u32 (V s.a), .int .u32 (V s.b), .int .u32 (V s.c), .int .u32 (V s.d), .int .u32 (V s.e), .int .u32 (V s.f), .int .u32 (V s.g), .int .u32 (V s.h)]
theorem c8_eq (s : St) : ws s.toL = c8 s := rfl
/-- A call that leaves the world alone, in a quiet region behind another one. -/
theorem quiet_more {P : Program} {f : FuncId} {args : Array Value} {w : World} {a n : Nat} {v : Value}
    (h : Calls P f args (w.drewN (a + n)) fun e w' => e = .returned v ∧ w.drewN (a + n) = w') :
    Calls P f args (w.drewN (a + n)) fun e w'' => e = .returned v ∧ ∃ m, w'' = w.drewN (a + m) :=
  h.mono fun _ _ ⟨he, hm⟩ => ⟨he, n, hm.symm⟩

theorem bg1_V (x : BitVec 32) : bits .xor .u32 (bits .xor .u32 (V (rot x 6)) (V (rot x 11))) (V (rot x 25)) = V (bg1 x) := by rw [xorV, xorV]; rfl
theorem bg0_V (x : BitVec 32) : bits .xor .u32 (bits .xor .u32 (V (rot x 2)) (V (rot x 13))) (V (rot x 22)) = V (bg0 x) := by rw [xorV, xorV]; rfl
theorem u32max : IntKind.u32.max = 4294967295 := by decide
theorem notMax (a : BitVec 32) : bits .xor .u32 IntKind.u32.max (V a) = V (~~~a) := by rw [u32max, xor_ones]
theorem chs_V (e f g : BitVec 32) : bits .xor .u32 (bits .and .u32 (V e) (V f)) (bits .and .u32 (bits .xor .u32 IntKind.u32.max (V e)) (V g)) = V (chs e f g) := by
  rw [notMax, andV, andV, xorV]; rfl
theorem maj_V (a b c : BitVec 32) : bits .xor .u32 (bits .xor .u32 (bits .and .u32 (V a) (V b)) (bits .and .u32 (V a) (V c))) (bits .and .u32 (V b) (V c)) = V (maj a b c) := by
  rw [andV, andV, andV, xorV, xorV]; rfl
theorem addV5 (a b c d e : BitVec 32) : (V a + V b + V c + V d + V e) % (4294967296 : Int) = V (a + b + c + d + e) := by
  rw [← addV, ← addV4]; omega
theorem copy_down (W : World) (z : Nat) (t : TypeId) (a b c d e f g h : Int) (hz : W.heap[z]? = some (.cells #[.int .u32 a, .int .u32 b, .int .u32 c, .int .u32 d, .int .u32 e, .int .u32 f, .int .u32 g, .int .u32 h] 70)) :
    (Builtin.copy_ #[102, 102] t #[.slice (some ⟨z, 1, none⟩) 7 7, .slice (some ⟨z, 0, none⟩) 7 8]).run Try.prog W = .ok (.int .i64 7) (W.setRow z #[.int .u32 a, .int .u32 a, .int .u32 b, .int .u32 c, .int .u32 d, .int .u32 e, .int .u32 f, .int .u32 g]) :=
  run_copy_row (P := Try.prog) W 102 102 t 69 z 1 7 7 ⟨z, 0, none⟩ 7 8 _ 70 [.int .u32 a, .int .u32 b, .int .u32 c, .int .u32 d, .int .u32 e, .int .u32 f, .int .u32 g] Try.underlying102 (by kernel_rfl) hz rfl
    (fun j v hv => by
      have e : (⟨z, 0, none⟩ : Addr).add j = ⟨z, j, none⟩ := by unfold Addr.add; split <;> simp_all
      rw [e, cell_of_row W z j _ _ _ hz]
      have hj : j < 7 := (List.getElem?_eq_some_iff.1 hv).1
      obtain rfl | rfl | rfl | rfl | rfl | rfl | rfl : j = 0 ∨ j = 1 ∨ j = 2 ∨ j = 3 ∨ j = 4 ∨ j = 5 ∨ j = 6 := by omega
      all_goals exact hv)
    (Nat.le_refl 8) (by simp [Value.oneCell'])
theorem setRow_past (w : World) (o : Obj) (g : Nat) (c : Array Value) (h : g < w.heap.size) : (w.alloc o).setRow g c = (w.setRow g c).alloc o := by
  simp only [World.setRow, World.alloc]
  congr 1
  apply Array.ext_getElem?
  intro i
  rw [Array.getElem?_modify, Array.getElem?_push, Array.getElem?_push, Array.getElem?_modify]
  by_cases h1 : i = w.heap.size
  · subst h1
    simp; omega
  · simp [h1]
theorem setRow3 (w : World) (n m : Nat) (c c' : Array Value) (B C : Obj) : (((((w.drewN n).alloc (.cells c 70)).alloc B).alloc C).drewN m).setRow w.heap.size c' = (((w.drewN (n + m)).alloc (.cells c' 70)).alloc B).alloc C := by
  rw [drewN_alloc, drewN_alloc, drewN_alloc, World.drewN_drewN, setRow_past _ _ _ _ (by simp; omega), setRow_past _ _ _ _ (by simp)]
  rw [show w.heap.size = (w.drewN (n + m)).heap.size from rfl, World.setRow_alloc_new]
theorem set3 (w : World) (n i : Nat) (v : Value) (c : Array Value) (B C : Obj) : ((((w.drewN n).alloc (.cells c 70)).alloc B).alloc C).setCell ⟨w.heap.size, i, none⟩ v = (((w.drewN n).alloc (.cells (c.setIfInBounds i v) 70)).alloc B).alloc C := by
  rw [World.setCell_alloc_past _ _ _ _ (by simp <;> omega), World.setCell_alloc_past _ _ _ _ (by simp <;> omega), World.setCell_alloc_at _ _ _ _ _ (by simp)]
set_option maxHeartbeats 1000000 in
set_option maxRecDepth 100000 in
theorem mixed_any (s : St) (ks wl : List (BitVec 32)) (kb : Nat) (hkl : ks.length = 64) (hwl : wl.length = 64) (w : World) (hkb : kb < w.heap.size) (hk : w.heap[kb]? = some (.cells (ws ks) 72)) :
    Calls Try.prog 50 #[.agg (c8 s), .pointer (some ⟨kb, 0, none⟩), .agg (ws wl)] w fun e w' => e = .returned (.agg (c8 (mix ks wl s 64))) ∧ Below w.heap.size w w' := by
  have hkc : ∀ j, j < 64 → w.cell? ⟨kb, j, none⟩ = some (.int .u32 (V (ks.getD j 0#32))) := fun j hj => by
    rw [cell_of_row w kb j _ _ _ hk, ws_at _ _ (by omega)]
  have H := Lib.hid (And.intro hkc (And.intro hkl (And.intro hwl hk)))
  clear hkc hkl hwl hk
  have hz : Hid (#[.int .u32 0, .int .u32 0, .int .u32 0, .int .u32 0, .int .u32 0, .int .u32 0, .int .u32 0, .int .u32 0] = ws (List.replicate 8 0#32)) := rfl
  go_enter Try.func50, Try.ntmps50
  go_wp2_with fail
  go_loopw [16] (fun t wr => ∃ k n : Nat, ∃ s' : St, k ≤ 64 ∧ Hid (s' = mix ks wl s k) ∧ t = .int .i64 k ∧ wr = (((w.drewN n).alloc (.cells (c8 s') 70)).alloc (.cells (ws wl) 72)).alloc (.cells #[.int .u32 0, .int .u32 0, .int .u32 0, .int .u32 0, .int .u32 0, .int .u32 0, .int .u32 0, .int .u32 0] 70)) (fun i _ => 64 - (intOf i).toNat)
  case atStart => exact ⟨0, 0, s, by omega, rfl, rfl, rfl⟩
  case round =>
    obtain ⟨k, n, ⟨a, b, c, d, e, f, g, hh⟩, hk64, hs', rfl, rfl⟩ := hrel
    rw [show c8 ⟨a, b, c, d, e, f, g, hh⟩ = #[.int .u32 (V a), .int .u32 (V b), .int .u32 (V c), .int .u32 (V d), .int .u32 (V e), .int .u32 (V f), .int .u32 (V g), .int .u32 (V hh)] from rfl]
    by_cases hlt : k < 64
    · have hb : (k : Int) < 64 := by omega
      have h1 := H.out.1 k hlt
      have h2 := ws_at wl k (by rw [H.out.2.2.1]; exact hlt)
      have hsn : Hid (mix ks wl s (k + 1) = rnd ⟨a, b, c, d, e, f, g, hh⟩ (ks.getD k 0#32) (wl.getD k 0#32)) := by
        show rnd (mix ks wl s k) _ _ = _
        rw [← hs'.out]
      revert h1 h2 hsn
      generalize ks.getD k 0#32 = kk
      generalize wl.getD k 0#32 = wk
      intro h1 h2 hsn
      obtain ⟨W, hW⟩ : ∃ W, (((w.drewN n).alloc (.cells #[.int .u32 (V a), .int .u32 (V b), .int .u32 (V c), .int .u32 (V d), .int .u32 (V e), .int .u32 (V f), .int .u32 (V g), .int .u32 (V hh)] 70)).alloc (.cells (ws wl) 72)).alloc (.cells #[.int .u32 0, .int .u32 0, .int .u32 0, .int .u32 0, .int .u32 0, .int .u32 0, .int .u32 0, .int .u32 0] 70) = W := ⟨_, rfl⟩
      have r0 : W.heap[w.heap.size]? = some (.cells #[.int .u32 (V a), .int .u32 (V b), .int .u32 (V c), .int .u32 (V d), .int .u32 (V e), .int .u32 (V f), .int .u32 (V g), .int .u32 (V hh)] 70) := by
        rw [← hW, heap_alloc_if, if_neg (by simp; omega), heap_alloc_if, if_neg (by simp), heap_alloc_if, if_pos (by simp)]
      have r1 : W.heap[w.heap.size + 1]? = some (.cells (ws wl) 72) := by
        rw [← hW, heap_alloc_if, if_neg (by simp), heap_alloc_if, if_pos (by simp)]
      have r2 : W.heap[kb]? = w.heap[kb]? := by
        rw [← hW, heap_alloc_if, if_neg (by simp; omega), heap_alloc_if, if_neg (by simp; omega), heap_alloc_if, if_neg (by simp; omega)]; rfl
      have q0 : W.cell? ⟨w.heap.size, 0, none⟩ = some (.int .u32 (V a)) := cell_of_row W _ 0 _ _ _ r0
      have q1 : W.cell? ⟨w.heap.size, 1, none⟩ = some (.int .u32 (V b)) := cell_of_row W _ 1 _ _ _ r0
      have q2 : W.cell? ⟨w.heap.size, 2, none⟩ = some (.int .u32 (V c)) := cell_of_row W _ 2 _ _ _ r0
      have q4 : W.cell? ⟨w.heap.size, 4, none⟩ = some (.int .u32 (V e)) := cell_of_row W _ 4 _ _ _ r0
      have q5 : W.cell? ⟨w.heap.size, 5, none⟩ = some (.int .u32 (V f)) := cell_of_row W _ 5 _ _ _ r0
      have q6 : W.cell? ⟨w.heap.size, 6, none⟩ = some (.int .u32 (V g)) := cell_of_row W _ 6 _ _ _ r0
      have q7 : W.cell? ⟨w.heap.size, 7, none⟩ = some (.int .u32 (V hh)) := cell_of_row W _ 7 _ _ _ r0
      have qw : W.cell? ⟨w.heap.size + 1, k, none⟩ = some (.int .u32 (V wk)) := by rw [cell_of_row W _ k _ _ _ r1, h2]
      have qk : W.cell? ⟨kb, k, none⟩ = some (.int .u32 (V kk)) := by rw [World.cell?_of_block (w := w) (a := ⟨kb, k, none⟩) r2]; exact h1
      rw [hW]
      have hW' := Lib.hid (And.intro hW (And.intro r0 (And.intro r1 r2)))
      clear hW r0 r1 r2 h1 h2
      have x1 := bg1_V e
      have x2 := bg0_V a
      have x3 := chs_V e f g
      have x4 := maj_V a b c
      obtain ⟨T1, hT1⟩ : ∃ T1, hh + bg1 e + chs e f g + kk + wk = T1 := ⟨_, rfl⟩
      obtain ⟨T2, hT2⟩ : ∃ T2, bg0 a + maj a b c = T2 := ⟨_, rfl⟩
      have x5 : (V hh + V (bg1 e) + V (chs e f g) + V kk + V wk) % (4294967296 : Int) = V T1 := by rw [← hT1, addV5]
      have x6 : (V (bg0 a) + V (maj a b c)) % (4294967296 : Int) = V T2 := by rw [← hT2, addV]
      have hT := Lib.hid (And.intro hT1 hT2)
      clear hT1 hT2
      have hcp : ∀ m t, (Builtin.copy_ #[102, 102] t #[.slice (some ⟨w.heap.size, 1, none⟩) 7 7, .slice (some ⟨w.heap.size, 0, none⟩) 7 8]).run Try.prog (W.drewN m) = .ok (.int .i64 7) ((W.drewN m).setRow w.heap.size #[.int .u32 (V a), .int .u32 (V a), .int .u32 (V b), .int .u32 (V c), .int .u32 (V d), .int .u32 (V e), .int .u32 (V f), .int .u32 (V g)]) := fun m t =>
        copy_down (W.drewN m) w.heap.size t (V a) (V b) (V c) (V d) (V e) (V f) (V g) (V hh) hW'.out.2.1
      go_wp2_with fail
      go_quiet (fail)
      revert nq
      intro nq1
      go_wp2_with fail
      go_quiet (fail)
      revert nq
      intro nq2
      go_wp2_with fail
      go_quiet (first | (go_at_call_of 69 (Value.int .i64 6); exact quiet_more (right_any e 6 (by decide) (by decide) _)) | (go_at_call_of 69 (Value.int .i64 11); exact quiet_more (right_any e 11 (by decide) (by decide) _)) | (go_at_call_of 69 (Value.int .i64 25); exact quiet_more (right_any e 25 (by decide) (by decide) _)))
      revert nq
      intro nq3
      go_wp2_with fail
      refine (right_any a 2 (by decide) (by decide) _).mono ?_
      rintro ee w' ⟨rfl, rfl⟩
      go_wp2_with fail
      refine (right_any a 13 (by decide) (by decide) _).mono ?_
      rintro ee w' ⟨rfl, rfl⟩
      go_wp2_with fail
      refine (right_any a 22 (by decide) (by decide) _).mono ?_
      rintro ee w' ⟨rfl, rfl⟩
      go_wp2_with fail
      go_region
      rw [← hW'.out.1, setRow3]
      clear hcp q0 q1 q2 q4 q5 q6 q7 qw qk hW'
      have x7 : (V T1 + (V (bg0 a) + V (maj a b c)) % (4294967296 : Int)) % (4294967296 : Int) = V (T1 + T2) := by rw [x6, addV]
      have x8 : (V T1 + (V (bg0 a) + V (maj a b c))) % (4294967296 : Int) = V (T1 + T2) := by rw [← addV, ← x6]; omega
      have x9 := addV d T1
      obtain ⟨M, hM⟩ : ∃ M, M = n + (nq1 + nq2 + nq3 + 1) := ⟨_, rfl⟩
      rw [← hM]
      clear hM
      obtain ⟨W2, hW2⟩ : ∃ W2, W2 = (((w.drewN M).alloc (.cells #[.int .u32 (V a), .int .u32 (V a), .int .u32 (V b), .int .u32 (V c), .int .u32 (V d), .int .u32 (V e), .int .u32 (V f), .int .u32 (V g)] 70)).alloc (.cells (ws wl) 72)).alloc (.cells #[.int .u32 0, .int .u32 0, .int .u32 0, .int .u32 0, .int .u32 0, .int .u32 0, .int .u32 0, .int .u32 0] 70) := ⟨_, rfl⟩
      have r0 : W2.heap[w.heap.size]? = some (.cells #[.int .u32 (V a), .int .u32 (V a), .int .u32 (V b), .int .u32 (V c), .int .u32 (V d), .int .u32 (V e), .int .u32 (V f), .int .u32 (V g)] 70) := by
        rw [hW2, heap_alloc_if, if_neg (by simp; omega), heap_alloc_if, if_neg (by simp), heap_alloc_if, if_pos (by simp)]
      have q0 : W2.cell? ⟨w.heap.size, 0, none⟩ = some (.int .u32 (V a)) := cell_of_row W2 _ 0 _ _ _ r0
      have q4 : W2.cell? ⟨w.heap.size, 4, none⟩ = some (.int .u32 (V d)) := cell_of_row W2 _ 4 _ _ _ r0
      have f0 : W2.frozen? ⟨w.heap.size, 0, none⟩ = false := frozen_of_row W2 _ 0 _ _ r0
      have f4 : W2.frozen? ⟨w.heap.size, 4, none⟩ = false := frozen_of_row W2 _ 4 _ _ r0
      rw [← hW2]
      have hW2' := Lib.hid hW2
      clear hW2 r0
      go_wp2_with fail
      go_roundw
      case rel =>
        refine ⟨k + 1, M, rnd ⟨a, b, c, d, e, f, g, hh⟩ kk wk, by omega, hsn.out.symm, by go_num, ?_⟩
        rw [hW2'.out, addV, set3, set3, ← hT.out.1, ← hT.out.2]
        rfl
      case measure => simp [intOf]; omega
    · obtain rfl : k = 64 := by omega
      rw [show ((64 : Nat) : Int) = 64 from rfl]
      generalize hc : (#[.int .u32 (V a), .int .u32 (V b), .int .u32 (V c), .int .u32 (V d), .int .u32 (V e), .int .u32 (V f), .int .u32 (V g), .int .u32 (V hh)] : Array Value) = C
      have hB0 : ((((w.drewN n).alloc (.cells C 70)).alloc (.cells (ws wl) 72)).alloc (.cells #[.int .u32 0, .int .u32 0, .int .u32 0, .int .u32 0, .int .u32 0, .int .u32 0, .int .u32 0, .int .u32 0] 70)).heap[w.heap.size]? = some (.cells C 70) := by rw [heap_alloc_if, if_neg (by simp; omega), heap_alloc_if, if_neg (by simp), heap_alloc_if, if_pos (by simp)]
      have hB2 : ((((w.drewN n).alloc (.cells C 70)).alloc (.cells (ws wl) 72)).alloc (.cells #[.int .u32 0, .int .u32 0, .int .u32 0, .int .u32 0, .int .u32 0, .int .u32 0, .int .u32 0, .int .u32 0] 70)).heap[w.heap.size + 1 + 1]? = some (.cells #[.int .u32 0, .int .u32 0, .int .u32 0, .int .u32 0, .int .u32 0, .int .u32 0, .int .u32 0, .int .u32 0] 70) := by rw [heap_alloc_if, if_pos (by simp)]
      have hi : (Try.prog.info? 70).map (·.size) = some C.size := by rw [← hc]; kernel_rfl
      have ho : (#[.int .u32 0, .int .u32 0, .int .u32 0, .int .u32 0, .int .u32 0, .int .u32 0, .int .u32 0, .int .u32 0] : Array Value).size = C.size := by rw [← hc]; rfl
      have h1 : C.all (·.oneCell') = true := by rw [← hc]; exact ws_one [a, b, c, d, e, f, g, hh]
      have hC : C = c8 (mix ks wl s 64) := by rw [← hc, ← hs'.out]; rfl
      have HH := Lib.hid (And.intro hi (And.intro ho (And.intro h1 hC)))
      clear hi ho h1 hC hc
      go_wp2_with (first
        | (with_reducible refine wpList_load_row rfl 70 (.tmp 3) rfl _ rfl 70 C _ hB0 Try.underlying70 rfl HH.out.1 ?_)
        | (with_reducible refine wpList_store_row rfl 70 (.tmp 6) (.tmp 94) rfl _ C rfl rfl 70 _ hB2 HH.out.1 HH.out.2.1 HH.out.2.2.1 ?_))
      exact bodyPost_row 6 70 rfl _ rfl 70 C _ (setRow_heap _ _ _ _ _ _ hB2) Try.underlying70 rfl HH.out.1 rfl ⟨by rw [HH.out.2.2.2], below_setRow ((((below_drewN (Below.refl _ _) n).alloc (by simp) _).alloc (by simp) _).alloc (by simp; omega) _) (by omega) _⟩
end Go.Proofs.Ytphbkbjgjicncaa.sh
