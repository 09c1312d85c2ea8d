/-
  What Num, check and Bytes of the reference return.
-/
import Derived.Test.YtfilolmbppjbjaaGreatGwire
import Derived.Lib.Strings
import Derived.Deep.AppendLies
namespace Go.Proofs.YtfilolmbppjbjaaGreat
open Go.RowKit

theorem own_baseR {w : World} {B : Nat} {e : TypeId} {v : Value} {n : Nat} {xs : List Value} (h : w.ownsRow B e 1 v n xs) : ∀ k, v.ownBlock = some k → B ≤ k := by
  intro k hk
  rcases h.2 with ⟨rfl, _⟩ | ⟨g, cap, cur, rfl, hB, _⟩
  · cases hk
  · have : g = k := Option.some.inj hk
    omega
theorem one_new (w : World) (v : Value) (e : TypeId) (j : Nat) (u : Value) (h : [v][j]? = some u) : (w.alloc (.cells #[v] e)).cell? ((⟨w.heap.size, 0, none⟩ : Addr).add j) = some u := by
  have e1 : (⟨w.heap.size, 0, none⟩ : Addr).add j = ⟨w.heap.size, j, none⟩ := by unfold Addr.add; split <;> simp_all
  have hg : (w.alloc (.cells #[v] e)).heap[w.heap.size]? = some (.cells #[v] e) := by
    show (w.heap.push _)[w.heap.size]? = _
    simp
  rw [e1, cell_of_row _ _ _ _ _ _ hg]
  rw [← h]; simp
theorem conv_own {w : World} {B : Nat} {v : Value} {acc : List UInt8} (h : w.ownsRow B 5 1 v acc.length (Lib.byteCells acc)) : (convert 64 9 v).run Tryz.prog w = .ok (.string ⟨acc.toArray⟩) w := by
  rcases h.2 with ⟨rfl, h0⟩ | ⟨g, cap, cur, rfl, hB, hg, hn, hc, hs, ht⟩
  · obtain rfl := List.length_eq_zero_iff.mp h0
    rw [run_convert_bytes_string w 64 9 5 none 0 0 Tryz.underlying64 Tryz.underlying5 Tryz.underlying9]
    rfl
  · refine run_convert_bytes_back (P := Tryz.prog) w 64 9 5 ⟨g, 0, none⟩ cap acc Tryz.underlying64 Tryz.underlying5 Tryz.underlying9 (fun j hj => ?_)
    have e : (⟨g, 0, none⟩ : Addr).add j = ⟨g, j, none⟩ := by unfold Addr.add; split <;> simp_all
    rw [e, Lib.cell_of_heap hg]
    show cur[j]? = _
    rw [Nat.mul_one] at ht
    have e : cur.toList[j]? = (Lib.byteCells acc)[j]? := by
      rw [← ht, List.getElem?_take, if_pos hj]
    rw [← Array.getElem?_toList, e]
    simp [Lib.byteCells, hj]
/-- A row of bytes that grows, of the call's own. -/
structure UW (w : World) (v : Value) (acc : List UInt8) (u : World) : Prop where
  own : u.ownsRow w.heap.size 5 1 v acc.length (Lib.byteCells acc)
  bel : Below w.heap.size w u
theorem UW.start (w : World) : UW w (.slice none 0 0) [] w := ⟨World.ownsRow_nil w w.heap.size 5 1, Below.refl _ _⟩
theorem UW.put {w u u' : World} {v v' : Value} {acc : List UInt8} {x : UInt8} {o : Obj} (h : UW w v acc u) (o1 : u'.ownsRow w.heap.size 5 1 v' (acc.length + 1) (Lib.byteCells acc ++ [.int .u8 (x.toNat : Int)])) (g1 : (u.alloc o).grownBy u' v.ownBlock) : UW w v' (acc ++ [x]) u' := {
  own := by rw [Lib.byteCells_append, List.length_append]; exact o1
  bel := (h.bel.alloc h.bel.size o).grown g1 (Nat.le_trans h.bel.size (by simp)) (own_baseR h.own) }

theorem rem128 (m : Nat) : ((m : Int) % 128 + 128) = ((UInt8.ofNat (m % 128 + 128)).toNat : Int) := by
  rw [ofNat_toNat _ (by omega)]; omega

set_option maxHeartbeats 2000000 in
theorem rnum_core (n : Int) (M : Nat) (hM : M ≤ 1125899906842624) (t : (n < 0 ∧ M = 0) ∨ (1125899906842624 < n ∧ M = 1125899906842624) ∨ (n = (M : Int))) (w : World) :
    Calls Tryz.prog 43 #[.int .i64 n] w fun e w' => e = .returned (.string (mk (num M))) ∧ Below w.heap.size w w' := by
  have hS := Lib.hid (At.start (M := M) hM)
  obtain ⟨i, hi, hz0, hz1, hz2⟩ := info5'
  have H := Lib.hid (And.intro hi (And.intro hz0 (And.intro hz1 hz2)))
  clear hi hz0 hz1 hz2
  rcases t with ⟨t0, hm0⟩ | ⟨t0, hm0⟩ | t0
  · have hm := Lib.hid hm0
    have t1 : decide (n < 0) = true := by simp; omega
    clear hm0 hM
    go_enter Tryz.func43, Tryz.ntmps43
    go_wp2_with fail
    go_loopw [0, 3] (fun a v wr => ∃ (k m : Nat) (p : List UInt8), a = .int .i64 (m : Int) ∧ Hid (At M k m p) ∧ Hid (UW w v p wr)) (fun a _ _ => (intOf a).toNat)
    case atStart => exact ⟨0, M, [], by rw [hm.out]; rfl, hS.out, UW.start w⟩
    case round =>
      obtain ⟨k, m, p, rfl, hA, hU⟩ := hrel
      have hmb : m ≤ 1125899906842624 := hA.out.mle
      have hk7 : k ≤ 7 := hA.out.kle
      have hlen := Lib.hid hA.out.len
      have hsize := hU.out.bel.size
      have hb1 : p.length + 1 ≤ maxLen := by rw [hlen.out]; unfold maxLen; omega
      have hb2 : (p.length + 1) * 1 ≤ 140737488355328 := by rw [hlen.out]; omega
      by_cases hm : 128 ≤ m
      · have t3 : decide ((128 : Int) ≤ (m : Int)) = true := by simp; omega
        have hN := Lib.hid (hA.out.next hm)
        have hr := rem128 m
        have hxl := (UInt8.ofNat (m % 128 + 128)).toNat_lt
        revert hN hr hxl
        generalize UInt8.ofNat (m % 128 + 128) = x
        intro hN hr hxl
        go_wp2_with (first
          | (at_builtin; refine wpList_append_own _ rfl (.tmp 9) (.tmp 14) 64 rfl w.heap.size 5 i (.int .u8 0) 1 1 Tryz.underlying64 H.out.1 H.out.2.1 H.out.2.2.1 H.out.2.2.2 rfl (by decide) _ _ _ rfl (hU.out.own.alloc _) _ 1 1 [.int .u8 (x.toNat : Int)] rfl rfl (one_new _ _ _) (by simp [Value.oneCell']) hb1 hb2 (Nat.le_trans hsize (by simp)) ?_)
          | fail)
        intro v' w' o1 g1 _
        have hU2 := Lib.hid (hU.out.put o1 g1)
        clear o1 g1
        go_wp2_with fail
        go_roundw
        case rel => exact ⟨k + 1, m / 128, p ++ [x], by go_num, hN.out, hU2.out⟩
        case measure => simp [intOf]; omega
      · have t3 : decide ((128 : Int) ≤ (m : Int)) = false := by simp; omega
        have hN := Lib.hid (hA.out.done (by omega))
        have hr : (m : Int) = ((UInt8.ofNat m).toNat : Int) := by rw [ofNat_toNat _ (by omega)]
        have hxl := (UInt8.ofNat m).toNat_lt
        revert hN hr hxl
        generalize UInt8.ofNat m = x
        intro hN hr hxl
        obtain rfl : m = x.toNat := by omega
        go_wp2_with (first
          | (at_builtin; refine wpList_append_own _ rfl (.tmp 18) (.tmp 21) 64 rfl w.heap.size 5 i (.int .u8 0) 1 1 Tryz.underlying64 H.out.1 H.out.2.1 H.out.2.2.1 H.out.2.2.2 rfl (by decide) _ _ _ rfl (hU.out.own.alloc _) _ 1 1 [.int .u8 (x.toNat : Int)] rfl rfl (one_new _ _ _) (by simp [Value.oneCell']) hb1 hb2 (Nat.le_trans hsize (by simp)) ?_)
          | fail)
        intro v' w' o1 g1 _
        have hU2 := Lib.hid (hU.out.put o1 g1)
        have hcv := conv_own hU2.out.own
        rw [← hN.out] at hcv
        clear o1 g1
        go_wp2_with fail
        go_ret
        exact ⟨rfl, hU2.out.bel⟩
  · have hm := Lib.hid hm0
    have t1 : decide (n < 0) = false := by simp; omega
    have t2 : decide (n > 1125899906842624) = true := by simp; omega
    clear hm0 hM
    go_enter Tryz.func43, Tryz.ntmps43
    go_wp2_with fail
    go_loopw [0, 3] (fun a v wr => ∃ (k m : Nat) (p : List UInt8), a = .int .i64 (m : Int) ∧ Hid (At M k m p) ∧ Hid (UW w v p wr)) (fun a _ _ => (intOf a).toNat)
    case atStart => exact ⟨0, M, [], by rw [hm.out]; rfl, hS.out, UW.start w⟩
    case round =>
      obtain ⟨k, m, p, rfl, hA, hU⟩ := hrel
      have hmb : m ≤ 1125899906842624 := hA.out.mle
      have hk7 : k ≤ 7 := hA.out.kle
      have hlen := Lib.hid hA.out.len
      have hsize := hU.out.bel.size
      have hb1 : p.length + 1 ≤ maxLen := by rw [hlen.out]; unfold maxLen; omega
      have hb2 : (p.length + 1) * 1 ≤ 140737488355328 := by rw [hlen.out]; omega
      by_cases hm : 128 ≤ m
      · have t3 : decide ((128 : Int) ≤ (m : Int)) = true := by simp; omega
        have hN := Lib.hid (hA.out.next hm)
        have hr := rem128 m
        have hxl := (UInt8.ofNat (m % 128 + 128)).toNat_lt
        revert hN hr hxl
        generalize UInt8.ofNat (m % 128 + 128) = x
        intro hN hr hxl
        go_wp2_with (first
          | (at_builtin; refine wpList_append_own _ rfl (.tmp 9) (.tmp 14) 64 rfl w.heap.size 5 i (.int .u8 0) 1 1 Tryz.underlying64 H.out.1 H.out.2.1 H.out.2.2.1 H.out.2.2.2 rfl (by decide) _ _ _ rfl (hU.out.own.alloc _) _ 1 1 [.int .u8 (x.toNat : Int)] rfl rfl (one_new _ _ _) (by simp [Value.oneCell']) hb1 hb2 (Nat.le_trans hsize (by simp)) ?_)
          | fail)
        intro v' w' o1 g1 _
        have hU2 := Lib.hid (hU.out.put o1 g1)
        clear o1 g1
        go_wp2_with fail
        go_roundw
        case rel => exact ⟨k + 1, m / 128, p ++ [x], by go_num, hN.out, hU2.out⟩
        case measure => simp [intOf]; omega
      · have t3 : decide ((128 : Int) ≤ (m : Int)) = false := by simp; omega
        have hN := Lib.hid (hA.out.done (by omega))
        have hr : (m : Int) = ((UInt8.ofNat m).toNat : Int) := by rw [ofNat_toNat _ (by omega)]
        have hxl := (UInt8.ofNat m).toNat_lt
        revert hN hr hxl
        generalize UInt8.ofNat m = x
        intro hN hr hxl
        obtain rfl : m = x.toNat := by omega
        go_wp2_with (first
          | (at_builtin; refine wpList_append_own _ rfl (.tmp 18) (.tmp 21) 64 rfl w.heap.size 5 i (.int .u8 0) 1 1 Tryz.underlying64 H.out.1 H.out.2.1 H.out.2.2.1 H.out.2.2.2 rfl (by decide) _ _ _ rfl (hU.out.own.alloc _) _ 1 1 [.int .u8 (x.toNat : Int)] rfl rfl (one_new _ _ _) (by simp [Value.oneCell']) hb1 hb2 (Nat.le_trans hsize (by simp)) ?_)
          | fail)
        intro v' w' o1 g1 _
        have hU2 := Lib.hid (hU.out.put o1 g1)
        have hcv := conv_own hU2.out.own
        rw [← hN.out] at hcv
        clear o1 g1
        go_wp2_with fail
        go_ret
        exact ⟨rfl, hU2.out.bel⟩
  · subst t0
    have t0 : decide ((M : Int) < 0) = false := by simp
    have t1 : decide ((M : Int) > 1125899906842624) = false := by simp; omega
    go_enter Tryz.func43, Tryz.ntmps43
    go_wp2_with fail
    go_loopw [0, 3] (fun a v wr => ∃ (k m : Nat) (p : List UInt8), a = .int .i64 (m : Int) ∧ Hid (At M k m p) ∧ Hid (UW w v p wr)) (fun a _ _ => (intOf a).toNat)
    case atStart => exact ⟨0, M, [], rfl, hS.out, UW.start w⟩
    case round =>
      obtain ⟨k, m, p, rfl, hA, hU⟩ := hrel
      have hmb : m ≤ 1125899906842624 := hA.out.mle
      have hk7 : k ≤ 7 := hA.out.kle
      have hlen := Lib.hid hA.out.len
      have hsize := hU.out.bel.size
      have hb1 : p.length + 1 ≤ maxLen := by rw [hlen.out]; unfold maxLen; omega
      have hb2 : (p.length + 1) * 1 ≤ 140737488355328 := by rw [hlen.out]; omega
      by_cases hm : 128 ≤ m
      · have t3 : decide ((128 : Int) ≤ (m : Int)) = true := by simp; omega
        have hN := Lib.hid (hA.out.next hm)
        have hr := rem128 m
        have hxl := (UInt8.ofNat (m % 128 + 128)).toNat_lt
        revert hN hr hxl
        generalize UInt8.ofNat (m % 128 + 128) = x
        intro hN hr hxl
        go_wp2_with (first
          | (at_builtin; refine wpList_append_own _ rfl (.tmp 9) (.tmp 14) 64 rfl w.heap.size 5 i (.int .u8 0) 1 1 Tryz.underlying64 H.out.1 H.out.2.1 H.out.2.2.1 H.out.2.2.2 rfl (by decide) _ _ _ rfl (hU.out.own.alloc _) _ 1 1 [.int .u8 (x.toNat : Int)] rfl rfl (one_new _ _ _) (by simp [Value.oneCell']) hb1 hb2 (Nat.le_trans hsize (by simp)) ?_)
          | fail)
        intro v' w' o1 g1 _
        have hU2 := Lib.hid (hU.out.put o1 g1)
        clear o1 g1
        go_wp2_with fail
        go_roundw
        case rel => exact ⟨k + 1, m / 128, p ++ [x], by go_num, hN.out, hU2.out⟩
        case measure => simp [intOf]; omega
      · have t3 : decide ((128 : Int) ≤ (m : Int)) = false := by simp; omega
        have hN := Lib.hid (hA.out.done (by omega))
        have hr : (m : Int) = ((UInt8.ofNat m).toNat : Int) := by rw [ofNat_toNat _ (by omega)]
        have hxl := (UInt8.ofNat m).toNat_lt
        revert hN hr hxl
        generalize UInt8.ofNat m = x
        intro hN hr hxl
        obtain rfl : m = x.toNat := by omega
        go_wp2_with (first
          | (at_builtin; refine wpList_append_own _ rfl (.tmp 18) (.tmp 21) 64 rfl w.heap.size 5 i (.int .u8 0) 1 1 Tryz.underlying64 H.out.1 H.out.2.1 H.out.2.2.1 H.out.2.2.2 rfl (by decide) _ _ _ rfl (hU.out.own.alloc _) _ 1 1 [.int .u8 (x.toNat : Int)] rfl rfl (one_new _ _ _) (by simp [Value.oneCell']) hb1 hb2 (Nat.le_trans hsize (by simp)) ?_)
          | fail)
        intro v' w' o1 g1 _
        have hU2 := Lib.hid (hU.out.put o1 g1)
        have hcv := conv_own hU2.out.own
        rw [← hN.out] at hcv
        clear o1 g1
        go_wp2_with fail
        go_ret
        exact ⟨rfl, hU2.out.bel⟩
theorem rnum_any (n : Int) (w : World) :
    Calls Tryz.prog 43 #[.int .i64 n] w fun e w' => e = .returned (.string (mk (num (clI n)))) ∧ Below w.heap.size w w' := by
  refine rnum_core n (clI n) (by unfold clI big; omega) ?_ w
  unfold clI big
  omega
theorem rnum_nat (n : Nat) (w : World) :
    Calls Tryz.prog 43 #[.int .i64 (n : Int)] w fun e w' => e = .returned (.string (mk (num (cl n)))) ∧ Below w.heap.size w w' :=
  rnum_any (n : Int) w

theorem rem256 (c : Nat) : ((c : Int) % 256) = ((UInt8.ofNat (c % 256)).toNat : Int) := by
  rw [ofNat_toNat _ (by omega)]; omega
theorem c4_at (c : BitVec 32) (k : Nat) (h : k < 4) : (c4 c).take (k + 1) = (c4 c).take k ++ [UInt8.ofNat (c.toNat / 256 ^ k % 256)] := by
  obtain rfl | rfl | rfl | rfl : k = 0 ∨ k = 1 ∨ k = 2 ∨ k = 3 := by omega
  all_goals rfl
end Go.Proofs.YtfilolmbppjbjaaGreat
