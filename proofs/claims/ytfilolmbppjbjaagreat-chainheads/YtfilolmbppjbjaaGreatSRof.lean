/-
  What Of of the reference returns: the digest of bytes.
-/
import Derived.Test.YtfilolmbppjbjaaGreatSRworld
import Derived.StillTailTactics
namespace Go.Proofs.YtfilolmbppjbjaaGreat.sh
open Go.RowKit

set_option maxRecDepth 100000 in
theorem still_of {P : Program} {f : FuncId} {args : Array Value} {w : World} {v : Value} (h : Calls P f args w fun e w' => e = .returned v ∧ w = w') : Calls P f args w fun e w' => e = .returned v ∧ w' = w :=
  h.mono fun _ _ ⟨he, hw⟩ => ⟨he, hw.symm⟩

set_option maxRecDepth 100000 in
theorem modV (a : BitVec 32) : V a % (4294967296 : Int) = V a := by
  have := a.isLt
  unfold V; omega
set_option maxRecDepth 100000 in
theorem wrapAdd (a b : BitVec 32) : IntKind.u32.wrap (V a + V b) = V (a + b) := by
  rw [← addV]; simp [IntKind.wrap, IntKind.bits, IntKind.signed]

/-- The digest, as far as it is there. -/
def dgs (st : St) (i : Nat) : List UInt8 := pz 0 32 ((bytesOf st.toL).take i)
set_option maxRecDepth 100000 in
theorem bytesOf_at (st : St) (i : Nat) (h : i < 32) : (bytesOf st.toL).getD i 0 = UInt8.ofNat ((st.toL.getD (i / 4) 0#32).toNat / 256 ^ (3 - i % 4)) := by
  obtain ⟨a, b, c, d, e, f, g, hh⟩ := st
  have eb : bytesOf (St.mk a b c d e f g hh).toL = el a.toNat 4 ++ (el b.toNat 4 ++ (el c.toNat 4 ++ (el d.toNat 4 ++ (el e.toNat 4 ++ (el f.toNat 4 ++ (el g.toNat 4 ++ (el hh.toNat 4 ++ []))))))) := by
    simp only [el_be]; rfl
  rw [eb]
  obtain ⟨q, r, hq, hr, rfl⟩ : ∃ q r, q < 8 ∧ r < 4 ∧ i = 4 * q + r := ⟨i / 4, i % 4, by omega, by omega, by omega⟩
  rw [show (4 * q + r) / 4 = q by omega, show (4 * q + r) % 4 = r by omega]
  obtain rfl | rfl | rfl | rfl | rfl | rfl | rfl | rfl : q = 0 ∨ q = 1 ∨ q = 2 ∨ q = 3 ∨ q = 4 ∨ q = 5 ∨ q = 6 ∨ q = 7 := by omega
  all_goals
    obtain rfl | rfl | rfl | rfl : r = 0 ∨ r = 1 ∨ r = 2 ∨ r = 3 := by omega
    all_goals rfl
set_option maxRecDepth 100000 in
theorem dgs_zero (st : St) : row (dgs st 0) = d0 := rfl
set_option maxRecDepth 100000 in
theorem dgs_len (st : St) (i : Nat) : (dgs st i).length = 32 := by
  unfold dgs; rw [pz_length]; rw [List.length_take, bytesOf_length, toL_len]; omega
set_option maxRecDepth 100000 in
theorem dgs_set (st : St) (i : Nat) (h : i < 32) : (row (dgs st i)).setIfInBounds i (.int .u8 (((bytesOf st.toL).getD i 0).toNat : Int)) = row (dgs st (i + 1)) := by
  have hl : (bytesOf st.toL).length = 32 := by rw [bytesOf_length, toL_len]
  have hk : ((bytesOf st.toL).take i).length = i := by rw [List.length_take, hl]; omega
  unfold dgs
  rw [row_set]
  have := pz_set (0 : UInt8) 32 ((bytesOf st.toL).take i) ((bytesOf st.toL).getD i 0) (by omega)
  rw [hk] at this
  rw [this, take_snocD 0 _ _ (by omega)]
set_option maxRecDepth 100000 in
theorem dgs_end (st : St) : dgs st 32 = bytesOf st.toL := by
  have hl : (bytesOf st.toL).length = 32 := by rw [bytesOf_length, toL_len]
  unfold dgs
  rw [List.take_of_length_le (by omega), pz_full _ _ _ hl]

set_option maxHeartbeats 16000000 in
set_option maxRecDepth 100000 in
theorem rof_any (s : ByteArray) (hs : s.size ≤ 4000) (w : World) :
    Calls Tryz.prog 36 #[.string s] w fun e w' => e = .returned (.agg (row (sha s.data.toList))) ∧ Belo w.heap.size w w' := by
  go_enter Tryz.func36, Tryz.ntmps36
  go_wp2_with fail
  rw [← d0_zero]
  refine (roots_any _).mono ?_
  rintro e w1 ⟨rfl, h1⟩
  go_wp2_with (with_reducible refine wpList_store_row rfl 54 (.tmp 3) (.tmp 24) rfl _ (ws H0.toL) rfl rfl 54 #[.int .u32 0, .int .u32 0, .int .u32 0, .int .u32 0, .int .u32 0, .int .u32 0, .int .u32 0, .int .u32 0] ?hg (by kernel_rfl) (by kernel_rfl) (by kernel_rfl) ?_)
  case hg => rw [heap_alloc_if, if_pos rfl]
  rw [World.setRow_alloc_new]
  refine (cubes_any _).mono ?_
  rintro e w2 ⟨rfl, h2⟩
  go_wp2_with (with_reducible refine wpList_store_row rfl 56 (.tmp 4) (.tmp 25) rfl _ (ws K0) rfl rfl 56 (wcells []) ?hg (by kernel_rfl) (by kernel_rfl) (by kernel_rfl) ?_)
  case hg => rw [wcells_zero, heap_alloc_if, if_pos rfl]
  rw [World.setRow_alloc_new]
  refine (rpad_any s hs _).mono ?_
  rintro e v1 ⟨rfl, hb⟩
  have hW : RW w w.heap.size w1.heap.size w2.heap.size (c8 H0) [] v1 := by
    have hz1 : w.heap.size < w1.heap.size := by have := h1.size; simp at this; omega
    have hz2 : w1.heap.size < w2.heap.size := by have := h2.size; simp at this; omega
    have b1 : Belo w.heap.size w w1 := (belo_alloc w _).trans ((Belo.of h1).mono (by simp))
    have b2 : Belo w.heap.size w w2 := (b1.alloc (by omega) _).trans ((Belo.of h2).mono (by simp; omega))
    refine RW.past (v := w2.alloc (.cells (ws K0) 56)) ⟨b2.alloc (by omega) _, ?_, ?_, ?_, hz1, hz2, fun _ h => by cases h⟩ hb
    · rw [heap_alloc_if, if_neg (by omega), h2.block _ (by simp; omega), heap_alloc_if, if_neg (by omega), h1.block _ (by simp), heap_alloc_if, if_pos rfl]
    · rw [heap_alloc_if, if_neg (by omega), h2.block _ (by simp), heap_alloc_if, if_pos rfl]; rfl
    · rw [heap_alloc_if, if_pos rfl]
  have hW1 := Lib.hid hW
  clear hW hb h1 h2
  revert hW1
  generalize w1.heap.size = b3
  generalize w2.heap.size = b4
  intro hW1
  clear w1 w2
  go_wp2_with fail
  obtain ⟨P0, hP⟩ : ∃ P0, ByteArray.mk (pad s.data.toList).toArray = P0 := ⟨_, rfl⟩
  have hP1 : P0.data.toList = pad s.data.toList := by rw [← hP]
  have hsz : P0.size ≤ 4200 := by
    rw [← size_list, hP1, pad_length, size_list]
    unfold zer; omega
  have hmod := pad_mod s.data.toList
  rw [← hP1, size_list] at hmod
  have hsha : sha s.data.toList = bytesOf (stt (pad s.data.toList) (P0.size / 64)).toL := by unfold sha; rw [← hP1, size_list]
  rw [hP]
  have H := Lib.hid (And.intro hP1 (And.intro hmod hsha))
  clear hP hP1 hmod hsha
  go_loopw [6] (fun r wr => ∃ (j A : Nat), Hid (A = 64 * j) ∧ A ≤ P0.size ∧ r = .int .i64 (A : Int) ∧ Hid (RW w w.heap.size b3 b4 (c8 (stt (pad s.data.toList) j)) [] wr)) (fun r _ => P0.size - (intOf r).toNat)
  case atStart => exact ⟨0, 0, by show _ = _; omega, by omega, rfl, hW1.out⟩
  case round =>
    obtain ⟨j, A, hA, hAle, rfl, hO⟩ := hrel
    by_cases hlt : A < P0.size
    · have hlt' : decide ((A : Int) < (P0.size : Int)) = true := by rw [decide_eq_true_eq]; omega
      have hA64 : A + 64 ≤ P0.size := by have := H.out.2.1; have := hA.out; omega
      obtain ⟨st, hst⟩ : ∃ st, stt (pad s.data.toList) j = st := ⟨_, rfl⟩
      rw [hst] at hO
      have hst' := Lib.hid hst
      clear hst
      go_wp2_with fail
      rw [← wcells_zero]
      have hp7 := Lib.hid (hO.out.push (wcells []) 56)
      revert hp7
      generalize wr.heap.size = b7
      generalize wr.alloc (.cells (wcells []) 56) = wa
      intro hp7
      obtain ⟨g, hg⟩ : ∃ g : Nat → UInt8, g = fun i => gof P0 (A + i) := ⟨_, rfl⟩
      have hg' := Lib.hid hg
      clear hg
      go_loopw [8] (fun r wr => ∃ t : Nat, t ≤ 64 ∧ r = .int .i64 (t : Int) ∧ Hid (RW w w.heap.size b3 b4 (c8 st) [(b7, wcells (sch g t), 56)] wr)) (fun r _ => 64 - (intOf r).toNat)
      case atStart => exact ⟨0, by omega, rfl, hp7.out⟩
      case round =>
        obtain ⟨t, ht, rfl, hR⟩ := hrel
        by_cases hlt2 : t < 64
        · have d1 : decide ((t : Int) < 64) = true := by rw [decide_eq_true_eq]; omega
          have hl := Lib.hid (sch_length g t)
          by_cases ht16 : t < 16
          · have d2 : decide ((t : Int) < 16) = true := by rw [decide_eq_true_eq]; omega
            rw [← wcells_snoc (sch g t) (by rw [hl.out]; omega)] at hR
            go_wp2_with fail
            go_loopw [9] (fun r wr => ∃ i : Nat, i ≤ 4 ∧ r = .int .i64 (i : Int) ∧ Hid (RW w w.heap.size b3 b4 (c8 st) [(b7, wcells (sch g t ++ [bwp g t i]), 56)] wr)) (fun r _ => 4 - (intOf r).toNat)
            case atStart => exact ⟨0, by omega, rfl, hR.out⟩
            case round =>
              obtain ⟨i, hi, rfl, hR⟩ := hrel
              by_cases hlt3 : i < 4
              · have d3 : decide ((i : Int) < 4) = true := by rw [decide_eq_true_eq]; omega
                have h1 := hR.out.atTop t (wcells_at (sch g t ++ [bwp g t i]) (by simp [hl.out]; omega) t hlt2)
                rw [snoc_at _ _ hl.out] at h1
                have h1f := hR.out.frTop t
                obtain ⟨q1, e1⟩ : ∃ q1 : Nat, q1 = 4 * t := ⟨_, rfl⟩
                obtain ⟨q2, e2⟩ : ∃ q2 : Nat, q2 = A + q1 := ⟨_, rfl⟩
                obtain ⟨q3, e3⟩ : ∃ q3 : Nat, q3 = q2 + i := ⟨_, rfl⟩
                have i1 : IntKind.i64.wrap (4 * (t : Int)) = (q1 : Int) := by rw [IntKind.wrap_i64]; omega
                have i2 : IntKind.i64.wrap ((A : Int) + (q1 : Int)) = (q2 : Int) := by rw [IntKind.wrap_i64]; omega
                have i3 : IntKind.i64.wrap ((q2 : Int) + (i : Int)) = (q3 : Int) := by rw [IntKind.wrap_i64]; omega
                have h2 : q3 < P0.size := by omega
                have h3 : P0[q3] = g (4 * t + i) := by rw [gof_at, hg'.out, e3, e2, e1, Nat.add_assoc]
                have h4 : (t : Int) < 64 := by omega
                have h5 : (q3 : Int) < (P0.size : Int) := by omega
                clear e1 e2 e3
                have h7 := addByte (bwp g t i) (g (4 * t + i))
                have h8 := Lib.hid (wcells_set2 (sch g t) t hl.out hlt2 (bwp g t (i + 1)) (bwp g t i))
                go_wp2_with fail
                go_still_tail 16, (by kernel_rfl)
                change wpList _ _ _ _ _ wr.drew
                go_wp2_with fail
                go_roundw
                case rel =>
                  refine ⟨i + 1, by omega, by go_num, ?_⟩
                  rw [← h8.out]
                  exact (hR.out.setTop (by simp) t _).drew
                case measure => simp [intOf]; omega
              · obtain rfl : i = 4 := by omega
                have d3 : decide (((4 : Nat) : Int) < 4) = false := by decide
                have h9 : Hid (sch g (t + 1) = sch g t ++ [bwp g t 4]) := by
                  show _ = _
                  rw [show sch g (t + 1) = sch g t ++ [if t < 16 then bwp g t 4 else nxt (sch g t)] from rfl, if_pos ht16]
                go_wp2_with fail
                go_roundw
                case rel => exact ⟨t + 1, by omega, by go_num, by rw [h9.out]; exact hR.out⟩
                case measure => simp [intOf]; omega
          · have d2 : decide ((t : Int) < 16) = false := by rw [decide_eq_false_iff_not]; omega
            have a15 := hR.out.atTop (t - 15) (wcells_at (sch g t) (by rw [hl.out]; omega) (t - 15) (by omega))
            have a2 := hR.out.atTop (t - 2) (wcells_at (sch g t) (by rw [hl.out]; omega) (t - 2) (by omega))
            have a7 := hR.out.atTop (t - 7) (wcells_at (sch g t) (by rw [hl.out]; omega) (t - 7) (by omega))
            have a16 := hR.out.atTop (t - 16) (wcells_at (sch g t) (by rw [hl.out]; omega) (t - 16) (by omega))
            have at' := hR.out.atTop t (wcells_at (sch g t) (by rw [hl.out]; omega) t (by omega))
            have af := hR.out.frTop t
            obtain ⟨q7, e7'⟩ : ∃ q7 : Nat, t - 7 = q7 := ⟨_, rfl⟩
            obtain ⟨q16, e16'⟩ : ∃ q16 : Nat, t - 16 = q16 := ⟨_, rfl⟩
            have i7 : IntKind.i64.wrap ((t : Int) - 7) = (q7 : Int) := by rw [IntKind.wrap_i64]; omega
            have i16 : IntKind.i64.wrap ((t : Int) - 16) = (q16 : Int) := by rw [IntKind.wrap_i64]; omega
            have l7 : (q7 : Int) < 64 := by omega
            have l16 : (q16 : Int) < 64 := by omega
            have lt64 : (t : Int) < 64 := by omega
            have e15 : ((t : Int) - 15).toNat = t - 15 := by omega
            have e2 : ((t : Int) - 2).toNat = t - 2 := by omega
            have hnx : nxt (sch g t) = sm1 ((sch g t).getD (t - 2) 0#32) + (sch g t).getD (t - 7) 0#32 + sm0 ((sch g t).getD (t - 15) 0#32) + (sch g t).getD (t - 16) 0#32 := by
              unfold nxt; rw [hl.out]
            have hsch : Hid (sch g (t + 1) = sch g t ++ [nxt (sch g t)]) := by
              show _ = _
              rw [show sch g (t + 1) = sch g t ++ [if t < 16 then bwp g t 4 else nxt (sch g t)] from rfl, if_neg (by omega)]
            have hset := Lib.hid (wcells_set (sch g t) t hl.out (by omega) (nxt (sch g t)))
            revert a15 a2 a7 a16 hnx
            generalize (sch g t).getD (t - 15) 0#32 = x
            generalize (sch g t).getD (t - 2) 0#32 = y
            generalize (sch g t).getD (t - 7) 0#32 = z
            generalize (sch g t).getD (t - 16) 0#32 = u
            intro a15 a2 a7 a16 hnx
            have hnx' := Lib.hid hnx
            clear hnx
            rw [e7'] at a7
            rw [e16'] at a16
            clear e7' e16'
            go_wp2_with fail
            go_still_tail 29, (by kernel_rfl)
            still_call (still_of (rright_any y 17 (by decide) (by decide) _))
            repeat still_step
            still_call (still_of (rright_any y 19 (by decide) (by decide) _))
            repeat still_step
            still_call (still_of (rshift_any y 10 (by decide) _))
            repeat still_step
            still_call (still_of (rright_any x 7 (by decide) (by decide) _))
            repeat still_step
            still_call (still_of (rright_any x 18 (by decide) (by decide) _))
            repeat still_step
            still_call (still_of (rshift_any x 3 (by decide) _))
            repeat still_step
            refine wpStill_nil ?_
            change wpList _ _ _ _ _ wr.drew
            go_wp2_with fail
            go_roundw
            case rel =>
              refine ⟨t + 1, by omega, by go_num, ?_⟩
              rw [hsch.out, ← hset.out, xorV, xorV, xorV, xorV, show rot y 17 ^^^ rot y 19 ^^^ (y >>> 10) = sm1 y from rfl, show rot x 7 ^^^ rot x 18 ^^^ (x >>> 3) = sm0 x from rfl, addV4, ← hnx'.out]
              exact (hR.out.setTop (by simp) t _).drew
            case measure => simp [intOf]; omega
        · obtain rfl : t = 64 := by omega
          rw [show ((64 : Nat) : Int) = 64 from rfl]
          have hsum := hR.out.sum
          have hi : Hid ((Tryz.prog.info? 54).map (·.size) = some (c8 st).size) := by show _ = _; kernel_rfl
          have ho : Hid ((#[.int .u32 0, .int .u32 0, .int .u32 0, .int .u32 0, .int .u32 0, .int .u32 0, .int .u32 0, .int .u32 0] : Array Value).size = (c8 st).size) := rfl
          have hone : Hid ((c8 st).all (·.oneCell') = true) := ws_one st.toL
          go_wp2_with (first
            | (with_reducible refine wpList_load_row rfl 54 (.tmp 3) rfl _ rfl 54 (c8 st) _ hsum Tryz.underlying54 rfl hi.out ?_)
            | (with_reducible refine wpList_store_row rfl 54 (.tmp 12) (.tmp 97) rfl _ (c8 st) rfl rfl 54 #[.int .u32 0, .int .u32 0, .int .u32 0, .int .u32 0, .int .u32 0, .int .u32 0, .int .u32 0, .int .u32 0] ?hg hi.out ho.out hone.out ?_))
          case hg => rw [heap_alloc_if, if_pos rfl]
          rw [World.setRow_alloc_new]
          have hp12 := Lib.hid (hR.out.push (c8 st) 54)
          have hne : b7 < wr.heap.size := lt_of_some hR.out.top
          clear hsum hi ho hone hR
          revert hp12 hne
          generalize wr.heap.size = b12
          generalize wr.alloc (.cells (c8 st) 54) = wa2
          intro hp12 hne
          go_loopw [13] (fun r wr => ∃ (t : Nat) (s' : St), t ≤ 64 ∧ Hid (s' = mix K0 (sch g 64) st t) ∧ r = .int .i64 (t : Int) ∧ Hid (RW w w.heap.size b3 b4 (c8 st) [(b12, c8 s', 54), (b7, wcells (sch g 64), 56)] wr)) (fun r _ => 64 - (intOf r).toNat)
          case atStart => exact ⟨0, st, by omega, rfl, rfl, hp12.out⟩
          case round =>
            obtain ⟨k, ⟨a, b, c, d, e, f, gg, hh⟩, hk64, hs', rfl, hR⟩ := hrel
            by_cases hlt4 : k < 64
            · have d1 : decide ((k : Int) < 64) = true := by rw [decide_eq_true_eq]; omega
              have lk : (k : Int) < 64 := by omega
              have hsn : Hid (mix K0 (sch g 64) st (k + 1) = rnd ⟨a, b, c, d, e, f, gg, hh⟩ (K0.getD k 0#32) ((sch g 64).getD k 0#32)) := by
                show rnd (mix K0 (sch g 64) st k) _ _ = _
                rw [← hs'.out]
              have qk := hR.out.at4 k hlt4
              have qw := hR.out.tail.atTop k (wcells_at (sch g 64) (by rw [sch_length]; omega) k hlt4)
              revert qk qw hsn
              generalize K0.getD k 0#32 = kk
              generalize (sch g 64).getD k 0#32 = wk
              intro hsn qk qw
              have q0 : wr.cell? ⟨b12, 0, none⟩ = some (.int .u32 (V a)) := hR.out.atTop 0 rfl
              have q1 : wr.cell? ⟨b12, 1, none⟩ = some (.int .u32 (V b)) := hR.out.atTop 1 rfl
              have q2 : wr.cell? ⟨b12, 2, none⟩ = some (.int .u32 (V c)) := hR.out.atTop 2 rfl
              have q3 : wr.cell? ⟨b12, 3, none⟩ = some (.int .u32 (V d)) := hR.out.atTop 3 rfl
              have q4 : wr.cell? ⟨b12, 4, none⟩ = some (.int .u32 (V e)) := hR.out.atTop 4 rfl
              have q5 : wr.cell? ⟨b12, 5, none⟩ = some (.int .u32 (V f)) := hR.out.atTop 5 rfl
              have q6 : wr.cell? ⟨b12, 6, none⟩ = some (.int .u32 (V gg)) := hR.out.atTop 6 rfl
              have q7 : wr.cell? ⟨b12, 7, none⟩ = some (.int .u32 (V hh)) := hR.out.atTop 7 rfl
              have xn := notV e
              have xm : V (~~~e) % (4294967296 : Int) = V (~~~e) := modV _
              have x1 := bg1_V e
              have x2 := bg0_V a
              have x3 : bits .xor .u32 (bits .and .u32 (V e) (V f)) (bits .and .u32 (V (~~~e)) (V gg)) = V (chs e f gg) := by rw [andV, andV, xorV]; rfl
              have x4 := maj_V a b c
              have hT : ∃ S1 S2 S3 T1 T2 R1 R2 : BitVec 32, hh + bg1 e = S1 ∧ S1 + chs e f gg = S2 ∧ S2 + kk = S3 ∧ S3 + wk = T1 ∧ bg0 a + maj a b c = T2 ∧ T1 + T2 = R1 ∧ d + T1 = R2 := ⟨_, _, _, _, _, _, _, rfl, rfl, rfl, rfl, rfl, rfl, rfl⟩
              obtain ⟨S1, S2, S3, T1, T2, R1, R2, u1, u2, u3, u4, u5, u6, u7⟩ := hT
              have y1 : IntKind.u32.wrap (V hh + V (bg1 e)) = V S1 := by rw [wrapAdd, u1]
              have y2 : IntKind.u32.wrap (V S1 + V (chs e f gg)) = V S2 := by rw [wrapAdd, u2]
              have y3 : IntKind.u32.wrap (V S2 + V kk) = V S3 := by rw [wrapAdd, u3]
              have y4 : IntKind.u32.wrap (V S3 + V wk) = V T1 := by rw [wrapAdd, u4]
              have y5 : IntKind.u32.wrap (V (bg0 a) + V (maj a b c)) = V T2 := by rw [wrapAdd, u5]
              have y6 : (V T1 + V T2) % (4294967296 : Int) = V R1 := by rw [addV, u6]
              have y7 : (V d + V T1) % (4294967296 : Int) = V R2 := by rw [addV, u7]
              have y8 : IntKind.u32.wrap (V T1 + V T2) = V R1 := by rw [wrapAdd, u6]
              have y9 : IntKind.u32.wrap (V d + V T1) = V R2 := by rw [wrapAdd, u7]
              have hrn : Hid (rnd ⟨a, b, c, d, e, f, gg, hh⟩ kk wk = ⟨R1, a, b, c, R2, e, f, gg⟩) := by
                show _ = _
                subst u1 u2 u3 u4 u5 u6 u7
                rfl
              have z6 := Lib.hid u6
              clear u1 u2 u3 u4 u5 u6 u7
              go_wp2_with fail
              go_still_tail 29, (by kernel_rfl)
              still_call (still_of (rright_any e 6 (by decide) (by decide) _))
              repeat still_step
              still_call (still_of (rright_any e 11 (by decide) (by decide) _))
              repeat still_step
              still_call (still_of (rright_any e 25 (by decide) (by decide) _))
              repeat still_step
              refine wpStill_nil ?_
              change wpList _ _ _ _ _ wr.drew
              have hR1 := Lib.hid hR.out.drew
              clear hR q0 q1 q2 q3 q4 q5 q6 q7 qk qw
              revert hR1
              generalize wr.drew = wv
              intro hR1
              have q0 : wv.cell? ⟨b12, 0, none⟩ = some (.int .u32 (V a)) := hR1.out.atTop 0 rfl
              have q1 : wv.cell? ⟨b12, 1, none⟩ = some (.int .u32 (V b)) := hR1.out.atTop 1 rfl
              have q2 : wv.cell? ⟨b12, 2, none⟩ = some (.int .u32 (V c)) := hR1.out.atTop 2 rfl
              have q3 : wv.cell? ⟨b12, 3, none⟩ = some (.int .u32 (V d)) := hR1.out.atTop 3 rfl
              have q4 : wv.cell? ⟨b12, 4, none⟩ = some (.int .u32 (V e)) := hR1.out.atTop 4 rfl
              have q5 : wv.cell? ⟨b12, 5, none⟩ = some (.int .u32 (V f)) := hR1.out.atTop 5 rfl
              have q6 : wv.cell? ⟨b12, 6, none⟩ = some (.int .u32 (V gg)) := hR1.out.atTop 6 rfl
              go_wp2_with fail
              go_still_tail 24, (by kernel_rfl)
              still_call (still_of (rright_any a 2 (by decide) (by decide) _))
              repeat still_step
              still_call (still_of (rright_any a 13 (by decide) (by decide) _))
              repeat still_step
              still_call (still_of (rright_any a 22 (by decide) (by decide) _))
              repeat still_step
              refine wpStill_nil ?_
              change wpList _ _ _ _ _ wv.drew
              have hst2 := hR1.out.drew.top
              have hi2 : Hid (∀ x y : BitVec 32, (Tryz.prog.info? 54).map (·.size) = some (#[.int .u32 (V x), .int .u32 (V a), .int .u32 (V b), .int .u32 (V c), .int .u32 (V y), .int .u32 (V e), .int .u32 (V f), .int .u32 (V gg)] : Array Value).size) := fun x y => by kernel_rfl
              have hi3 : Hid ((c8 ⟨a, b, c, d, e, f, gg, hh⟩).size = (#[.int .u32 (V R1), .int .u32 (V a), .int .u32 (V b), .int .u32 (V c), .int .u32 (V R2), .int .u32 (V e), .int .u32 (V f), .int .u32 (V gg)] : Array Value).size) := rfl
              have hi4 : Hid (∀ x y : BitVec 32, (#[.int .u32 (V x), .int .u32 (V a), .int .u32 (V b), .int .u32 (V c), .int .u32 (V y), .int .u32 (V e), .int .u32 (V f), .int .u32 (V gg)] : Array Value).all (·.oneCell') = true) := fun x y => ws_one [x, a, b, c, y, e, f, gg]
              go_wp2_with (first
                | (with_reducible refine wpList_store_row rfl 54 (.tmp 12) (.tmp 180) rfl _ #[.int .u32 (V R1), .int .u32 (V a), .int .u32 (V b), .int .u32 (V c), .int .u32 (V R2), .int .u32 (V e), .int .u32 (V f), .int .u32 (V gg)] rfl rfl 54 _ hst2 (hi2.out R1 R2) hi3.out (hi4.out R1 R2) ?_)
                | fail)
              go_roundw
              case rel =>
                refine ⟨k + 1, ⟨R1, a, b, c, R2, e, f, gg⟩, by omega, by show _ = _; rw [hsn.out, hrn.out], by go_num, ?_⟩
                exact hR1.out.drew.rowTop (by simp; omega) _
              case measure => simp [intOf]; omega
            · obtain rfl : k = 64 := by omega
              have d1 : decide (((64 : Nat) : Int) < 64) = false := by decide
              obtain ⟨m, hm⟩ : ∃ m, mix K0 (sch g 64) st 64 = m := ⟨_, rfl⟩
              have hm' : Hid (comp st g = addS st m) := by show addS st (mix K0 (sch g 64) st 64) = _; rw [hm]
              rw [hm] at hs'
              rw [hs'.out] at hR
              clear hm hs'
              rw [show ((64 : Nat) : Int) = 64 from rfl]
              go_wp2_with fail
              go_loopw [19] (fun r wr => ∃ k : Nat, k ≤ 8 ∧ r = .int .i64 (k : Int) ∧ Hid (RW w w.heap.size b3 b4 (asum st m k) [(b12, c8 m, 54), (b7, wcells (sch g 64), 56)] wr)) (fun r _ => 8 - (intOf r).toNat)
              case atStart => exact ⟨0, by omega, rfl, hR.out⟩
              case round =>
                obtain ⟨k, hk8, rfl, hR⟩ := hrel
                by_cases hlt5 : k < 8
                · have d1 : decide ((k : Int) < 8) = true := by rw [decide_eq_true_eq]; omega
                  have lk : (k : Int) < 8 := by omega
                  have h1 := hR.out.at3 k (asum_at st m k hlt5)
                  have h2 := hR.out.atTop k (c8_at m k hlt5)
                  have h3 := hR.out.fr3 k
                  have h4 := Lib.hid (asum_set st m k hlt5)
                  have h5 := addV (st.toL.getD k 0#32) (m.toL.getD k 0#32)
                  revert h1 h2 h4 h5
                  generalize st.toL.getD k 0#32 = x
                  generalize m.toL.getD k 0#32 = y
                  intro h1 h2 h4 h5
                  go_wp2_with fail
                  go_still_tail 9, (by kernel_rfl)
                  change wpList _ _ _ _ _ wr.drew
                  go_wp2_with fail
                  go_roundw
                  case rel =>
                    refine ⟨k + 1, by omega, by go_num, ?_⟩
                    rw [← h4.out]
                    exact (hR.out.set3 k _).drew
                  case measure => simp [intOf]; omega
                · obtain rfl : k = 8 := by omega
                  have d1 : decide (((8 : Nat) : Int) < 8) = false := by decide
                  go_wp2_with fail
                  go_roundw
                  case rel =>
                    refine ⟨j + 1, A + 64, by show _ = _; have := hA.out; omega, hA64, by go_num, ?_⟩
                    have hg2 : (fun i => (pad s.data.toList).getD (64 * j + i) 0) = g := by rw [hg'.out, hA.out, ← H.out.1]; rfl
                    have e : stt (pad s.data.toList) (j + 1) = addS st m := by
                      show comp (stt (pad s.data.toList) j) (fun i => (pad s.data.toList).getD (64 * j + i) 0) = _
                      rw [hg2, hst'.out, hm'.out]
                    rw [e]
                    exact hR.out.tail.tail
                  case measure => simp [intOf]; omega
    · have hje : j = P0.size / 64 := by have := H.out.2.1; have := hA.out; omega
      have hlt' : decide ((A : Int) < (P0.size : Int)) = false := by rw [decide_eq_false_iff_not]; omega
      obtain ⟨st, hst⟩ : ∃ st, stt (pad s.data.toList) j = st := ⟨_, rfl⟩
      rw [hst] at hO
      have hfin : sha s.data.toList = bytesOf st.toL := by rw [H.out.2.2, ← hje, hst]
      have hfin' := Lib.hid hfin
      clear hst hje hfin
      go_wp2_with fail
      have hp20 := Lib.hid (hO.out.push d0 23)
      rw [← d0_zero]
      revert hp20
      generalize wr.heap.size = b20
      generalize wr.alloc (.cells d0 23) = wa
      intro hp20
      go_loopw [21] (fun r wr => ∃ i : Nat, i ≤ 32 ∧ r = .int .i64 (i : Int) ∧ Hid (RW w w.heap.size b3 b4 (c8 st) [(b20, row (dgs st i), 23)] wr)) (fun r _ => 32 - (intOf r).toNat)
      case atStart => exact ⟨0, by omega, rfl, hp20.out⟩
      case round =>
        obtain ⟨i, hi32, rfl, hR⟩ := hrel
        by_cases hlt2 : i < 32
        · have d1 : decide ((i : Int) < 32) = true := by rw [decide_eq_true_eq]; omega
          have h1 := hR.out.at3 (i / 4) (c8_at st (i / 4) (by omega))
          have hbt := Lib.hid (bytesOf_at st i hlt2)
          revert h1 hbt
          generalize st.toL.getD (i / 4) 0#32 = X
          intro h1 hbt
          obtain ⟨q, e1⟩ : ∃ q : Nat, q = i / 4 := ⟨_, rfl⟩
          obtain ⟨r0, e2⟩ : ∃ r0 : Nat, r0 = i % 4 := ⟨_, rfl⟩
          rw [← e1] at h1
          rw [← e2] at hbt
          have l1 : (q : Int) < 8 := by omega
          have l2 : r0 < 4 := by omega
          have i1 : (i : Int) / 4 = (q : Int) := by omega
          have i2 : (i : Int) % 4 = (r0 : Int) := by omega
          have i3 : (i : Int).tdiv 4 = (q : Int) := by rw [Int.tdiv_eq_ediv_of_nonneg (by omega)]; omega
          have i4 : (i : Int).tmod 4 = (r0 : Int) := by rw [Int.tmod_eq_emod_of_nonneg (by omega)]; omega
          clear e1 e2
          have c1 := hR.out.atTop i (row_at (dgs st i) i (by rw [dgs_len]; exact hlt2))
          have f1 := hR.out.frTop i
          have hset := Lib.hid (dgs_set st i hlt2)
          have l3 : (i : Int) < 32 := by omega
          go_wp2_with fail
          go_loopw [22, 23] (fun x r wr' => ∃ (n ρ : Nat), r0 ≤ ρ ∧ ρ ≤ 3 ∧ n ≤ 4294967295 ∧ Hid (n = X.toNat / 256 ^ (ρ - r0)) ∧ x = .int .u32 (n : Int) ∧ r = .int .i64 (ρ : Int) ∧ wr' = wr) (fun _ r _ => 3 - (intOf r).toNat)
          case atStart => exact ⟨X.toNat, r0, by omega, by omega, by have := X.isLt; omega, by show _ = _; simp, rfl, rfl, rfl⟩
          case round =>
            obtain ⟨n, ρ, hr1, hr2, hn1, hn2, rfl, rfl, rfl⟩ := hrel
            by_cases hlt3 : ρ < 3
            · have d1 : decide ((ρ : Int) < 3) = true := by rw [decide_eq_true_eq]; omega
              go_wp2_with fail
              go_roundw
              case rel =>
                refine ⟨n / 256, ρ + 1, by omega, by omega, by omega, ?_, by go_num, by go_num, by trivial⟩
                show _ = _
                rw [hn2.out, show ρ + 1 - r0 = (ρ - r0) + 1 by omega, Nat.pow_succ, Nat.div_div_eq_div_mul]
              case measure => simp [intOf]; omega
            · obtain rfl : ρ = 3 := by omega
              have d1 : decide (((3 : Nat) : Int) < 3) = false := by decide
              have hv : Hid (((bytesOf st.toL).getD i 0).toNat = n % 256) := by show _ = _; rw [hbt.out, ← hn2.out]; simp
              go_wp2_with fail
              go_roundw
              case rel =>
                refine ⟨i + 1, by omega, by go_num, ?_⟩
                rw [← hset.out, hv.out, show ((n % 256 : Nat) : Int) = (n : Int) % 256 by omega]
                exact hR.out.setTop (by simp) i _
              case measure => simp [intOf]; omega
        · obtain rfl : i = 32 := by omega
          have d1 : decide (((32 : Nat) : Int) < 32) = false := by decide
          have hg := hR.out.top
          have hr2 := hR.out.res
          rw [dgs_end, ← hfin'.out] at hg
          have hi2 : Hid ((Tryz.prog.info? 23).map (·.size) = some (row (sha s.data.toList)).size) := by show _ = _; rw [row_size, sha_length]; kernel_rfl
          have ho2 : Hid (d0.size = (row (sha s.data.toList)).size) := by show _ = _; rw [row_size, sha_length]; kernel_rfl
          go_wp2_with (first
            | (with_reducible refine wpList_load_row rfl 23 (.tmp 20) rfl _ rfl 23 (row (sha s.data.toList)) _ hg Tryz.underlying23 rfl hi2.out ?_)
            | (with_reducible refine wpList_store_row rfl 23 (.tmp 2) (.tmp 215) rfl _ (row (sha s.data.toList)) rfl rfl 23 d0 hr2 hi2.out ho2.out (row_one _) ?_))
          exact bodyPost_row 2 23 rfl _ rfl 23 (row (sha s.data.toList)) _ (setRow_heap _ _ _ _ _ _ hr2) Tryz.underlying23 rfl hi2.out rfl ⟨rfl, hR.out.bel.setRow (Nat.le_refl _) _⟩
end Go.Proofs.YtfilolmbppjbjaaGreat.sh
