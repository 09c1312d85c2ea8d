/-
  What Of of the program returns: the digest of bytes.
-/
import Derived.Test.YtphbkbjgjicncaaSPad
import Derived.Test.YtphbkbjgjicncaaSPrimes
import Derived.Test.YtphbkbjgjicncaaSMixed
import Derived.Test.YtphbkbjgjicncaaSFirsts
namespace Go.Proofs.Ytphbkbjgjicncaa.sh
open Go.RowKit

def d0 : Array Value := row (List.replicate 32 0)
set_option maxRecDepth 100000 in
theorem d0_zero : d0 = #[.int .u8 0, .int .u8 0, .int .u8 0, .int .u8 0, .int .u8 0, .int .u8 0, .int .u8 0, .int .u8 0, .int .u8 0, .int .u8 0, .int .u8 0, .int .u8 0, .int .u8 0, .int .u8 0, .int .u8 0, .int .u8 0, .int .u8 0, .int .u8 0, .int .u8 0, .int .u8 0, .int .u8 0, .int .u8 0, .int .u8 0, .int .u8 0, .int .u8 0, .int .u8 0, .int .u8 0, .int .u8 0, .int .u8 0, .int .u8 0, .int .u8 0, .int .u8 0] := rfl

/-- The blocks of the call. -/
structure OfW (w : World) (z b4 b5 : Nat) (c : Array Value) (v : World) : Prop where
  bel : Below z w v
  res : v.heap[z]? = some (.cells d0 31)
  sum : v.heap[b4]? = some (.cells c 70)
  key : v.heap[b5]? = some (.cells (ws K0) 72)
  z4 : z < b4
  z5 : z < b5
  ne : b4 ≠ b5
set_option maxRecDepth 100000 in
theorem OfW.past {w v v' : World} {z b4 b5 : Nat} {c : Array Value} (h : OfW w z b4 b5 c v) (hb : Below v.heap.size v v') : OfW w z b4 b5 c v' :=
  { h with bel := h.bel.trans (hb.mono (Nat.le_of_lt (lt_of_some h.res))), res := (hb.block _ (lt_of_some h.res)).trans h.res, sum := (hb.block _ (lt_of_some h.sum)).trans h.sum, key := (hb.block _ (lt_of_some h.key)).trans h.key }
set_option maxRecDepth 100000 in
theorem OfW.drew {w v : World} {z b4 b5 : Nat} {c : Array Value} (h : OfW w z b4 b5 c v) : OfW w z b4 b5 c v.drew := { h with bel := h.bel.drew, res := h.res, sum := h.sum, key := h.key }
set_option maxRecDepth 100000 in
theorem OfW.set {w v : World} {z b4 b5 : Nat} {c : Array Value} (h : OfW w z b4 b5 c v) (k : Nat) (x : Value) : OfW w z b4 b5 (c.setIfInBounds k x) (v.setCell ⟨b4, k, none⟩ x) := by
  rw [setCell_eq_setRow _ _ _ _ _ _ _ h.sum]
  exact { h with bel := below_setRow h.bel (Nat.le_of_lt h.z4) _, res := by rw [setRow_other _ _ _ _ (by have := h.z4; omega)]; exact h.res, sum := setRow_heap _ _ _ _ _ _ h.sum, key := by rw [setRow_other _ _ _ _ (Ne.symm h.ne)]; exact h.key }
set_option maxRecDepth 100000 in
theorem OfW.at {w v : World} {z b4 b5 : Nat} {c : Array Value} (h : OfW w z b4 b5 c v) (j : Nat) {x : Value} (hx : c[j]? = some x) : v.cell? ⟨b4, j, none⟩ = some x := by
  rw [cell_of_row v b4 j _ _ _ h.sum]; exact hx

/-- The sums, as far as they are made. -/
def asum (st m : St) (k : Nat) : Array Value := ws ((addS st m).toL.take k ++ st.toL.drop k)
set_option maxRecDepth 100000 in
theorem asum_zero (st m : St) : asum st m 0 = c8 st := rfl
set_option maxRecDepth 100000 in
theorem asum_end (st m : St) : asum st m 8 = c8 (addS st m) := rfl
set_option maxRecDepth 100000 in
theorem toL_len (st : St) : st.toL.length = 8 := rfl
set_option maxRecDepth 100000 in
theorem asum_at (st m : St) (k : Nat) (h : k < 8) : (asum st m k)[k]? = some (.int .u32 (V (st.toL.getD k 0#32))) := by
  obtain rfl | rfl | rfl | rfl | rfl | rfl | rfl | rfl : k = 0 ∨ k = 1 ∨ k = 2 ∨ k = 3 ∨ k = 4 ∨ k = 5 ∨ k = 6 ∨ k = 7 := by omega
  all_goals rfl
set_option maxRecDepth 100000 in
theorem c8_at (m : St) (k : Nat) (h : k < 8) : (c8 m)[k]? = some (.int .u32 (V (m.toL.getD k 0#32))) := by
  obtain rfl | rfl | rfl | rfl | rfl | rfl | rfl | rfl : k = 0 ∨ k = 1 ∨ k = 2 ∨ k = 3 ∨ k = 4 ∨ k = 5 ∨ k = 6 ∨ k = 7 := by omega
  all_goals rfl
set_option maxRecDepth 100000 in
theorem asum_set (st m : St) (k : Nat) (h : k < 8) : (asum st m k).setIfInBounds k (.int .u32 (V (st.toL.getD k 0#32 + m.toL.getD k 0#32))) = asum st m (k + 1) := by
  obtain rfl | rfl | rfl | rfl | rfl | rfl | rfl | rfl : k = 0 ∨ k = 1 ∨ k = 2 ∨ k = 3 ∨ k = 4 ∨ k = 5 ∨ k = 6 ∨ k = 7 := by omega
  all_goals rfl

set_option maxRecDepth 100000 in
theorem extract_list (r : ByteArray) (i j : Nat) : (r.extract i j).data.toList = (r.data.toList.take j).drop i := by
  rw [ByteArray.data_extract]; simp [List.drop_take, Array.toList_extract]
set_option maxRecDepth 100000 in
theorem size_list (r : ByteArray) : r.data.toList.length = r.size := by simp
set_option maxRecDepth 100000 in
theorem comp_blk (p : List UInt8) (j : Nat) (r : ByteArray) (hr : r.data.toList = p.drop (64 * j)) (st : St) :
    addS st (mix K0 (sch (gof (r.extract 0 64)) 64) st 64) = comp st (fun i => p.getD (64 * j + i) 0) := by
  unfold comp
  rw [sch_ext (h := fun i => p.getD (64 * j + i) 0)]
  intro i hi
  unfold gof
  rw [extract_list, hr]
  simp only [List.drop_zero]
  rw [List.getD_eq_getElem?_getD, List.getD_eq_getElem?_getD, List.getElem?_take_of_lt hi, List.getElem?_drop]

set_option maxRecDepth 100000 in
theorem OfW.all8 {w v : World} {z b4 b5 : Nat} {a b c d e f g h : BitVec 32} (H : OfW w z b4 b5 (c8 ⟨a, b, c, d, e, f, g, h⟩) v) :
    v.cell? ⟨b4, 0, none⟩ = some (.int .u32 (V a)) ∧ v.cell? ⟨b4, 1, none⟩ = some (.int .u32 (V b)) ∧ v.cell? ⟨b4, 2, none⟩ = some (.int .u32 (V c)) ∧ v.cell? ⟨b4, 3, none⟩ = some (.int .u32 (V d)) ∧
      v.cell? ⟨b4, 4, none⟩ = some (.int .u32 (V e)) ∧ v.cell? ⟨b4, 5, none⟩ = some (.int .u32 (V f)) ∧ v.cell? ⟨b4, 6, none⟩ = some (.int .u32 (V g)) ∧ v.cell? ⟨b4, 7, none⟩ = some (.int .u32 (V h)) :=
  ⟨H.at 0 rfl, H.at 1 rfl, H.at 2 rfl, H.at 3 rfl, H.at 4 rfl, H.at 5 rfl, H.at 6 rfl, H.at 7 rfl⟩
set_option maxRecDepth 100000 in
theorem sched_in {w : World} {z b4 b5 : Nat} {a b c d e f g h : BitVec 32} (blk : ByteArray) (hb : blk.size = 64) (v : World) (hv : OfW w z b4 b5 (c8 ⟨a, b, c, d, e, f, g, h⟩) v) :
    Calls Try.prog 51 #[.string blk] v fun e' v' => e' = .returned (.agg (ws (sch (gof blk) 64))) ∧ OfW w z b4 b5 (c8 ⟨a, b, c, d, e, f, g, h⟩) v' ∧
      (v'.cell? ⟨b4, 0, none⟩ = some (.int .u32 (V a)) ∧ v'.cell? ⟨b4, 1, none⟩ = some (.int .u32 (V b)) ∧ v'.cell? ⟨b4, 2, none⟩ = some (.int .u32 (V c)) ∧ v'.cell? ⟨b4, 3, none⟩ = some (.int .u32 (V d)) ∧
      v'.cell? ⟨b4, 4, none⟩ = some (.int .u32 (V e)) ∧ v'.cell? ⟨b4, 5, none⟩ = some (.int .u32 (V f)) ∧ v'.cell? ⟨b4, 6, none⟩ = some (.int .u32 (V g)) ∧ v'.cell? ⟨b4, 7, none⟩ = some (.int .u32 (V h))) :=
  (schedule_any blk hb v).mono fun _ _ ⟨he, hb⟩ => ⟨he, hv.past hb, (hv.past hb).all8⟩
set_option maxRecDepth 100000 in
theorem mixed_in {w : World} {z b4 b5 : Nat} (wl : List (BitVec 32)) (hl : wl.length = 64) (st : St) (v : World) (hv : OfW w z b4 b5 (c8 st) v) :
    Calls Try.prog 50 #[.agg #[.int .u32 (V st.a), .int .u32 (V st.b), .int .u32 (V st.c), .int .u32 (V st.d), .int .u32 (V st.e), .int .u32 (V st.f), .int .u32 (V st.g), .int .u32 (V st.h)], .pointer (some ⟨b5, 0, none⟩), .agg (ws wl)] v fun e' v' => e' = .returned (.agg (c8 (mix K0 wl st 64))) ∧ OfW w z b4 b5 (c8 st) v' ∧
      (v'.cell? ⟨b4, 0, none⟩ = some (.int .u32 (V st.a)) ∧ v'.cell? ⟨b4, 1, none⟩ = some (.int .u32 (V st.b)) ∧ v'.cell? ⟨b4, 2, none⟩ = some (.int .u32 (V st.c)) ∧ v'.cell? ⟨b4, 3, none⟩ = some (.int .u32 (V st.d)) ∧
      v'.cell? ⟨b4, 4, none⟩ = some (.int .u32 (V st.e)) ∧ v'.cell? ⟨b4, 5, none⟩ = some (.int .u32 (V st.f)) ∧ v'.cell? ⟨b4, 6, none⟩ = some (.int .u32 (V st.g)) ∧ v'.cell? ⟨b4, 7, none⟩ = some (.int .u32 (V st.h))) :=
  (mixed_any st K0 wl b5 rfl hl v (lt_of_some hv.key) hv.key).mono fun _ _ ⟨he, hb⟩ => ⟨he, hv.past hb, (hv.past hb).all8⟩

def strLen : Value → Nat
  | .string s => s.size
  | _ => 0

set_option maxHeartbeats 1000000 in
set_option maxRecDepth 100000 in
theorem of_any (s : ByteArray) (hs : s.size ≤ 4000) (w : World) :
    Calls Try.prog 28 #[.string s] w fun e w' => e = .returned (.agg (row (sha s.data.toList))) ∧ Below w.heap.size w w' := by
  go_enter Try.func28, Try.ntmps28
  go_wp2_with fail
  rw [← d0_zero]
  refine (primes_any _).mono ?_
  rintro e w1 ⟨rfl, h1⟩
  go_wp2_with (with_reducible refine wpList_store_row rfl 67 (.tmp 3) (.tmp 9) rfl _ (us PR) rfl rfl 67 (fcells []) ?hg (by kernel_rfl) (by kernel_rfl) (by kernel_rfl) ?_)
  case hg => rw [fcells_zero, heap_alloc_if, if_pos rfl]
  rw [World.setRow_alloc_new]
  have hz1 : w.heap.size < w1.heap.size := by have := h1.size; simp at this; omega
  have hb1 : Below w.heap.size w w1 := ((Below.refl _ _).alloc (Nat.le_refl _) _).trans (h1.mono (by simp))
  have hr1 : (w1.alloc (.cells (us PR) 67)).heap[w.heap.size]? = some (.cells d0 31) := by
    rw [heap_alloc_if, if_neg (by omega), h1.block _ (by simp), heap_alloc_if, if_pos rfl]
  have hs1 : (w1.alloc (.cells (us PR) 67)).heap[w1.heap.size]? = some (.cells (us PR) 67) := by rw [heap_alloc_if, if_pos rfl]
  refine firsts s w _ w.heap.size w1.heap.size d0 hz1 _ _ _ _ _ _ _ _ rfl rfl rfl rfl rfl rfl rfl rfl rfl rfl rfl rfl rfl rfl rfl rfl rfl rfl rfl rfl rfl rfl rfl rfl rfl rfl rfl rfl rfl rfl rfl rfl rfl (by kernel_rfl) (by kernel_rfl) (by kernel_rfl) (by kernel_rfl) (by kernel_rfl) (by kernel_rfl) (by kernel_rfl) (by kernel_rfl) (by kernel_rfl) (by kernel_rfl) (by kernel_rfl) (by kernel_rfl) (by kernel_rfl) (by kernel_rfl) (by kernel_rfl) (by kernel_rfl) (hb1.alloc (by omega) _) hs1 hr1 ?_
  intro b4 b5 v hv1 hv2 hv3 hv4 hv5 hv6 hv7
  have hW := Lib.hid (OfW.mk hv1 hv2 hv3 hv4 hv5 hv6 hv7)
  clear hv1 hv2 hv3 hv4 hv5 hv6 hv7 hs1 hr1 hb1 hz1 h1
  unfold fr
  go_wp2_with fail
  refine (pad_any s hs _).mono ?_
  rintro e v1 ⟨rfl, hb⟩
  have hW1 := Lib.hid (hW.out.past hb)
  clear hW hb
  go_wp2_with fail
  obtain ⟨P0, hP⟩ : ∃ P0, ByteArray.mk (pad s.data.toList).toArray = P0 := ⟨_, rfl⟩
  have hP1 : P0.data.toList = pad s.data.toList := by rw [← hP]
  have hsz : P0.size ≤ 4200 := by
    rw [← size_list, hP1, pad_length, size_list]
    unfold zer; omega
  have hmod := pad_mod s.data.toList
  rw [← hP1, size_list] at hmod
  have hsha : sha s.data.toList = bytesOf (stt (pad s.data.toList) (P0.size / 64)).toL := by unfold sha; rw [← hP1, size_list]
  rw [hP]
  have H := Lib.hid (And.intro hP1 (And.intro hmod hsha))
  clear hP hP1 hmod hsha
  go_loopw [6] (fun r wr => ∃ (j : Nat) (rb : ByteArray), 64 * j + rb.size = P0.size ∧ Hid (rb.data.toList = (pad s.data.toList).drop (64 * j)) ∧ r = .string rb ∧ Hid (OfW w w.heap.size b4 b5 (c8 (stt (pad s.data.toList) j)) wr)) (fun r _ => strLen r)
  case atStart => exact ⟨0, P0, by omega, by show _ = _; rw [H.out.1]; simp, rfl, hW1.out⟩
  case round =>
    obtain ⟨j, rb, hjr, hrb, rfl, hO⟩ := hrel
    rename_i wr
    have hjr' := Lib.hid hjr
    by_cases hlt : 64 ≤ rb.size
    · have hlt' : (64 : Int) ≤ (rb.size : Int) := by omega
      have hrs : rb.size ≤ 4200 := by omega
      obtain ⟨st, hst⟩ : ∃ st, stt (pad s.data.toList) j = st := ⟨_, rfl⟩
      rw [hst] at hO
      have hst' := Lib.hid hst
      have hbs : (rb.extract 0 64).size = 64 := by rw [ByteArray.size_extract]; omega
      have hbs' := Lib.hid hbs
      have hcmp := Lib.hid (comp_blk (pad s.data.toList) j rb hrb.out st)
      obtain ⟨m, hm⟩ : ∃ m, mix K0 (sch (gof (rb.extract 0 64)) 64) st 64 = m := ⟨_, rfl⟩
      rw [hm] at hcmp
      have hm' := Lib.hid hm
      obtain ⟨a, b, c, d, e, f, g, hh⟩ := st
      have hq := hO.out.drew.all8
      have hsc := Lib.hid (fun v hv => sched_in (w := w) (z := w.heap.size) (b4 := b4) (b5 := b5) (a := a) (b := b) (c := c) (d := d) (e := e) (f := f) (g := g) (h := hh) (rb.extract 0 64) hbs v hv)
      have hmx := Lib.hid (fun v hv => mixed_in (w := w) (z := w.heap.size) (b4 := b4) (b5 := b5) (sch (gof (rb.extract 0 64)) 64) (sch_length _ _) ⟨a, b, c, d, e, f, g, hh⟩ v hv)
      rw [hm] at hmx
      clear hst hbs hm hjr
      obtain ⟨q0, q1, q2, q3, q4, q5, q6, q7⟩ := hq
      go_wp2_with fail
      go_region_held3 (fun w' => w'.cell? ⟨b4, 0, none⟩ = some (.int .u32 (V a)) ∧ w'.cell? ⟨b4, 1, none⟩ = some (.int .u32 (V b)) ∧ w'.cell? ⟨b4, 2, none⟩ = some (.int .u32 (V c)) ∧ w'.cell? ⟨b4, 3, none⟩ = some (.int .u32 (V d)) ∧ w'.cell? ⟨b4, 4, none⟩ = some (.int .u32 (V e)) ∧ w'.cell? ⟨b4, 5, none⟩ = some (.int .u32 (V f)) ∧ w'.cell? ⟨b4, 6, none⟩ = some (.int .u32 (V g)) ∧ w'.cell? ⟨b4, 7, none⟩ = some (.int .u32 (V hh)))
        (first | exact ⟨q0, q1, q2, q3, q4, q5, q6, q7⟩ | exact hA8 | exact hB8)
        (first
        | (go_at_call 51; refine (hsc.out _ ?_).mono ?_; exact hO.out.drew; rintro ee vA ⟨rfl, hOA, hA8⟩)
        | (go_at_call 50; refine (hmx.out _ ?_).mono ?_; exact hOA; rintro ee vB ⟨rfl, hOB, hB8⟩))
      have hOB' := Lib.hid hOB
      clear hOB hOA hO hA8 hB8 q0 q1 q2 q3 q4 q5 q6 q7 hsc hmx
      go_wp2_with fail
      go_loopw [26] (fun i wr => ∃ k : Nat, k ≤ 8 ∧ i = .int .i64 k ∧ Hid (OfW w w.heap.size b4 b5 (asum ⟨a, b, c, d, e, f, g, hh⟩ m k) wr)) (fun i _ => 8 - (intOf i).toNat)
      case atStart => exact ⟨0, by omega, rfl, hOB'.out⟩
      case round =>
        obtain ⟨k, hk, rfl, hk2⟩ := hrel
        rename_i wq
        by_cases hk3 : k < 8
        · have hb : (k : Int) < 8 := by omega
          have h1 := fun v => run_index_row (P := Try.prog) 70 69 8 (c8 m) k _ Try.underlying70 Try.isAgg69 Try.sizeOf69 hk3 (c8_at m k hk3) v
          have h2 := hk2.out.at k (asum_at _ m k hk3)
          have h3 := frozen_row hk2.out.sum k
          have h4 := Lib.hid (asum_set ⟨a, b, c, d, e, f, g, hh⟩ m k hk3)
          have h5 := addV ((St.mk a b c d e f g hh).toL.getD k 0#32) (m.toL.getD k 0#32)
          revert h1 h2 h4 h5
          generalize (St.mk a b c d e f g hh).toL.getD k 0#32 = x
          generalize m.toL.getD k 0#32 = y
          intro h1 h2 h4 h5
          go_wp2_with fail
          go_roundw
          case rel =>
            refine ⟨k + 1, by omega, by go_num, ?_⟩
            rw [← h4.out]
            exact hk2.out.set k _
          case measure => simp [intOf]; omega
        · obtain rfl : k = 8 := by omega
          go_wp2_with fail
          go_roundw
          case rel =>
            refine ⟨j + 1, rb.extract 64 rb.size, ?_, ?_, rfl, ?_⟩
            · rw [ByteArray.size_extract]; have := hjr'.out; omega
            · show _ = _
              rw [extract_list, List.take_of_length_le (by rw [size_list]; omega), hrb.out, List.drop_drop, show 64 * (j + 1) = 64 * j + 64 by omega]
            · have := hk2.out
              rw [asum_end, hcmp.out, ← hst'.out] at this
              exact this
          case measure => simp [strLen]; omega
    · have hje : j = P0.size / 64 := by have := H.out.2.1; omega
      obtain ⟨st, hst⟩ : ∃ st, stt (pad s.data.toList) j = st := ⟨_, rfl⟩
      rw [hst] at hO
      have hfin : sha s.data.toList = bytesOf st.toL := by rw [H.out.2.2, ← hje, hst]
      have hfin' := Lib.hid hfin
      have hi : Hid ((Try.prog.info? 70).map (·.size) = some (c8 st).size) := by show _ = _; kernel_rfl
      have hlt' : ¬ (64 : Int) ≤ (rb.size : Int) := by omega
      have hg := hO.out.sum
      clear hjr hst hje hfin
      go_wp2_with (with_reducible refine wpList_load_row rfl 70 (.tmp 4) rfl _ rfl 70 (c8 st) _ hg Try.underlying70 rfl hi.out ?_)
      refine (joined_any st.toL (toL_len st) _).mono ?_
      rintro e v2 ⟨rfl, hb⟩
      have hO2 := hO.out.past hb
      have hr2 := hO2.res
      have hi2 : Hid ((Try.prog.info? 31).map (·.size) = some (row (bytesOf st.toL)).size) := by show _ = _; rw [row_size, bytesOf_length, toL_len]; kernel_rfl
      have ho2 : Hid (d0.size = (row (bytesOf st.toL)).size) := by show _ = _; rw [row_size, bytesOf_length, toL_len]; kernel_rfl
      have hO2' := Lib.hid hO2
      clear hO2 hg
      go_wp2_with (with_reducible refine wpList_store_row rfl 31 (.tmp 2) (.tmp 38) rfl _ (row (bytesOf st.toL)) rfl rfl 31 d0 hr2 hi2.out ho2.out (row_one _) ?_)
      exact bodyPost_row 2 31 rfl _ rfl 31 (row (bytesOf st.toL)) _ (setRow_heap _ _ _ _ _ _ hr2) Try.underlying31 rfl hi2.out rfl ⟨by rw [hfin'.out], below_setRow hO2'.out.bel (Nat.le_refl _) _⟩
end Go.Proofs.Ytphbkbjgjicncaa.sh
