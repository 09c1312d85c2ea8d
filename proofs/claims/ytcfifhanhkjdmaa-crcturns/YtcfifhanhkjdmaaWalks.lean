/-
  What halve, Step, digit, Number and Text of the program, and Step, Number and Text of the reference, return: for every argument.
-/
import Derived.Test.YtcfifhanhkjdmaaRows
import Derived.Test.YtcfifhanhkjdmaaDigits
import Derived.WalkKit
import Derived.WalkSpells
import Derived.WalkLawsBesides
import Derived.Handy
import Derived.Lib.Hide
import Derived.Laws.IdiomStrings
import Derived.Lib.OthersKept
import Derived.BigQuiet
import Derived.Deep.QuietTactic
namespace Go.Proofs.Ytcfifhanhkjdmaa
open Go.RowKit

set_option maxHeartbeats 400000 in
theorem halve_any (c : BitVec 32) (n : Nat) (hn : n ≤ 32) (w : World) :
    Calls Try.prog 22 #[.int .u32 (V c), .int .i64 n] w fun e w' => e = .returned (.int .u32 (V (hv n c))) ∧ w = w' := by
  go_enter Try.func22, Try.ntmps22
  go_wp2
  go_loop [0, 6] (fun a i => ∃ k : Nat, k ≤ n ∧ i = .int .i64 k ∧ a = .int .u32 (V (hv k c))) (fun _ i => n - (intOf i).toNat)
  case atStart => exact ⟨0, Nat.zero_le _, rfl, rfl⟩
  case round =>
    obtain ⟨k, hk, rfl, rfl⟩ := hrel
    by_cases hlt : k < n
    · cases hb : (hv k c).getLsbD 0
      · have h1 : (bits .and .u32 (V (hv k c)) 1 == 0) = true := by rw [and1, hb]; rfl
        have hs : Hid (V (hv k c) / 2 = V (hv (k + 1) c)) := by show _ = V (hv1 _); rw [hv1_even _ hb, shr1]
        clear hb
        go_wp2
        go_round
        case rel => exact ⟨k + 1, by omega, by go_num, u32_eq hs.out⟩
        case measure => simp [intOf]; omega
      · have h1 : (bits .and .u32 (V (hv k c)) 1 == 0) = false := by rw [and1, hb]; rfl
        have hs : Hid (bits .xor .u32 (V (hv k c) / 2) 3988292384 = V (hv (k + 1) c)) := by show _ = V (hv1 _); rw [hv1_odd _ hb, shr1, xor_poly]
        clear hb
        go_wp2
        go_round
        case rel => exact ⟨k + 1, by omega, by go_num, u32_eq hs.out⟩
        case measure => simp [intOf]; omega
    · obtain rfl : n = k := by omega
      go_wp2
      go_ret
      exact ⟨rfl, rfl⟩

set_option maxHeartbeats 400000 in
theorem step_any (c : BitVec 32) (b : UInt8) (w : World) :
    Calls Try.prog 15 #[.int .u32 (V c), .int .u8 (b.toNat : Int)] w fun e w' => e = .returned (.int .u32 (V (stp c b))) ∧ w = w' := by
  go_enter Try.func15, Try.ntmps15
  go_wp2_with fail
  rw [byteV, xorV]
  refine (halve_any _ 8 (by omega) _).mono ?_
  rintro e w' ⟨rfl, rfl⟩
  go_wp2
  go_ret
  exact ⟨rfl, rfl⟩

set_option maxHeartbeats 400000 in
theorem rstep_any (c : BitVec 32) (b : UInt8) (w : World) :
    Calls Try.prog 16 #[.int .u32 (V c), .int .u8 (b.toNat : Int)] w fun e w' => e = .returned (.int .u32 (V (stp c b))) ∧ w = w' := by
  go_enter Try.func16, Try.ntmps16
  go_wp2
  go_loop [0, 5] (fun a i => ∃ k : Nat, k ≤ 8 ∧ i = .int .i64 k ∧ a = .int .u32 (V (hv k (c ^^^ byte b)))) (fun _ i => 8 - (intOf i).toNat)
  case atStart => exact ⟨0, by omega, rfl, u32_eq (by rw [byteV, xorV]; rfl)⟩
  case round =>
    obtain ⟨k, hk, rfl, rfl⟩ := hrel
    by_cases hlt : k < 8
    · cases hb : (hv k (c ^^^ byte b)).getLsbD 0
      · have h1 : ((V (hv k (c ^^^ byte b))).tmod 2 == 1) = false := by rw [tmod2, hb]
        have hs : Hid ((V (hv k (c ^^^ byte b))).tdiv 2 % 4294967296 = V (hv (k + 1) (c ^^^ byte b))) := by show _ = V (hv1 _); rw [hv1_even _ hb, tdiv2]
        clear hb
        go_wp2
        go_round
        case rel => exact ⟨k + 1, by omega, by go_num, u32_eq hs.out⟩
        case measure => simp [intOf]; omega
      · have h1 : ((V (hv k (c ^^^ byte b))).tmod 2 == 1) = true := by rw [tmod2, hb]
        have hs : Hid (bits .xor .u32 ((V (hv k (c ^^^ byte b))).tdiv 2 % 4294967296) 3988292384 = V (hv (k + 1) (c ^^^ byte b))) := by show _ = V (hv1 _); rw [hv1_odd _ hb, tdiv2, xor_poly]
        clear hb
        go_wp2
        go_round
        case rel => exact ⟨k + 1, by omega, by go_num, u32_eq hs.out⟩
        case measure => simp [intOf]; omega
    · obtain rfl : k = 8 := by omega
      go_wp2
      go_ret
      exact ⟨rfl, rfl⟩

theorem halve_T (i : Int) (h0 : 0 ≤ i) (h1 : i < 16) (w : World) :
    Calls Try.prog 22 #[.int .u32 i, .int .i64 4] w fun e w' => e = .returned (.int .u32 (T i.toNat)) ∧ w = w' := by
  have h := halve_any (BitVec.ofNat 32 i.toNat) 4 (by omega) w
  rw [V_of i h0 (by omega)] at h
  exact h

theorem text_conv (c : BitVec 32) (w : World) :
    (convert 33 9 (.slice (some ⟨w.heap.size, 0, none⟩) 8 8)).run Try.prog (w.alloc (.cells (tcells c 8) 41)) = .ok (.string ⟨(txt c).toArray⟩) (w.alloc (.cells (tcells c 8) 41)) := by
  have h := run_convert_bytes_back (P := Try.prog) (w.alloc (.cells (tcells c 8) 41)) 33 9 5 ⟨w.heap.size, 0, none⟩ 8 (txt c) Try.underlying33 Try.underlying5 Try.underlying9 (fun j hj => by
    rw [txt_length] at hj
    have e : (⟨w.heap.size, 0, none⟩ : Addr).add j = ⟨w.heap.size, j, none⟩ := by unfold Addr.add; split <;> simp_all
    rw [e, World.cell?_alloc_at _ _ _ _ rfl, tcells_at _ _ _ hj]
    simp [tcell, txt, hj])
  rw [txt_length] at h
  exact h

set_option maxHeartbeats 400000 in
theorem text_any (c : BitVec 32) (w : World) :
    Calls Try.prog 19 #[.int .u32 (V c)] w fun e w' => e = .returned (.string ⟨(txt c).toArray⟩) ∧ Below w.heap.size w w' := by
  go_enter Try.func19, Try.ntmps19
  go_wp2_with fail
  rw [← tcells_zero c]
  go_loopw [0, 5] (fun a i wr => ∃ k : Nat, k ≤ 8 ∧ i = .int .i64 k ∧ a = .int .u32 (V (c <<< (4 * k))) ∧ wr = w.alloc (.cells (tcells c k) 41)) (fun _ i _ => 8 - (intOf i).toNat)
  case atStart => exact ⟨0, by omega, rfl, by simp, rfl⟩
  case round =>
    obtain ⟨k, hk, rfl, rfl, rfl⟩ := hrel
    by_cases hlt : k < 8
    · have h1 := shr28 (c <<< (4 * k))
      have h2 := shr28_lt (c <<< (4 * k))
      have h3 : 0 ≤ V (c <<< (4 * k)) / (268435456 : Int) := by omega
      have h4 : V (c <<< (4 * k)) / (268435456 : Int) < 16 := by omega
      have hb : (k : Int) < 8 := by omega
      clear h1 h2
      have hc := tcells_at c k k hlt
      have hd := Lib.hid (tcells_set c k)
      go_wp2_with fail
      go_roundw
      case rel => 
        refine ⟨k + 1, by omega, by go_num, u32_eq ?_, ?_⟩
        · rw [shl4, show 4 * (k + 1) = 4 * k + 4 by omega, BitVec.shiftLeft_add]
        · rw [← hd.out]
          exact congrArg (fun v => w.alloc (.cells ((tcells c k).setIfInBounds k v) 41)) (digs_at c k _ rfl _)
      case measure => simp [intOf]; omega
    · obtain rfl : k = 8 := by omega
      have hv := text_conv c w
      go_wp2_with fail
      go_ret
      exact ⟨rfl, by go_grown⟩

theorem next_dg (w : World) (pos : Nat) (h : pos < 16) (ty : TypeId) :
    (Instr.next (.pointer (some ⟨w.heap.size, 0, none⟩)) true ty).run Try.prog (w.iter digs pos) = .ok (.tuple #[.bool true, .int .i64 pos, .int .i32 ((dg pos).toNat : Int)]) (w.iter digs (pos + 1)) := by
  have hp : pos < digs.size := h
  have := run_next_ascii (P := Try.prog) w digs pos ty hp (by rw [dg_at]; exact dg_low pos h)
  rw [dg_at] at this
  exact this

theorem below_iter (w : World) (s : ByteArray) (p : Nat) : Below w.heap.size w (w.iter s p) := (Below.refl _ _).alloc (Nat.le_refl _) _

set_option maxHeartbeats 400000 in
theorem digit_yes (n : Nat) (hn : n < 16) (w : World) :
    Calls Try.prog 23 #[.int .i32 ((dg n).toNat : Int)] w fun e w' => e = .returned (.tuple #[.int .u32 n, .bool true]) ∧ Below w.heap.size w w' := by
  go_enter Try.func23, Try.ntmps23
  go_wp2
  rw [digs_lit]
  go_loopw [] (fun wr => ∃ pos, pos ≤ n ∧ wr = w.iter digs pos) (fun wr => 16 - wr.iterPos w.heap.size)
  case atStart => exact ⟨0, by omega, rfl⟩
  case round =>
    obtain ⟨pos, hk, rfl⟩ := hrel
    have hnx := fun ty => next_dg w pos (by omega) ty
    by_cases he : pos = n
    · subst he
      go_wp2
      go_ret2
      exact ⟨by simp, below_iter _ _ _⟩
    · have hne : (((dg pos).toNat : Int) == ((dg n).toNat : Int)) = false := by
        rw [beq_eq_false_iff_ne]
        intro h
        exact he (dg_inj pos n (by omega) hn (by omega))
      go_wp2
      go_roundw
      case rel => exact ⟨pos + 1, by omega, rfl⟩
      case measure => simp; omega

set_option maxHeartbeats 400000 in
theorem digit_no (r : Int) (hr : ∀ n, n < 16 → ((dg n).toNat : Int) ≠ r) (w : World) :
    Calls Try.prog 23 #[.int .i32 r] w fun e w' => e = .returned (.tuple #[.int .u32 0, .bool false]) ∧ Below w.heap.size w w' := by
  have hr' := Lib.hid hr
  clear hr
  go_enter Try.func23, Try.ntmps23
  go_wp2
  rw [digs_lit]
  go_loopw [] (fun wr => ∃ pos, pos ≤ 16 ∧ wr = w.iter digs pos) (fun wr => 16 - wr.iterPos w.heap.size)
  case atStart => exact ⟨0, by omega, rfl⟩
  case round =>
    obtain ⟨pos, hk, rfl⟩ := hrel
    by_cases he : pos < 16
    · have hnx := fun ty => next_dg w pos he ty
      have hne : (((dg pos).toNat : Int) == r) = false := by
        rw [beq_eq_false_iff_ne]
        exact hr'.out pos he
      go_wp2
      go_roundw
      case rel => exact ⟨pos + 1, by omega, rfl⟩
      case measure => simp; omega
    · have hnx := fun ty => run_next_end (P := Try.prog) w digs pos ty (by show ¬ pos < 16; omega)
      go_wp2
      go_ret2
      exact ⟨rfl, below_iter _ _ _⟩

/-- What the iterator hands out next, where a digit stands. -/
theorem next_yes {w wr : World} {s : ByteArray} {k v : Nat} (hb : Below w.heap.size w wr) (hi : wr.heap[w.heap.size]? = some (.stringIter s k)) (hlt : k < s.size) (hv : val s[k] = some v) :
    ∃ W, (∀ ty, (Instr.next (.pointer (some ⟨w.heap.size, 0, none⟩)) true ty).run Try.prog wr = .ok (.tuple #[.bool true, .int .i64 k, .int .i32 ((dg v).toNat : Int)]) W) ∧
      Below w.heap.size w W ∧ W.heap[w.heap.size]? = some (.stringIter s (k + 1)) ∧ w.heap.size < W.heap.size := by
  obtain ⟨h1, h2⟩ := val_some hv
  refine ⟨wr.iterAt w.heap.size s (k + 1), fun ty => ?_, Lib.below_iterAt hb (Nat.le_refl _) _ _, Lib.iterAt_heap _ _ _ _ _ hi, ?_⟩
  · have := Lib.run_next_ascii_at (P := Try.prog) wr w.heap.size s k ty hi hlt (by rw [h2]; exact dg_low v h1)
    rw [h2] at this
    exact this
  · rw [Lib.iterAt_size]; exact (Array.getElem?_eq_some_iff.1 hi).1

/-- And where none stands. -/
theorem next_no {w wr : World} {s : ByteArray} {k : Nat} (hb : Below w.heap.size w wr) (hi : wr.heap[w.heap.size]? = some (.stringIter s k)) (hlt : k < s.size) (hv : val s[k] = none) :
    ∃ W, ∃ r : Int, (∀ ty, (Instr.next (.pointer (some ⟨w.heap.size, 0, none⟩)) true ty).run Try.prog wr = .ok (.tuple #[.bool true, .int .i64 k, .int .i32 r]) W) ∧
      Below w.heap.size w W ∧ (∀ n, n < 16 → ((dg n).toNat : Int) ≠ r) := by
  refine ⟨wr.iterAt w.heap.size s (k + (Utf8.decode s k).2), (Utf8.decode s k).1, fun ty => Lib.run_next_any_at (P := Try.prog) wr w.heap.size s k ty hi hlt, Lib.below_iterAt hb (Nat.le_refl _) _ _, fun n hn => ?_⟩
  by_cases ha : s[k].toNat < 128
  · rw [decode_ascii s k hlt ha]
    have := val_none hv n hn
    show ((dg n).toNat : Int) ≠ (s[k].toNat : Int)
    omega
  · have := (decode_high s k hlt (by omega)).1
    have := dg_low n hn
    omega

theorem number_short (s : ByteArray) (h : ¬ s.size = 8) (w : World) :
    Calls Try.prog 17 #[.string s] w fun e w' => e = numR s.data.toList ∧ Below w.heap.size w w' := by
  have hN : Hid (numR s.data.toList = .returned (.tuple #[.int .u32 0, .bool false])) := numR_none (by unfold num; rw [if_neg (by simpa using h)])
  have hb : ((s.size : Int) == 8) = false := by rw [beq_eq_false_iff_ne]; omega
  go_enter Try.func17, Try.ntmps17
  go_wp2
  go_ret2
  exact ⟨hN.out.symm, Below.refl _ _⟩

set_option maxHeartbeats 400000 in
theorem number_eight (s : ByteArray) (h : s.size = 8) (w : World) :
    Calls Try.prog 17 #[.string s] w fun e w' => e = numR s.data.toList ∧ Below w.heap.size w w' := by
  have hn : Hid (num s.data.toList = numTo (s.data.toList.drop 0) 0#32) := by unfold num; rw [if_pos (by simpa using h)]; rfl
  go_enter Try.func17, Try.ntmps17
  go_wp2_with fail
  have hs : Hid (s.size = 8) := h
  clear h
  go_loopw [4] (fun a wr => ∃ (k : Nat) (c : BitVec 32), k ≤ 8 ∧ a = .int .u32 (V c) ∧ Below w.heap.size w wr ∧ wr.heap[w.heap.size]? = some (.stringIter s k) ∧ numTo (s.data.toList.drop k) c = num s.data.toList) (fun _ wr => 8 - wr.iterPos w.heap.size)
  case atStart => exact ⟨0, 0#32, by omega, rfl, below_iter _ _ _, World.iter_heap _ _ _, hn.out.symm⟩
  case round =>
    obtain ⟨k, c, hk, rfl, hb, hi, hnum⟩ := hrel
    rename_i wr
    have hip : Hid (wr.iterPos w.heap.size = k) := iterPos_of hi
    by_cases hlt : k < 8
    · have hlt' : k < s.size := by rw [hs.out]; exact hlt
      rw [numTo_at hlt'] at hnum
      cases hv : val s[k] with
      | none =>
        rw [hv] at hnum
        obtain ⟨W, r, hnx, hW, hr⟩ := next_no hb hi hlt' hv
        have hnum' : Hid (num s.data.toList = none) := hnum.symm
        have hr' := Lib.hid hr
        clear hnum hi hv hr hb
        go_wp2_with fail
        refine (digit_no r hr'.out _).mono ?_
        rintro e W2 ⟨rfl, hW2⟩
        go_wp2_with fail
        go_ret2
        exact ⟨(numR_none hnum'.out).symm, hW.trans (hW2.mono hW.size)⟩
      | some v =>
        rw [hv] at hnum
        obtain ⟨W, hnx, hW, hWi, hWs⟩ := next_yes hb hi hlt' hv
        have hv16 := (val_some hv).1
        have hnum' : Hid (numTo (s.data.toList.drop (k + 1)) (put c v) = num s.data.toList) := hnum
        have hWi' := Lib.hid hWi
        clear hnum hi hv hb hWi
        go_wp2_with fail
        refine (digit_yes v hv16 _).mono ?_
        rintro e W2 ⟨rfl, hW2⟩
        have hi2 := Lib.hid ((hW2.block _ hWs).trans hWi'.out)
        go_wp2_with fail
        go_roundw
        case rel => exact ⟨k + 1, put c v, by omega, u32_eq (orShl c v hv16), hW.trans (hW2.mono hW.size), hi2.out, hnum'.out⟩
        case measure => rw [hip.out, iterPos_of hi2.out]; omega
    · have hnx := fun ty => Lib.run_next_end_at (P := Try.prog) wr w.heap.size s k ty hi (by rw [hs.out]; exact hlt)
      have hnum' : Hid (num s.data.toList = some c) := by
        rw [← hnum, List.drop_eq_nil_of_le (by have := hs.out; simp; omega)]; rfl
      clear hnum hi
      go_wp2_with fail
      go_ret2
      exact ⟨(numR_some hnum'.out).symm, hb⟩

set_option maxHeartbeats 400000 in
theorem rtext_any (c : BitVec 32) (w : World) :
    Calls Try.prog 20 #[.int .u32 (V c)] w fun e w' => e = .returned (.string ⟨(txt c).toArray⟩) ∧ w = w' := by
  go_enter Try.func20, Try.ntmps20
  go_wp2_with fail
  go_loop [0, 4, 5] (fun a t i => ∃ (k : Nat) (s : ByteArray), k ≤ 8 ∧ i = .int .i64 k ∧ a = .int .u32 (V (c >>> (4 * k))) ∧ t = .string s ∧ s.size ≤ 8 ∧ s = ⟨(rtl c k).toArray⟩) (fun _ _ i => 8 - (intOf i).toNat)
  case atStart => exact ⟨0, _, by omega, rfl, by simp, rfl, by decide, rfl⟩
  case round =>
    obtain ⟨k, s, hk, rfl, rfl, rfl, hsz, hs0⟩ := hrel
    have hs := Lib.hid hs0
    clear hs0
    by_cases hlt : k < 8
    · have hb : (k : Int) < 8 := by omega
      have hm := tmod16 (c >>> (4 * k))
      have hn : (c >>> (4 * k)).toNat % 16 < 16 := Nat.mod_lt _ (by decide)
      have hx : Hid (rtl c (k + 1) = dg ((c >>> (4 * k)).toNat % 16) :: rtl c k) := rfl
      revert hm hn hx
      generalize (c >>> (4 * k)).toNat % 16 = n
      intro hm hn hx
      go_wp2_with fail
      go_round
      case rel =>
        refine ⟨k + 1, ⟨(rtl c (k + 1)).toArray⟩, by omega, by go_num, u32_eq ?_, ?_, ?_, rfl⟩
        · rw [tdiv16, show 4 * (k + 1) = 4 * k + 4 by omega, BitVec.shiftRight_add]
        · rw [hx.out, ← digs_cut n hn, hs.out]; rfl
        · show (rtl c (k + 1)).toArray.size ≤ 8
          simp [rtl_length]; omega
      case measure => simp [intOf]; omega
    · obtain rfl : k = 8 := by omega
      have h8 := Lib.hid (rtl_txt c)
      go_wp2_with fail
      go_ret
      rw [hs.out, h8.out]
      exact ⟨rfl, rfl⟩

set_option maxHeartbeats 1000000 in
theorem rnumber_eight (s : ByteArray) (h : s.size = 8) (w : World) :
    Calls Try.prog 18 #[.string s] w fun e w' => e = numR s.data.toList ∧ Below w.heap.size w w' := by
  have hn : Hid (num s.data.toList = numTo (s.data.toList.drop 0) 0#32) := by unfold num; rw [if_pos (by simpa using h)]; rfl
  go_enter Try.func18, Try.ntmps18
  go_wp2_with fail
  have hs : Hid (s.size = 8) := h
  clear h
  go_loopw [4, 5] (fun a i wr => ∃ (k : Nat) (c : BitVec 32), k ≤ 8 ∧ i = .int .i64 k ∧ a = .int .u32 (V c) ∧ Below w.heap.size w wr ∧ Hid (numTo (s.data.toList.drop k) c = num s.data.toList)) (fun _ i _ => 8 - (intOf i).toNat)
  case atStart => exact ⟨0, 0#32, by omega, rfl, rfl, Below.refl _ _, hn.out.symm⟩
  case round =>
    obtain ⟨k, c, hk, rfl, rfl, hb, hnum⟩ := hrel
    rename_i wr
    by_cases hlt : k < 8
    · have hlt' : k < s.size := by rw [hs.out]; exact hlt
      have hlti : (k : Int) < 8 := by omega
      go_wp2_with fail
      go_loopw [6, 7] (fun n q wq => ∃ (j : Nat), j ≤ 16 ∧ q = .int .i64 j ∧ n = .int .i64 (lst s[k] j) ∧ Below w.heap.size w wq) (fun _ q _ => 16 - (intOf q).toNat)
      case atStart => exact ⟨0, by omega, rfl, by rw [lst_zero], hb⟩
      case round =>
        obtain ⟨j, hj, rfl, rfl, hbq⟩ := hrel
        by_cases hj2 : j < 16
        · have hj3 : (j : Int) < 16 := by omega
          go_wp2_with fail
          go_quiet (fail)
          go_wp2_with fail
          · rename_i ht
            have hd := dg_eq j (s[k]) _ ht
            go_roundw
            case rel => exact ⟨j + 1, by omega, by go_num, by rw [lst_yes hj2 hd], below_drewN hbq _⟩
            case measure => simp [intOf]; omega
          · rename_i ht
            have hd := dg_ne j (s[k]) _ ht
            go_roundw
            case rel => exact ⟨j + 1, by omega, by go_num, by rw [lst_no hd], below_drewN hbq _⟩
            case measure => simp [intOf]; omega
        · obtain rfl : j = 16 := by omega
          cases hv : val s[k] with
          | none =>
            have hl := lst_none hv 16
            have hno : Hid (num s.data.toList = none) := by
              show _ = _
              rw [← hnum.out, numTo_at hlt', hv]
            clear hv hnum
            go_wp2_with fail
            go_ret2
            exact ⟨(numR_none hno.out).symm, hbq⟩
          | some v =>
            have hl := lst_some hv
            have hv16 := (val_some hv).1
            have hyes : Hid (numTo (s.data.toList.drop (k + 1)) (put c v) = num s.data.toList) := by
              show _ = _
              rw [← hnum.out, numTo_at hlt', hv]
            clear hv hnum
            go_wp2_with fail
            go_roundw
            case rel => exact ⟨k + 1, put c v, by omega, by go_num, u32_eq (addShl c v hv16), hbq, hyes⟩
            case measure => simp [intOf]; omega
    · have hnum' : Hid (num s.data.toList = some c) := by
        show _ = _
        rw [← hnum.out, List.drop_eq_nil_of_le (by have := hs.out; simp; omega)]; rfl
      go_wp2_with fail
      go_ret2
      exact ⟨(numR_some hnum'.out).symm, hb⟩

end Go.Proofs.Ytcfifhanhkjdmaa
