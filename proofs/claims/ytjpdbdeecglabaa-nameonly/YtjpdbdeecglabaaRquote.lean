/-
  What Quote of the reference returns: for every argument of a bounded length.
-/
import Derived.Test.YtjpdbdeecglabaaRvalid
import Derived.Test.YtjpdbdeecglabaaQuote
namespace Go.Proofs.Ytjpdbdeecglabaa
open Go.RowKit

theorem li_app (a b : ByteArray) : li (a ++ b) = li a ++ li b := by simp [li]
theorem li_cut (s : ByteArray) (i j : Nat) (_h : j ≤ s.size) : li (s.extract i j) = ((li s).drop i).take (j - i) := by
  show (s.extract i j).data.toList = _
  rw [ByteArray.data_extract]
  simp only [Array.toList_extract, List.extract_eq_take_drop]
theorem enc_cut (s : ByteArray) (pos : Nat) (hlt : pos < s.size) : li (s.extract pos (pos + (dec ((li s).drop pos)).2)) = enc (dec ((li s).drop pos)).1 := by
  have hw := drop_width hlt
  rw [li_cut _ _ _ hw.2, Nat.add_sub_cancel_left]
  have h1 := dec_take _ (drop_ne hlt)
  have h2 := dec_len _ (drop_ne hlt)
  generalize (dec ((li s).drop pos)).2 = n at h1 h2 ⊢
  generalize (dec ((li s).drop pos)).1 = p at h1 h2 ⊢
  rw [← h1, List.take_append_of_le_length (by omega), List.take_of_length_le (by omega)]
theorem byte_cut (s : ByteArray) (pos : Nat) (hlt : pos < s.size) : li (s.extract pos (pos + 1)) = [s[pos]'hlt] := by
  rw [li_cut _ _ _ (by omega), Nat.add_sub_cancel_left]
  have : (li s)[pos]? = some (s[pos]'hlt) := by
    show s.data.toList[pos]? = _
    rw [Array.getElem?_toList]
    exact Array.getElem?_eq_getElem hlt
  have hl : pos < (li s).length := by rw [li_len]; exact hlt
  rw [List.drop_eq_getElem_cons hl, List.take_succ_cons, List.take_zero]
  rw [List.getElem?_eq_getElem hl] at this
  rw [Option.some.inj this]
theorem digs_cut (k : Nat) (h : k < 16) : li ((⟨#[48, 49, 50, 51, 52, 53, 54, 55, 56, 57, 97, 98, 99, 100, 101, 102]⟩ : ByteArray).extract k (k + 1)) = [b8 (dg k)] := by
  have : ∀ n : Fin 16, li ((⟨#[48, 49, 50, 51, 52, 53, 54, 55, 56, 57, 97, 98, 99, 100, 101, 102]⟩ : ByteArray).extract n.val (n.val + 1)) = [b8 (dg n.val)] := by decide
  exact this ⟨k, h⟩

theorem conv_one (w : World) (c : UInt8) : (convert 32 9 (.slice (some ⟨w.heap.size, 0, none⟩) 1 1)).run Try.prog (w.alloc (.cells #[.int .u8 (c.toNat : Int)] 5)) = .ok (.string ⟨#[c]⟩) (w.alloc (.cells #[.int .u8 (c.toNat : Int)] 5)) := by
  have h := run_convert_bytes_back (P := Try.prog) (w.alloc (.cells #[.int .u8 (c.toNat : Int)] 5)) 32 9 5 ⟨w.heap.size, 0, none⟩ 1 [c] Try.underlying32 Try.underlying5 Try.underlying9 (fun j hj => by
    obtain rfl : j = 0 := by simp at hj; omega
    have e : (⟨w.heap.size, 0, none⟩ : Addr).add 0 = ⟨w.heap.size, 0, none⟩ := by unfold Addr.add; split <;> simp_all
    rw [e, World.cell?_alloc_at _ _ _ _ rfl]
    rfl)
  exact h

set_option maxHeartbeats 1000000 in
set_option maxRecDepth 100000 in
theorem rquote_any (s : ByteArray) (hs : s.size ≤ 1099511627776) (w : World) :
    Calls Try.prog 18 #[.string s] w fun e w' => e = .returned (.string ⟨(quote (li s)).toArray⟩) ∧ Below w.heap.size w w' := by
  have cv1 := conv_one w 92
  have cv2 := conv_one (w.alloc (.cells #[.int .u8 92] 5)) 34
  rw [show (w.alloc (.cells #[.int .u8 92] 5)).heap.size = w.heap.size + 1 by simp] at cv2
  rw [show (((92 : UInt8).toNat : Nat) : Int) = 92 from rfl] at cv1
  rw [show (((34 : UInt8).toNat : Nat) : Int) = 34 from rfl] at cv2
  go_enter Try.func18, Try.ntmps18
  go_wp2_with fail
  have hbel : Below w.heap.size w ((w.alloc (.cells #[.int .u8 92] 5)).alloc (.cells #[.int .u8 34] 5)) := ((Below.refl _ _).alloc (Nat.le_refl _) _).alloc (by simp) _
  have hbel' := Lib.hid hbel
  clear hbel cv1 cv2
  revert hbel'
  generalize (w.alloc (.cells #[.int .u8 92] 5)).alloc (.cells #[.int .u8 34] 5) = W
  intro hbel
  go_loopw [5, 6] (fun o i wr => ∃ (pos m : Nat) (out : ByteArray), o = .string out ∧ i = .int .i64 (pos : Int) ∧ wr = W.drewN m ∧ pos ≤ s.size ∧ out.size ≤ 1 + 5 * pos ∧ Hid (li out ++ ((pl ((li s).drop pos)).flatMap pp).flatMap enc = 34 :: body (li s))) (fun _ i _ => s.size - (intOf i).toNat)
  case atStart => exact ⟨0, 0, ⟨#[34]⟩, rfl, rfl, rfl, by omega, by decide, rfl⟩
  case round =>
    obtain ⟨pos, m, out, rfl, rfl, rfl, hp, hal, hacc⟩ := hrel
    by_cases hlt : pos < s.size
    · have hne := drop_ne hlt
      have hru := Lib.hid (fun v => rune_any (s.extract pos s.size) (by rw [li_extract]; exact hne) v)
      rw [li_extract] at hru
      have hw := drop_width hlt
      have hok := Lib.hid (dec_okp _ hne)
      have hle : (pos : Int) ≤ (s.size : Int) := by omega
      have hec := Lib.hid (enc_cut s pos hlt)
      have hlow : Hid (tld (dec ((li s).drop pos)).1 = true → low (dec ((li s).drop pos)).1 = (s[pos]'hlt).toNat) := told_low s pos hlt
      have hw1 := Lib.hid (dec_len _ hne)
      have hacc2 : Hid (li out ++ ((pp (dec ((li s).drop pos)).1).flatMap enc ++ ((pl ((li s).drop (pos + (dec ((li s).drop pos)).2))).flatMap pp).flatMap enc) = 34 :: body (li s)) := by
        show _ = _
        rw [← hacc.out, pl_at hlt, List.flatMap_cons, List.flatMap_append]
      have hbc := Lib.hid (byte_cut s pos hlt)
      obtain ⟨c, hch, hcb⟩ := byt8 s pos hlt
      rw [hch] at hlow hbc
      have hcl := c.toNat_lt
      clear hacc hcb
      unfold runeR at hru
      revert hru hw hok hlow hacc2 hec hw1
      generalize (dec ((li s).drop pos)).1 = p
      generalize (dec ((li s).drop pos)).2 = n
      intro hru hw hok hec hw1 hacc2 hlow
      by_cases h1 : p = 34 ∨ p = 92
      · have hr : rv p = (p : Int) := by unfold rv; rw [if_neg (by omega)]
        rw [hr] at hru
        rw [pp_quote p h1] at hacc2
        have hn1 : n = 1 := by rw [hw1.out, enc_low p (by omega)]; rfl
        have t0 : ((p : Int) == 34) = true ∨ ((p : Int) == 34) = false ∧ ((p : Int) == 92) = true := by
          rcases h1 with h1 | h1
          · left; rw [h1]; rfl
          · right; rw [h1]; exact ⟨rfl, rfl⟩
        subst hn1
        clear hlow hok
        rcases t0 with t1 | ⟨t1, t2⟩
        all_goals
          go_wp2_with (go_at_call 23; refine (hru.out _).mono ?_; rintro e w' ⟨rfl, rfl⟩)
          go_roundw
          case rel => exact ⟨pos + 1, m, out ++ ⟨#[92]⟩ ++ s.extract pos (pos + 1), rfl, by go_num, rfl, by omega, by rw [← li_len, li_app, li_app, hec.out, List.length_append, List.length_append, li_len, ← hw1.out]; simp; omega, by show _ = _; rw [← hacc2.out, li_app, li_app, hec.out]; simp [li]⟩
          case measure => simp [intOf]; omega
      have t1 : (rv p == 34) = false := by rw [beq_eq_false_iff_ne]; exact fun e => h1 (by unfold rv at e; split at e <;> omega)
      have t2 : (rv p == 92) = false := by rw [beq_eq_false_iff_ne]; exact fun e => h1 (by unfold rv at e; split at e <;> omega)
      by_cases h2 : p = 10
      · rw [pp_line p h2] at hacc2
        have hn1 : n = 1 := by rw [hw1.out, enc_low p (by omega)]; rfl
        subst hn1
        have t3 : (rv p == 10) = true := by rw [h2]; rfl
        clear hlow hok h1 h2 hec
        revert hru t1 t2 t3
        generalize rv p = r
        intro t1 t2 hru t3
        go_wp2_with (go_at_call 23; refine (hru.out _).mono ?_; rintro e w' ⟨rfl, rfl⟩)
        go_roundw
        case rel => exact ⟨pos + 1, m, out ++ ⟨#[92]⟩ ++ ⟨#[110]⟩, rfl, by go_num, rfl, by omega, by rw [← li_len, li_app, li_app, List.length_append, List.length_append, li_len]; simp; omega, by show _ = _; rw [← hacc2.out, li_app, li_app]; simp [li]⟩
        case measure => simp [intOf]; omega
      have t3 : (rv p == 10) = false := by rw [beq_eq_false_iff_ne]; exact fun e => h2 (by unfold rv at e; split at e <;> omega)
      cases hto : tld p
      · rw [pp_rune p h1 h2 hto] at hacc2
        have hov := okv_of p hok.out hto
        have hr : rv p = (p : Int) := by
          unfold okv at hov
          unfold rv; rw [if_neg (by omega)]
        rw [hr] at hru t1 t2 t3
        have t4 : decide ((32 : Int) ≤ (p : Int)) = true := by unfold tld at hto; simp at hto; simp; omega
        have t5 : ((p : Int) != 127) = true := by unfold tld at hto; simp at hto; simp; omega
        have he := enc_length p
        have hps : (pos : Int) + (n : Int) ≤ (s.size : Int) := by omega
        clear hlow hok h1 h2 hto hr hov
        go_wp2_with (go_at_call 23; refine (hru.out _).mono ?_; rintro e w' ⟨rfl, rfl⟩)
        go_roundw
        case rel => exact ⟨pos + n, m, out ++ s.extract pos (pos + n), rfl, by go_num, rfl, by omega, by rw [← li_len, li_app, hec.out, List.length_append, li_len]; omega, by show _ = _; rw [← hacc2.out, li_app, hec.out]; simp⟩
        case measure => simp [intOf]; omega
      · rw [pp_told p hok.out h1 h2 hto] at hacc2
        have hl := hlow.out hto
        rw [hl] at hacc2
        have hr : (decide ((32 : Int) ≤ rv p) = false) ∨ (decide ((32 : Int) ≤ rv p) = true ∧ (rv p != 127) = false) := by
          unfold tld at hto
          simp only [decide_eq_true_eq] at hto
          by_cases k : p = 127
          · right; rw [k]; exact ⟨rfl, rfl⟩
          · left
            simp only [decide_eq_false_iff_not]
            unfold rv; split <;> omega
        have d1 := Lib.hid (digs_cut (c.toNat / 16) (by omega))
        have d2 := Lib.hid (digs_cut (c.toNat % 16) (by omega))
        have q1 : (c.toNat : Int).tdiv 16 = ((c.toNat / 16 : Nat) : Int) := by rw [Int.tdiv_eq_ediv_of_nonneg (by omega)]; omega
        have q2 : (c.toNat : Int).tmod 16 = ((c.toNat % 16 : Nat) : Int) := by rw [Int.tmod_eq_emod_of_nonneg (by omega)]; omega
        clear hlow hok h1 h2 hto hec hl hbc
        revert hru t1 t2 t3 hr
        generalize rv p = r
        intro hru t1 t2 t3 hr
        rcases hr with t4 | ⟨t4, t5⟩
        all_goals
          go_wp2_with (go_at_call 23; refine (hru.out _).mono ?_; rintro e w' ⟨rfl, rfl⟩)
          go_quiet (fail)
          go_wp2_with fail
          go_roundw
          case rel => exact ⟨pos + n, _, out ++ ⟨#[92]⟩ ++ ⟨#[120]⟩ ++ (⟨#[48, 49, 50, 51, 52, 53, 54, 55, 56, 57, 97, 98, 99, 100, 101, 102]⟩ : ByteArray).extract (c.toNat / 16) (c.toNat / 16 + 1) ++ (⟨#[48, 49, 50, 51, 52, 53, 54, 55, 56, 57, 97, 98, 99, 100, 101, 102]⟩ : ByteArray).extract (c.toNat % 16) (c.toNat % 16 + 1), rfl, by go_num, rfl, by omega, by rw [← li_len, li_app, li_app, li_app, li_app, d1.out, d2.out, List.length_append, List.length_append, List.length_append, List.length_append, li_len]; simp; omega, by show _ = _; rw [← hacc2.out, li_app, li_app, li_app, li_app, d1.out, d2.out]; simp [li]⟩
          case measure => simp [intOf]; omega
    · have e : Hid (li out = 34 :: body (li s)) := by
        show _ = _
        rw [← hacc.out, drop_end hlt]; simp [pl_nil]
      have cv3 := conv_one (W.drewN m) 34
      rw [show (W.drewN m).heap.size = W.heap.size from rfl, show (((34 : UInt8).toNat : Nat) : Int) = 34 from rfl] at cv3
      clear hacc
      go_wp2_with fail
      go_ret
      refine ⟨?_, (below_drewN hbel.out m).alloc hbel.out.size _⟩
      have hq : (⟨(quote (li s)).toArray⟩ : ByteArray) = out ++ ⟨#[34]⟩ := li_inj (by rw [li_mk, li_app, e.out, quote_eq]; rfl)
      rw [hq]
      rfl

end Go.Proofs.Ytjpdbdeecglabaa
