/-
  What Quote of the program returns: for every argument of a bounded length.
-/
import Derived.Test.YtjpdbdeecglabaaLess
namespace Go.Proofs.Ytjpdbdeecglabaa
open Go.RowKit

/-- Is it told by its digits? -/
def tld (p : Nat) : Bool := decide (p < 32 ∨ p = 127 ∨ 1114112 ≤ p)

set_option maxHeartbeats 1000000 in
theorem told_any (s : ByteArray) (pos b : Nat) (w : World) (hlt : pos < s.size) (hc : w.cell? ⟨b, 0, none⟩ = some (.string s)) :
    Calls Try.prog 24 #[.int .i64 (pos : Int), .int .i32 (rn (dec ((li s).drop pos)).1 : Nat), .pointer (some ⟨b, 0, none⟩)] w fun e w' => e = .returned (.bool (tld (dec ((li s).drop pos)).1)) ∧ w = w' := by
  have hne := drop_ne hlt
  have hok := dec_okp _ hne
  have hbr := Lib.hid (fun v => broken_any (s.extract pos s.size) (by rw [li_extract]; exact hne) v)
  rw [li_extract] at hbr
  have hle : (pos : Int) ≤ (s.size : Int) := by omega
  revert hbr hok
  generalize (dec ((li s).drop pos)).1 = p
  intro hok hbr
  obtain ⟨r, hr⟩ : ∃ r, rn p = r := ⟨_, rfl⟩
  have hpr : (r = 65533 ∧ 1114112 ≤ p) ∨ (p = r ∧ p < 1114112) := by unfold rn at hr; split at hr <;> omega
  rw [hr] at hbr ⊢
  by_cases h1 : r < 32
  · have e : Hid (tld p = true) := by show _ = _; unfold tld; simp; omega
    have t1 : decide ((r : Int) < 32) = true := by simp; omega
    clear h1 hpr hr hok
    go_enter Try.func24, Try.ntmps24
    go_wp2_with fail
    go_ret
    exact ⟨by rw [e.out]; rfl, rfl⟩
  have t1 : decide ((r : Int) < 32) = false := by simp; omega
  by_cases h2 : r = 127
  · have e : Hid (tld p = true) := by show _ = _; unfold tld; simp; omega
    have t2 : ((r : Int) == 127) = true := by rw [h2]; rfl
    clear h1 h2 hpr hr hok
    go_enter Try.func24, Try.ntmps24
    go_wp2_with fail
    go_ret
    exact ⟨by rw [e.out]; rfl, rfl⟩
  have t2 : ((r : Int) == 127) = false := by rw [beq_eq_false_iff_ne]; omega
  have e : Hid (tld p = decide (1114112 ≤ p)) := by show _ = _; unfold tld; rw [decide_eq_decide]; omega
  clear h1 h2 hpr hr hok
  go_enter Try.func24, Try.ntmps24
  go_wp2_with (go_at_call 25; refine (hbr.out _).mono ?_; rintro e w' ⟨rfl, rfl⟩)
  go_ret
  exact ⟨by rw [e.out]; rfl, rfl⟩

theorem told_low (s : ByteArray) (pos : Nat) (hlt : pos < s.size) (h : tld (dec ((li s).drop pos)).1 = true) : low (dec ((li s).drop pos)).1 = (s[pos]'hlt).toNat := by
  rw [byt_at s pos hlt]
  have e1 : byt (li s) pos = byt ((li s).drop pos) 0 := by rw [byt_drop]; rfl
  rw [e1]
  unfold tld at h
  simp only [decide_eq_true_eq] at h
  unfold low
  rcases dec_ways _ (drop_ne hlt) with ⟨a, t, e0, h1, e⟩ | ⟨a, b, t, e0, h1, h2, h3, h4, e⟩ | ⟨a, b, c, t, e0, h1, h2, h3, h4, h5, h6, h7, h8, e⟩ | ⟨a, b, c, d, t, e0, h1, h2, h3, h4, h5, h6, h7, h8, h9, h10, e⟩ | ⟨a, t, e0, h1, e⟩
  all_goals (rw [e] at h ⊢; simp only at h ⊢)
  · rw [if_neg (by omega), e0]; rfl
  · omega
  · omega
  · omega
  · rw [if_pos (by omega), e0]
    show 1114112 + a.toNat - 1114112 = a.toNat
    omega

/-- The worlds of a round of Quote. -/
structure QW (w : World) (s : ByteArray) (k pos : Nat) (acc : List UInt8) (v : World) : Prop where
  bld : Lib.IsBuilderF 41 5 (w.heap.size + 1) (w.heap.size + 1) (Lib.byteCells acc) v
  it : v.heap[k]? = some (.stringIter s pos)
  box : v.heap[w.heap.size]? = some (.cells #[.string s] 9)
  bel : Below w.heap.size w v
  kb : w.heap.size + 1 < k
theorem QW.size {w v : World} {s : ByteArray} {k pos : Nat} {acc : List UInt8} (h : QW w s k pos acc v) : w.heap.size + 1 ≤ v.heap.size := by
  have := (Array.getElem?_eq_some_iff.1 h.it).1
  have := h.kb
  omega
theorem QW.cell {w v : World} {s : ByteArray} {k pos : Nat} {acc : List UInt8} (h : QW w s k pos acc v) : v.cell? ⟨w.heap.size, 0, none⟩ = some (.string s) := by
  rw [Lib.cell_of_heap h.box]; rfl
theorem QW.next {w v : World} {s : ByteArray} {k pos : Nat} {acc : List UInt8} (h : QW w s k pos acc v) (pos' : Nat) : QW w s k pos' acc (v.iterAt k s pos') := {
  bld := h.bld.iterAt h.it pos'
  it := Lib.iterAt_heap v k s pos pos' h.it
  box := by rw [Lib.iterAt_other _ _ _ _ _ (by have := h.kb; omega)]; exact h.box
  bel := Lib.below_iterAt h.bel (by have := h.kb; omega) s pos'
  kb := h.kb }
theorem QW.put {w v v' : World} {s : ByteArray} {k pos : Nat} {acc acc' : List UInt8} (h : QW w s k pos acc v) (h1 : Lib.BuilderAtF 41 5 (w.heap.size + 1) (w.heap.size + 1) (.pointer (some ⟨w.heap.size + 1, 0, none⟩)) (Lib.byteCells acc') v')
    (b1 : Below (w.heap.size + 1) v v') (k1 : Lib.OthersKept 5 (some (w.heap.size + 1)) v v') : QW w s k pos acc' v' := {
  bld := .inr h1
  it := k1.iter h.it (by have := h.kb; omega)
  box := k1 _ _ h.box (fun e => by have := Option.some.inj e; omega) (fun c fz e => by cases e)
  bel := h.bel.trans (b1.mono (by omega))
  kb := h.kb }

theorem QW.wbyte {w v : World} {s : ByteArray} {k pos : Nat} {acc : List UInt8} (h : QW w s k pos acc v) (hal : acc.length ≤ 70368744177664) (c : Int) (d : UInt8) (hd : (d.toNat : Int) = c) :
    Calls Try.prog 26 #[.pointer (some ⟨w.heap.size + 1, 0, none⟩), .int .u8 c] v fun e v' => e = .returned .nilIface ∧ QW w s k pos (acc ++ [d]) v' := by
  refine (Try.Builder_WriteByte_k (w.heap.size + 1) (w.heap.size + 1) _ c _ h.bld (by rw [Lib.byteCells_length]; omega) h.size).mono ?_
  rintro e v' ⟨rfl, h1, b1, k1⟩
  refine ⟨rfl, h.put ?_ b1 k1⟩
  rw [Lib.byteCells_append]
  subst hd
  exact h1
theorem QW.wstring {w v : World} {s : ByteArray} {k pos : Nat} {acc : List UInt8} (h : QW w s k pos acc v) (hal : acc.length ≤ 70368744177664) (t : ByteArray) (ht : t.size ≤ 4) :
    Calls Try.prog 28 #[.pointer (some ⟨w.heap.size + 1, 0, none⟩), .string t] v fun e v' => e = .returned (.tuple #[.int .i64 t.size, .nilIface]) ∧ QW w s k pos (acc ++ li t) v' := by
  refine (Try.Builder_WriteString_k (w.heap.size + 1) (w.heap.size + 1) _ t _ h.bld (by rw [Lib.byteCells_length]; omega) h.size).mono ?_
  rintro e v' ⟨rfl, h1, b1, k1⟩
  refine ⟨rfl, h.put ?_ b1 k1⟩
  rw [Lib.byteCells_append]
  exact h1
theorem QW.wrune {w v : World} {s : ByteArray} {k pos : Nat} {acc : List UInt8} (h : QW w s k pos acc v) (hal : acc.length ≤ 70368744177664) (p : Nat) (hp : okv p) :
    Calls Try.prog 27 #[.pointer (some ⟨w.heap.size + 1, 0, none⟩), .int .i32 (p : Int)] v fun e v' => e = .returned (.tuple #[.int .i64 (Lib.runeCells (p : Int)).length, .nilIface]) ∧ QW w s k pos (acc ++ enc p) v' := by
  have hp' : p < 1114112 := hp.1
  refine (Try.Builder_WriteRune_k (w.heap.size + 1) (w.heap.size + 1) _ (p : Int) (by omega) (by omega) _ h.bld (by rw [Lib.byteCells_length]; omega) h.size).mono ?_
  rintro e v' ⟨rfl, h1, b1, k1⟩
  refine ⟨rfl, h.put ?_ b1 k1⟩
  rw [Lib.byteCells_append, ← encodeRune_eq p hp, Lib.byteCells_encodeRune]
  exact h1

theorem pp_quote (p : Nat) (h : p = 34 ∨ p = 92) : (pp p).flatMap enc = [92] ++ enc p := by
  unfold pp; rw [if_pos h]; simp [List.flatMap_cons, show enc 92 = [92] by decide]
theorem pp_line (p : Nat) (h : p = 10) : (pp p).flatMap enc = [92, 110] := by subst h; decide
theorem pp_told (p : Nat) (ho : okp p) (h1 : ¬ (p = 34 ∨ p = 92)) (h2 : ¬ p = 10) (h : tld p = true) : (pp p).flatMap enc = [92, 120] ++ [b8 (dg (low p / 16))] ++ [b8 (dg (low p % 16))] := by
  unfold tld at h
  simp only [decide_eq_true_eq] at h
  have hl := low_lt p ho h
  have r1 := dg_rng (low p / 16) (by omega)
  have r2 := dg_rng (low p % 16) (by omega)
  unfold pp; rw [if_neg h1, if_neg h2, if_pos h]
  simp [List.flatMap_cons, enc_low (dg (low p / 16)) (by omega), enc_low (dg (low p % 16)) (by omega), show enc 92 = [92] by decide, show enc 120 = [120] by decide]
theorem pp_rune (p : Nat) (h1 : ¬ (p = 34 ∨ p = 92)) (h2 : ¬ p = 10) (h : tld p = false) : (pp p).flatMap enc = enc p := by
  unfold tld at h
  simp only [decide_eq_false_iff_not] at h
  unfold pp; rw [if_neg h1, if_neg h2, if_neg h]
  simp [List.flatMap_cons]
theorem okv_of (p : Nat) (ho : okp p) (h : tld p = false) : okv p := by
  unfold tld at h
  simp only [decide_eq_false_iff_not] at h
  unfold okp at ho
  rcases ho with ho | ho
  · exact ho
  · omega

theorem digs_hi (c : UInt8) : ((b8 (dg (c.toNat / 16))).toNat : Int) = (((⟨#[48, 49, 50, 51, 52, 53, 54, 55, 56, 57, 97, 98, 99, 100, 101, 102]⟩ : ByteArray)[c.toNat / 16]'(by have := c.toNat_lt; show c.toNat / 16 < 16; omega)).toNat : Int) := by
  have := c.toNat_lt
  have r := dg_rng (c.toNat / 16) (by omega)
  have := digs_at (c.toNat / 16) (by omega)
  rw [b8_toNat _ (by omega), ← this]; rfl
theorem digs_lo (c : UInt8) : ((b8 (dg (c.toNat % 16))).toNat : Int) = (((⟨#[48, 49, 50, 51, 52, 53, 54, 55, 56, 57, 97, 98, 99, 100, 101, 102]⟩ : ByteArray)[c.toNat % 16]'(by show c.toNat % 16 < 16; omega)).toNat : Int) := by
  have r := dg_rng (c.toNat % 16) (by omega)
  have := digs_at (c.toNat % 16) (by omega)
  rw [b8_toNat _ (by omega), ← this]; rfl
theorem and15 (c : UInt8) : bits BinOp.and IntKind.u8 (c.toNat : Int) 15 = ((c.toNat % 16 : Nat) : Int) := by
  have key : ∀ k : Fin 256, bits BinOp.and IntKind.u8 (k.val : Int) 15 = ((k.val % 16 : Nat) : Int) := by decide +kernel
  exact key ⟨c.toNat, c.toNat_lt⟩

set_option maxHeartbeats 1000000 in
theorem quote_any (s : ByteArray) (hs : s.size ≤ 1099511627776) (w : World) :
    Calls Try.prog 17 #[.string s] w fun e w' => e = .returned (.string ⟨(quote (li s)).toArray⟩) ∧ Below w.heap.size w w' := by
  have hf : Lib.IsBuilderF 41 5 (w.heap.size + 1) (w.heap.size + 1) [] ((w.alloc (.cells #[.string s] 9)).alloc (.cells #[.pointer none, .slice none 0 0] 41)) := by
    have := Lib.IsBuilderF.of (Lib.fresh_isBuilder 41 5 (w.alloc (.cells #[.string s] 9)))
    simpa using this
  have hf' := Lib.hid hf
  clear hf
  go_enter Try.func17, Try.ntmps17
  go_wp2_with (go_at_call 26; refine (Try.Builder_WriteByte_k (w.heap.size + 1) (w.heap.size + 1) [] 34 _ hf'.out (by simp) (by simp)).mono ?_)
  rintro e W1 ⟨rfl, h1, b1, k1⟩
  have hbox : W1.heap[w.heap.size]? = some (.cells #[.string s] 9) := by
    rw [b1.block _ (by omega)]
    show ((w.heap.push _).push _)[w.heap.size]? = _
    rw [Array.getElem?_push, if_neg (by simp), Array.getElem?_push, if_pos rfl]
  have hcl : W1.cell? ⟨w.heap.size, 0, none⟩ = some (.string s) := by rw [Lib.cell_of_heap hbox]; rfl
  have hbel : Below w.heap.size w W1 := (((Below.refl _ _).alloc (Nat.le_refl _) _).alloc (by simp) _).trans (b1.mono (by omega))
  have hsz : w.heap.size + 1 < W1.heap.size := by have := b1.size; simp at this; omega
  have hQ : QW w s W1.heap.size 0 [34] (W1.iter s 0) := {
    bld := (Lib.IsBuilderF.alloc (.inr h1) _)
    it := World.iter_heap _ _ _
    box := by
      show (W1.heap.push _)[w.heap.size]? = _
      rw [Array.getElem?_push, if_neg (by omega)]; exact hbox
    bel := hbel.alloc hbel.size _
    kb := hsz }
  have hQ' := Lib.hid hQ
  clear hQ hf' h1 b1 k1 hbox hbel
  go_wp2_with fail
  revert hQ'
  generalize W1.heap.size = K
  generalize W1.iter s 0 = V0
  intro hQ'
  clear hcl hsz
  go_loopw [] (fun wr => ∃ (pos : Nat) (acc : List UInt8), Hid (QW w s K pos acc wr) ∧ pos ≤ s.size ∧ acc.length ≤ 1 + 5 * pos ∧ Hid (acc ++ ((pl ((li s).drop pos)).flatMap pp).flatMap enc = 34 :: body (li s))) (fun wr => s.size - wr.iterPos K)
  case atStart => exact ⟨0, [34], hQ', by omega, by simp, rfl⟩
  case round =>
    obtain ⟨pos, acc, hq, hp, hal, hacc⟩ := hrel
    rename_i wr
    have hip : Hid (wr.iterPos K = pos) := by show _ = _; simp only [World.iterPos, hq.out.it]
    by_cases hlt : pos < s.size
    · have hnx : ∀ ty, (Instr.next (.pointer (some ⟨K, 0, none⟩)) true ty).run Try.prog wr = _ := fun ty => Lib.run_next_any_at wr K s pos ty hq.out.it hlt
      rw [decode_eq] at hnx
      have hw := drop_width hlt
      have hok := Lib.hid (dec_okp _ (drop_ne hlt))
      have hq2 := Lib.hid (hq.out.next (pos + (dec ((li s).drop pos)).2))
      have htl := Lib.hid (fun v hv => told_any s pos w.heap.size v hlt hv)
      have hlow : Hid (tld (dec ((li s).drop pos)).1 = true → low (dec ((li s).drop pos)).1 = (s[pos]'hlt).toNat) := told_low s pos hlt
      have hacc2 : Hid (acc ++ ((pp (dec ((li s).drop pos)).1).flatMap enc ++ ((pl ((li s).drop (pos + (dec ((li s).drop pos)).2))).flatMap pp).flatMap enc) = 34 :: body (li s)) := by
        show _ = _
        rw [← hacc.out, pl_at hlt, List.flatMap_cons, List.flatMap_append]
      clear hq hacc
      revert hnx hw hok hq2 htl hlow hacc2
      generalize (dec ((li s).drop pos)).1 = p
      generalize (dec ((li s).drop pos)).2 = n
      generalize wr.iterAt K s (pos + n) = W
      intro hnx hw hok hq2 htl hlow hacc2
      have hW := hq2.out.size
      by_cases h1 : p = 34 ∨ p = 92
      · have hr : rn p = p := by unfold rn; rw [if_neg (by omega)]
        rw [hr] at hnx
        rw [pp_quote p h1] at hacc2
        have hv : Hid (okv p) := okv_small p (by omega)
        have t0 : ((p : Int) == 34) = true ∨ ((p : Int) == 34) = false ∧ ((p : Int) == 92) = true := by
          rcases h1 with h1 | h1
          · left; rw [h1]; rfl
          · right; rw [h1]; exact ⟨rfl, rfl⟩
        have w1 := Lib.hid (hq2.out.wbyte (by omega) 92 92 rfl)
        clear htl hlow h1 hr hok
        rcases t0 with t1 | ⟨t1, t2⟩
        all_goals
          go_wp2_with fail
          refine w1.out.mono ?_
          rintro e W1 ⟨rfl, q1⟩
          have w2 := Lib.hid (q1.wrune (by simp; omega) p hv.out)
          clear q1
          go_wp2_with fail
          refine w2.out.mono ?_
          rintro e W2 ⟨rfl, q2⟩
          have q2' := Lib.hid q2
          clear q2
          go_wp2_with fail
          go_roundw
          case rel =>
            have := enc_length p
            exact ⟨pos + n, acc ++ [92] ++ enc p, q2', by omega, by simp; omega, by show _ = _; rw [← hacc2.out]; simp⟩
          case measure =>
            rw [hip.out]
            simp only [World.iterPos, q2'.out.it]
            omega
      have t1 : ((rn p : Nat) : Int) = 34 → False := fun e => h1 (by unfold rn at e; split at e <;> omega)
      have t1' : (((rn p : Nat) : Int) == 34) = false := by rw [beq_eq_false_iff_ne]; exact fun e => t1 e
      have t2' : (((rn p : Nat) : Int) == 92) = false := by rw [beq_eq_false_iff_ne]; exact fun e => h1 (by unfold rn at e; split at e <;> omega)
      clear t1
      by_cases h2 : p = 10
      · rw [pp_line p h2] at hacc2
        have t3 : (((rn p : Nat) : Int) == 10) = true := by rw [h2]; rfl
        have w1 := Lib.hid (hq2.out.wstring (by omega) ⟨#[92, 110]⟩ (by decide))
        clear htl hlow h1 h2 hok
        revert hnx t1' t2' t3
        generalize rn p = r
        intro hnx t1' t2' t3
        go_wp2_with fail
        refine w1.out.mono ?_
        rintro e W1 ⟨rfl, q1⟩
        have q2' := Lib.hid q1
        clear q1
        go_wp2_with fail
        go_roundw
        case rel => exact ⟨pos + n, acc ++ [92, 110], q2', by omega, by simp; omega, by show _ = _; rw [← hacc2.out]; simp⟩
        case measure =>
          rw [hip.out]
          simp only [World.iterPos, q2'.out.it]
          omega
      have t3 : (((rn p : Nat) : Int) == 10) = false := by rw [beq_eq_false_iff_ne]; exact fun e => h2 (by unfold rn at e; split at e <;> omega)
      have hcl := hq2.out.cell
      have w0 := Lib.hid (htl.out W hcl)
      cases hto : tld p
      · rw [hto] at w0
        rw [pp_rune p h1 h2 hto] at hacc2
        have hr : rn p = p := by
          have := okv_of p hok.out hto
          unfold okv at this
          unfold rn; rw [if_neg (by omega)]
        rw [hr] at hnx t1' t2' t3 w0
        have w1 := Lib.hid (hq2.out.wrune (by omega) p (okv_of p hok.out hto))
        clear htl hlow h1 h2 hok hto hr hcl
        go_wp2_with fail
        refine w0.out.mono ?_
        rintro e W0 ⟨rfl, rfl⟩
        go_wp2_with fail
        refine w1.out.mono ?_
        rintro e W1 ⟨rfl, q1⟩
        have q2' := Lib.hid q1
        clear q1
        go_wp2_with fail
        go_roundw
        case rel =>
          have := enc_length p
          exact ⟨pos + n, acc ++ enc p, q2', by omega, by simp; omega, by show _ = _; rw [← hacc2.out]; simp⟩
        case measure =>
          rw [hip.out]
          simp only [World.iterPos, q2'.out.it]
          omega
      · rw [hto] at w0
        rw [pp_told p hok.out h1 h2 hto] at hacc2
        have hl := hlow.out hto
        have w1 := Lib.hid (hq2.out.wstring (by omega) ⟨#[92, 120]⟩ (by decide))
        rw [hl] at hacc2
        obtain ⟨c, hch, _⟩ := byt8 s pos hlt
        rw [hch] at hacc2
        have hcl8 : c.toNat < 256 := c.toNat_lt
        have hd1 : 0 ≤ (c.toNat : Int) / 16 ∧ (c.toNat : Int) / 16 < 16 := by omega
        clear htl hlow h1 h2 hok hto hl
        revert hnx t1' t2' t3 w0
        generalize rn p = r
        intro hnx t1' t2' t3 w0
        go_wp2_with fail
        refine w0.out.mono ?_
        rintro e W0 ⟨rfl, rfl⟩
        go_wp2_with fail
        refine w1.out.mono ?_
        rintro e W1 ⟨rfl, q1⟩
        have hcl1 := q1.cell
        have q1' := Lib.hid q1
        clear q1 hcl
        go_wp2_with fail
        refine (q1'.out.wbyte (by simp; omega) _ (b8 (dg (c.toNat / 16))) (digs_hi c)).mono ?_
        rintro e W2 ⟨rfl, q2⟩
        have hcl2 := q2.cell
        have q2' := Lib.hid q2
        have hand := and15 c
        have hd2 : 0 ≤ ((c.toNat % 16 : Nat) : Int) ∧ ((c.toNat % 16 : Nat) : Int) < 16 := by omega
        clear q2 hcl1
        go_wp2_with fail
        refine (q2'.out.wbyte (by simp; omega) _ (b8 (dg (c.toNat % 16))) (digs_lo c)).mono ?_
        rintro e W3 ⟨rfl, q3⟩
        have q3' := Lib.hid q3
        clear q3 hcl2
        go_wp2_with fail
        go_roundw
        case rel => exact ⟨pos + n, acc ++ [92, 120] ++ [b8 (dg (c.toNat / 16))] ++ [b8 (dg (c.toNat % 16))], q3', by omega, by simp; omega, by show _ = _; rw [← hacc2.out]; simp⟩
        case measure =>
          rw [hip.out]
          simp only [World.iterPos, q3'.out.it]
          omega
    · have hnx : ∀ ty, (Instr.next (.pointer (some ⟨K, 0, none⟩)) true ty).run Try.prog wr = _ := fun ty => Lib.run_next_end_at wr K s pos ty hq.out.it hlt
      have hb := hq.out.bld
      have hbel := Lib.hid hq.out.bel
      have hz := hq.out.size
      have e : Hid (acc = 34 :: body (li s)) := by
        show _ = _
        rw [← hacc.out, drop_end hlt]; simp [pl_nil]
      have hb' := Lib.hid hb
      clear hb hacc hq
      go_wp2_with (go_at_call 26; refine (Try.Builder_WriteByte_k (w.heap.size + 1) (w.heap.size + 1) _ 34 _ hb'.out (by rw [Lib.byteCells_length]; omega) hz).mono ?_)
      rintro e1 W2 ⟨rfl, h2, b2, k2⟩
      have hI : Lib.IsBuilderF 41 5 (w.heap.size + 1) (w.heap.size + 1) (Lib.byteCells (acc ++ [34])) W2 := by rw [Lib.byteCells_append]; exact .inr h2
      have hI' := Lib.hid hI
      have hz2 : w.heap.size + 1 ≤ W2.heap.size := Nat.le_trans hz b2.size
      have hbel2 := Lib.hid (hbel.out.trans (b2.mono (by omega)))
      clear hI h2 b2 k2
      go_wp2_with (go_at_call 29; refine (Try.Builder_String_any_k (w.heap.size + 1) (w.heap.size + 1) (acc ++ [34]) _ hI'.out hz2).mono ?_)
      rintro e1 W3 ⟨rfl, _, b3, _⟩
      go_wp2_with fail
      go_ret
      exact ⟨by rw [quote_eq, e.out]; rfl, hbel2.out.trans (b3.mono (by omega))⟩

end Go.Proofs.Ytjpdbdeecglabaa
