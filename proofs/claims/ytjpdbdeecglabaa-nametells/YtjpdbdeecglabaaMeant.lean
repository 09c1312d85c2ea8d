/-
  What meant and Unquote of the program return: for every argument of a bounded length.
-/
import Derived.Test.YtjpdbdeecglabaaQuote
namespace Go.Proofs.Ytjpdbdeecglabaa
open Go.RowKit

theorem bld_below {T e : TypeId} {B b : Nat} {bs : List Value} {v v' : World} (h : Lib.IsBuilderF T e B b bs v) (hb : Below v.heap.size v v') : Lib.IsBuilderF T e B b bs v' := by
  have key : ∀ p, Lib.BuilderAtF T e B b p bs v → Lib.BuilderAtF T e B b p bs v' := by
    rintro p ⟨hB, x, hx, hown, hne⟩
    refine ⟨hB, x, (hb.block _ (Array.getElem?_eq_some_iff.1 hx).1).trans hx, ⟨hown.1, ?_⟩, hne⟩
    rcases hown.2 with hn | ⟨g, cap, cur, fz, hv, hbg, hg, rest⟩
    · exact .inl hn
    · exact .inr ⟨g, cap, cur, fz, hv, hbg, (hb.block _ (Array.getElem?_eq_some_iff.1 hg).1).trans hg, rest⟩
  exact h.elim (fun x => .inl (key _ x)) (fun x => .inr (key _ x))

/-- The worlds of a round of meant. -/
structure MW (w : World) (s : ByteArray) (pos : Nat) (acc : List UInt8) (v : World) : Prop where
  bld : Lib.IsBuilderF 41 5 w.heap.size w.heap.size (Lib.byteCells acc) v
  it : v.heap[w.heap.size + 1]? = some (.stringIter s pos)
  bel : Below w.heap.size w v
theorem MW.size {w v : World} {s : ByteArray} {pos : Nat} {acc : List UInt8} (h : MW w s pos acc v) : w.heap.size ≤ v.heap.size := h.bel.size
theorem MW.next {w v : World} {s : ByteArray} {pos : Nat} {acc : List UInt8} (h : MW w s pos acc v) (pos' : Nat) : MW w s pos' acc (v.iterAt (w.heap.size + 1) s pos') := {
  bld := h.bld.iterAt h.it pos'
  it := Lib.iterAt_heap v _ s pos pos' h.it
  bel := Lib.below_iterAt h.bel (by omega) s pos' }
theorem MW.keep {w v v' : World} {s : ByteArray} {pos : Nat} {acc : List UInt8} (h : MW w s pos acc v) (hb : Below v.heap.size v v') : MW w s pos acc v' := {
  bld := bld_below h.bld hb
  it := (hb.block _ (Array.getElem?_eq_some_iff.1 h.it).1).trans h.it
  bel := h.bel.trans (hb.mono h.size) }
theorem MW.put {w v v' : World} {s : ByteArray} {pos : Nat} {acc acc' : List UInt8} (h : MW w s pos acc v) (h1 : Lib.BuilderAtF 41 5 w.heap.size w.heap.size (.pointer (some ⟨w.heap.size, 0, none⟩)) (Lib.byteCells acc') v')
    (b1 : Below w.heap.size v v') (k1 : Lib.OthersKept 5 (some w.heap.size) v v') : MW w s pos acc' v' := {
  bld := .inr h1
  it := k1.iter h.it (by omega)
  bel := h.bel.trans b1 }
theorem MW.wbyte {w v : World} {s : ByteArray} {pos : Nat} {acc : List UInt8} (h : MW w s pos acc v) (hal : acc.length ≤ 70368744177664) (c : Int) (d : UInt8) (hd : (d.toNat : Int) = c) :
    Calls Try.prog 26 #[.pointer (some ⟨w.heap.size, 0, none⟩), .int .u8 c] v fun e v' => e = .returned .nilIface ∧ MW w s pos (acc ++ [d]) v' := by
  refine (Try.Builder_WriteByte_k w.heap.size w.heap.size _ c _ h.bld (by rw [Lib.byteCells_length]; omega) h.size).mono ?_
  rintro e v' ⟨rfl, h1, b1, k1⟩
  refine ⟨rfl, h.put ?_ b1 k1⟩
  rw [Lib.byteCells_append]
  subst hd
  exact h1
theorem MW.wrune {w v : World} {s : ByteArray} {pos : Nat} {acc : List UInt8} (h : MW w s pos acc v) (hal : acc.length ≤ 70368744177664) (p : Nat) (hp : okv p) :
    Calls Try.prog 27 #[.pointer (some ⟨w.heap.size, 0, none⟩), .int .i32 (p : Int)] v fun e v' => e = .returned (.tuple #[.int .i64 (Lib.runeCells (p : Int)).length, .nilIface]) ∧ MW w s pos (acc ++ enc p) v' := by
  have hp' : p < 1114112 := hp.1
  refine (Try.Builder_WriteRune_k w.heap.size w.heap.size _ (p : Int) (by omega) (by omega) _ h.bld (by rw [Lib.byteCells_length]; omega) h.size).mono ?_
  rintro e v' ⟨rfl, h1, b1, k1⟩
  refine ⟨rfl, h.put ?_ b1 k1⟩
  rw [Lib.byteCells_append, ← encodeRune_eq p hp, Lib.byteCells_encodeRune]
  exact h1

theorem esc_size (l : List UInt8) : 1 ≤ (esc l).2 ∧ (esc l).2 ≤ 4 ∧ (esc l).1 < 256 := by
  unfold esc
  split
  · simp
  split
  · simp
  split
  · refine ⟨by simp, by simp, ?_⟩
    show ebyte _ _ < 256
    unfold ebyte
    split
    · omega
    · split
      · omega
      · split <;> omega
  · exact ⟨by simp, by simp, byt_lt _ _⟩

theorem trim_len (l : List UInt8) : (trim l).length ≤ l.length := by
  have h1 : (Lib.trimPrefix l [34]).length ≤ l.length := by
    unfold Lib.trimPrefix; split
    · rw [List.length_drop]; omega
    · omega
  have h2 : (trim l).length ≤ (Lib.trimPrefix l [34]).length := by
    unfold trim Lib.trimSuffix; split
    · rw [List.length_take]; omega
    · omega
  omega

set_option maxHeartbeats 1000000 in
theorem meant_any (s : ByteArray) (hs : s.size ≤ 68719476736) (w : World) :
    Calls Try.prog 20 #[.string s] w fun e w' => e = .returned (.string ⟨(meant (li s)).toArray⟩) ∧ Below w.heap.size w w' ∧ (meant (li s)).length ≤ 5 * s.size := by
  have hlt0 : (Lib.trimPrefix (li s) [34]).length ≤ s.size := by
    unfold Lib.trimPrefix; split
    · rw [List.length_drop, li_len]; omega
    · rw [li_len]; omega
  have hM : Hid (meant (li s) = mnt (trim (li s)) 0) := rfl
  have htr : Hid (Lib.trimSuffix (Lib.trimPrefix (li s) [34]) [34] = trim (li s)) := rfl
  have hlen := trim_len (li s)
  rw [li_len] at hlen
  have h34 : Hid (li ⟨#[34]⟩ = [34]) := rfl
  have hf := Lib.hid (Lib.IsBuilderF.of (Lib.fresh_isBuilder 41 5 w))
  have c1 := Lib.hid (Try.strings_TrimPrefix s ⟨#[34]⟩ w)
  have c2 := Lib.hid (Try.strings_TrimSuffix ⟨(Lib.trimPrefix (li s) [34]).toArray⟩ ⟨#[34]⟩ w (by show (Lib.trimPrefix (li s) [34]).toArray.size ≤ _; simp; omega))
  rw [li_mk] at c2
  rw [show (ByteArray.mk #[34]).data.toList = [34] from rfl] at c1 c2
  rw [htr.out] at c2
  obtain ⟨t, ht⟩ : ∃ t : ByteArray, t = ⟨(trim (li s)).toArray⟩ := ⟨_, rfl⟩
  have htl : Hid (li t = trim (li s)) := by show _ = _; rw [ht, li_mk]
  rw [← ht] at c2
  have hts : t.size ≤ s.size := by rw [← li_len t, htl.out]; exact hlen
  have hM2 : Hid (meant (li s) = mnt (li t) 0) := by show _ = _; rw [hM.out, htl.out]
  clear hM htr hlen h34 ht htl
  go_enter Try.func20, Try.ntmps20
  go_wp2_with fail
  refine c1.out.mono ?_
  rintro e w' ⟨rfl, rfl⟩
  go_wp2_with fail
  refine c2.out.mono ?_
  rintro e w' ⟨rfl, rfl⟩
  go_wp2_with fail
  have hQ : MW w' t 0 [] ((w'.alloc (.cells #[.pointer none, .slice none 0 0] 41)).iter t 0) := {
    bld := hf.out.alloc _
    it := by
      have := World.iter_heap (w'.alloc (.cells #[.pointer none, .slice none 0 0] 41)) t 0
      simpa using this
    bel := ((Below.refl _ _).alloc (Nat.le_refl _) _).alloc (by simp) _ }
  have hQ' := Lib.hid hQ
  clear hQ hf c1 c2
  revert hQ'
  generalize (w'.alloc (.cells #[.pointer none, .slice none 0 0] 41)).iter t 0 = V0
  intro hQ'
  go_loopw [5] (fun v wr => ∃ (pos nx : Nat) (acc : List UInt8), v = .int .i64 (nx : Int) ∧ Hid (MW w' t pos acc wr) ∧ pos ≤ t.size ∧ nx ≤ pos + 4 ∧ acc.length ≤ 5 * pos ∧ Hid (acc ++ mnt ((li t).drop pos) (nx - pos) = meant (li s))) (fun _ wr => t.size - wr.iterPos (w'.heap.size + 1))
  case atStart => exact ⟨0, 0, [], rfl, hQ', by omega, by omega, by simp, hM2.out.symm⟩
  case round =>
    obtain ⟨pos, nx, acc, rfl, hq, hp, hnx0, hal, hacc⟩ := hrel
    rename_i wr
    have hip : Hid (wr.iterPos (w'.heap.size + 1) = pos) := by show _ = _; simp only [World.iterPos, hq.out.it]
    by_cases hlt : pos < t.size
    · have hnx : ∀ ty, (Instr.next (.pointer (some ⟨w'.heap.size + 1, 0, none⟩)) true ty).run Try.prog wr = _ := fun ty => Lib.run_next_any_at wr (w'.heap.size + 1) t pos ty hq.out.it hlt
      rw [decode_eq] at hnx
      have hw := drop_width hlt
      have hw4 := (dec_width _ (drop_ne hlt)).2.2
      have hok := Lib.hid (dec_okp _ (drop_ne hlt))
      have hq2 := Lib.hid (hq.out.next (pos + (dec ((li t).drop pos)).2))
      have hes := Lib.hid (fun v => escaped_any (t.extract pos t.size) v)
      rw [li_extract] at hes
      have hez := esc_size ((li t).drop pos)
      have m1 : Hid (0 < nx - pos → acc ++ mnt ((li t).drop (pos + (dec ((li t).drop pos)).2)) (nx - (pos + (dec ((li t).drop pos)).2)) = meant (li s)) := by
        intro h
        rw [← hacc.out, mnt_skip _ _ (drop_ne hlt) h, List.drop_drop, Nat.sub_sub]
      have m2 : Hid (nx - pos = 0 → (dec ((li t).drop pos)).1 = 92 → acc ++ [b8 (esc ((li t).drop pos)).1] ++ mnt ((li t).drop (pos + (dec ((li t).drop pos)).2)) (pos + (esc ((li t).drop pos)).2 - (pos + (dec ((li t).drop pos)).2)) = meant (li s)) := by
        intro h h'
        rw [← hacc.out, h, mnt_esc _ (drop_ne hlt) h', List.drop_drop, List.append_assoc, Nat.add_sub_add_left]
        rfl
      have m3 : Hid (nx - pos = 0 → (dec ((li t).drop pos)).1 ≠ 92 → acc ++ enc (rn (dec ((li t).drop pos)).1) ++ mnt ((li t).drop (pos + (dec ((li t).drop pos)).2)) (nx - (pos + (dec ((li t).drop pos)).2)) = meant (li s)) := by
        intro h h'
        have e0 : nx - (pos + (dec ((li t).drop pos)).2) = 0 := by omega
        rw [← hacc.out, h, mnt_rune _ (drop_ne hlt) h', List.drop_drop, List.append_assoc, e0]
      have hle : (pos : Int) ≤ (t.size : Int) := by omega
      clear hq hacc
      revert hnx hw hw4 hok hq2 hes hez m1 m2 m3
      generalize (dec ((li t).drop pos)).1 = p
      generalize (dec ((li t).drop pos)).2 = n
      generalize (esc ((li t).drop pos)).1 = eb
      generalize (esc ((li t).drop pos)).2 = en
      generalize wr.iterAt (w'.heap.size + 1) t (pos + n) = W
      intro hnx hw hw4 hok hq2 hes hez m1 m2 m3
      by_cases k1 : pos < nx
      · have t1 : decide ((pos : Int) < (nx : Int)) = true := by simp; omega
        have e1 := Lib.hid (m1.out (by omega))
        clear m1 m2 m3 hes
        go_wp2_with fail
        go_roundw
        case rel => exact ⟨pos + n, nx, acc, rfl, hq2, by omega, by omega, by omega, e1.out⟩
        case measure =>
          rw [hip.out]
          simp only [World.iterPos, hq2.out.it]
          omega
      have t1 : decide ((pos : Int) < (nx : Int)) = false := by simp; omega
      by_cases k2 : p = 92
      · have t2 : (((rn p : Nat) : Int) == 92) = true := by rw [k2]; rfl
        have e1 := Lib.hid (m2.out (by omega) k2)
        have hb8 : Hid (((b8 eb).toNat : Int) = (eb : Int)) := by show _ = _; rw [b8_toNat _ hez.2.2]
        clear m1 m2 m3 k2
        revert hnx t2
        generalize rn p = r
        intro hnx t2
        go_wp2_with fail
        refine (hes.out _).mono ?_
        rintro e W1 ⟨rfl, bb⟩
        have q1 := Lib.hid (hq2.out.keep bb)
        have w1 := Lib.hid (q1.out.wbyte (by omega) (eb : Int) (b8 eb) hb8.out)
        clear bb
        go_wp2_with fail
        refine w1.out.mono ?_
        rintro e W2 ⟨rfl, q2⟩
        have q2' := Lib.hid q2
        clear q2
        go_wp2_with fail
        go_roundw
        case rel => exact ⟨pos + n, pos + en, acc ++ [b8 eb], by go_num, q2', by omega, by omega, by simp; omega, e1.out⟩
        case measure =>
          rw [hip.out]
          simp only [World.iterPos, q2'.out.it]
          omega
      · have t2 : (((rn p : Nat) : Int) == 92) = false := by rw [beq_eq_false_iff_ne]; exact fun e => k2 (by unfold rn at e; split at e <;> omega)
        have e1 := Lib.hid (m3.out (by omega) k2)
        have w1 := Lib.hid (hq2.out.wrune (by omega) (rn p) (rn_okv p hok.out))
        clear m1 m2 m3 k2 hok
        revert hnx t2 w1 e1
        generalize rn p = r
        intro hnx t2 e1 w1
        go_wp2_with fail
        refine w1.out.mono ?_
        rintro e W2 ⟨rfl, q2⟩
        have q2' := Lib.hid q2
        clear q2
        go_wp2_with fail
        go_roundw
        case rel =>
          have := enc_length r
          exact ⟨pos + n, nx, acc ++ enc r, rfl, q2', by omega, by omega, by simp; omega, e1.out⟩
        case measure =>
          rw [hip.out]
          simp only [World.iterPos, q2'.out.it]
          omega
    · have hnx : ∀ ty, (Instr.next (.pointer (some ⟨w'.heap.size + 1, 0, none⟩)) true ty).run Try.prog wr = _ := fun ty => Lib.run_next_end_at wr (w'.heap.size + 1) t pos ty hq.out.it hlt
      have hbel := Lib.hid hq.out.bel
      have e : Hid (acc = meant (li s)) := by
        show _ = _
        rw [← hacc.out, drop_end hlt, mnt_nil, List.append_nil]
      have w1 := Lib.hid (Try.Builder_String_any_k w'.heap.size w'.heap.size acc wr hq.out.bld hq.out.size)
      clear hacc hq
      go_wp2_with fail
      refine w1.out.mono ?_
      rintro e1 W3 ⟨rfl, _, b3, _⟩
      go_wp2_with fail
      go_ret
      exact ⟨by rw [← e.out]; rfl, hbel.out.trans b3, by rw [← e.out]; omega⟩

theorem toList_data (a : ByteArray) : a.toList = a.data.toList := by
  have : a = ⟨a.data.toList.toArray⟩ := by simp
  rw [this]; exact ByteArray.toList_mk _

set_option maxHeartbeats 1000000 in
theorem unquote_any (s : ByteArray) (hs : s.size ≤ 68719476736) (w : World) :
    Calls Try.prog 10 #[.string s] w fun e w' => e = .returned (.tuple #[.string ⟨(unq (li s)).1.toArray⟩, .bool (unq (li s)).2]) ∧ Below w.heap.size w w' := by
  have c1 := Lib.hid (meant_any s hs w)
  obtain ⟨t, ht⟩ : ∃ t : ByteArray, t = ⟨(meant (li s)).toArray⟩ := ⟨_, rfl⟩
  have htl : Hid (li t = meant (li s)) := by show _ = _; rw [ht, li_mk]
  have hu : Hid (unq (li s) = if quote (meant (li s)) = li s then (meant (li s), true) else ([], false)) := rfl
  rw [← ht] at c1
  go_enter Try.func10, Try.ntmps10
  go_wp2_with fail
  refine c1.out.mono ?_
  rintro e w1 ⟨rfl, b1, l1⟩
  have hts : t.size ≤ 1099511627776 := by rw [← li_len t, htl.out]; omega
  have c2 := Lib.hid (quote_any t hts w1)
  rw [htl.out] at c2
  have ht' := Lib.hid ht
  clear ht l1 c1 hts
  obtain ⟨q, hq⟩ : ∃ q : ByteArray, q = ⟨(quote (meant (li s))).toArray⟩ := ⟨_, rfl⟩
  have hqs : (q.toList == s.toList) = decide (quote (meant (li s)) = li s) := by
    rw [toList_data, toList_data, hq]
    show ((quote (meant (li s))).toArray.toList == li s) = _
    rw [List.toList_toArray, Bool.eq_iff_iff]
    simp
  rw [← hq] at c2
  clear hq
  by_cases k : quote (meant (li s)) = li s
  · have t1 : (q.toList == s.toList) = true := by rw [hqs]; simp [k]
    have e : Hid (unq (li s) = (meant (li s), true)) := by show _ = _; rw [hu.out, if_pos k]
    clear hqs k hu
    go_wp2_with fail
    refine c2.out.mono ?_
    rintro e w2 ⟨rfl, b2⟩
    go_wp2_with fail
    go_ret2
    exact ⟨by rw [e.out, ht'.out]; rfl, b1.trans (b2.mono b1.size)⟩
  · have t1 : (q.toList == s.toList) = false := by rw [hqs]; simp [k]
    have e : Hid (unq (li s) = ([], false)) := by show _ = _; rw [hu.out, if_neg k]
    clear hqs k hu
    go_wp2_with fail
    refine c2.out.mono ?_
    rintro e w2 ⟨rfl, b2⟩
    go_wp2_with fail
    go_ret2
    exact ⟨by rw [e.out]; rfl, b1.trans (b2.mono b1.size)⟩

end Go.Proofs.Ytjpdbdeecglabaa
