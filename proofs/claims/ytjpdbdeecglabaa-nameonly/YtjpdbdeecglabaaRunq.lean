/-
  What Unquote of the reference returns: for every argument of a bounded length.
-/
import Derived.Test.YtjpdbdeecglabaaRquote
import Derived.Test.YtjpdbdeecglabaaMeant
import Derived.Deep.RegionHeld3
import Derived.Deep.AppendLies
namespace Go.Proofs.Ytjpdbdeecglabaa
open Go.RowKit

theorem info5' : (Try.prog.info? 5).map (fun i => (i.zero, i.size, i.bytes)) = some (some (.int .u8 0), 1, 1) := by kernel_rfl
theorem info5 : ∃ i, Try.prog.info? 5 = some i ∧ i.zero = some (.int .u8 0) ∧ i.size = 1 ∧ i.bytes = 1 := by
  have h := info5'
  cases hq : Try.prog.info? 5 with
  | none => rw [hq] at h; cases h
  | some i =>
    rw [hq] at h
    simp only [Option.map_some, Option.some.injEq, Prod.mk.injEq] at h
    exact ⟨i, rfl, h⟩

theorem own_below {w w' : World} {B : Nat} {e : TypeId} {v : Value} {n : Nat} {xs : List Value} (h : w.ownsRow B e 1 v n xs) (hb : Below w.heap.size w w') : w'.ownsRow B e 1 v n xs := by
  refine ⟨h.1, ?_⟩
  rcases h.2 with hn | ⟨g, cap, cur, hv, hB, hg, rest⟩
  · exact .inl hn
  · exact .inr ⟨g, cap, cur, hv, hB, (hb.block _ (Array.getElem?_eq_some_iff.1 hg).1).trans hg, rest⟩

theorem conv_own {w : World} {B : Nat} {v : Value} {acc : List UInt8} (h : w.ownsRow B 5 1 v acc.length (Lib.byteCells acc)) : (convert 32 9 v).run Try.prog w = .ok (.string ⟨acc.toArray⟩) w := by
  rcases h.2 with ⟨rfl, h0⟩ | ⟨g, cap, cur, rfl, hB, hg, hn, hc, hs, ht⟩
  · obtain rfl := List.length_eq_zero_iff.mp h0
    rw [run_convert_bytes_string w 32 9 5 none 0 0 Try.underlying32 Try.underlying5 Try.underlying9]
    rfl
  · refine run_convert_bytes_back (P := Try.prog) w 32 9 5 ⟨g, 0, none⟩ cap acc Try.underlying32 Try.underlying5 Try.underlying9 (fun j hj => ?_)
    have e : (⟨g, 0, none⟩ : Addr).add j = ⟨g, j, none⟩ := by unfold Addr.add; split <;> simp_all
    rw [e, Lib.cell_of_heap hg]
    show cur[j]? = _
    rw [Nat.mul_one] at ht
    have e : cur.toList[j]? = (Lib.byteCells acc)[j]? := by
      rw [← ht, List.getElem?_take, if_pos hj]
    rw [← Array.getElem?_toList, e]
    simp [Lib.byteCells, hj]

theorem unq_short (l : List UInt8) (h : l.length < 2 ∨ byt l 0 ≠ 34 ∨ byt l (l.length - 1) ≠ 34) : unq l = ([], false) := by
  refine unq_none l (fun t e => ?_)
  subst e
  rcases h with h | h | h
  · have := quote_len t; omega
  · exact h (quote_first t)
  · exact h (quote_last t)
theorem unq_stop (l : List UInt8) (h : unb (mid l) = none) : unq l = ([], false) := by
  refine unq_none l (fun t e => ?_)
  subst e
  rw [mid_quote, unb_body] at h
  cases h
theorem unq_end (l o : List UInt8) (h : unb (mid l) = some o) : unq l = if quote o = l then (o, true) else ([], false) := by
  split
  · rename_i k
    rw [← k, unq_quote]
  · rename_i k
    refine unq_none l (fun t e => k ?_)
    subst e
    rw [mid_quote, unb_body] at h
    rw [← Option.some.inj h]
theorem li_mid (s : ByteArray) (h : 2 ≤ s.size) : li (s.extract 1 (s.size - 1)) = mid (li s) := by
  rw [li_cut _ _ _ (by omega)]
  unfold mid
  rw [li_len]
  rfl

def rdv (c : UInt8) : Int := if hxv c.toNat < 16 then (hxv c.toNat : Int) else -1
theorem rdv_any (c : UInt8) (w : World) : Calls Try.prog 21 #[.int .u8 (c.toNat : Int)] w fun e w' => e = .returned (.int .i64 (rdv c)) ∧ w = w' := rdigit_any c w
theorem rdv_yes (c : UInt8) : decide (0 ≤ rdv c) = decide (hxv c.toNat < 16) := by unfold rdv; split <;> simp_all

/-- The answer as a value. -/
def unqR (l : List UInt8) : Ending := .returned (.tuple #[.string ⟨(unq l).1.toArray⟩, .bool (unq l).2])
theorem unqR_none {l : List UInt8} (h : unq l = ([], false)) : unqR l = .returned (.tuple #[.string ⟨#[]⟩, .bool false]) := by unfold unqR; rw [h]

/-! One round, by bytes. -/
section
variable {t : ByteArray} {pos : Nat}
theorem unb_a (h : pos < t.size) (a : UInt8) (ea : byt (li t) pos = a.toNat) (k : a.toNat ≠ 92) : unb ((li t).drop pos) = (unb ((li t).drop (pos + 1))).map (a :: ·) := by
  rw [unb_cons _ (drop_ne h), byt_drop, Nat.add_zero, ea, if_pos k, List.drop_drop, b8_eq a _ rfl]
theorem unb_b (h : pos < t.size) (a : UInt8) (ea : byt (li t) pos = a.toNat) (k : a.toNat = 92) (h2 : ¬ pos + 1 < t.size) : unb ((li t).drop pos) = none := by
  rw [unb_cons _ (drop_ne h), byt_drop, Nat.add_zero, ea, if_neg (by omega), if_pos (by rw [List.length_drop, li_len]; omega)]
theorem unb_c (h2 : pos + 1 < t.size) (a c : UInt8) (ea : byt (li t) pos = a.toNat) (k : a.toNat = 92) (ec : byt (li t) (pos + 1) = c.toNat) (kc : c.toNat = 110) : unb ((li t).drop pos) = (unb ((li t).drop (pos + 2))).map (10 :: ·) := by
  rw [unb_cons _ (drop_ne (by omega)), byt_drop, byt_drop, Nat.add_zero, ea, ec, if_neg (by omega), if_neg (by rw [List.length_drop, li_len]; omega), if_pos kc, List.drop_drop]
theorem unb_d (h4 : pos + 3 < t.size) (a c d f : UInt8) (ea : byt (li t) pos = a.toNat) (k : a.toNat = 92) (ec : byt (li t) (pos + 1) = c.toNat) (kc : c.toNat = 120) (ed : byt (li t) (pos + 2) = d.toNat) (ef : byt (li t) (pos + 3) = f.toNat)
    (kd : hxv d.toNat < 16) (kf : hxv f.toNat < 16) : unb ((li t).drop pos) = (unb ((li t).drop (pos + 4))).map (b8 (hxv d.toNat * 16 + hxv f.toNat) :: ·) := by
  rw [unb_cons _ (drop_ne (by omega)), byt_drop, byt_drop, byt_drop, byt_drop, Nat.add_zero, ea, ec, ed, ef, if_neg (by omega), if_neg (by rw [List.length_drop, li_len]; omega), if_neg (by omega), if_pos ⟨kc, by rw [List.length_drop, li_len]; omega, kd, kf⟩, List.drop_drop]
theorem unb_e (h2 : pos + 1 < t.size) (a c : UInt8) (ea : byt (li t) pos = a.toNat) (k : a.toNat = 92) (ec : byt (li t) (pos + 1) = c.toNat) (kc : c.toNat ≠ 110) (kx : ¬ (c.toNat = 120 ∧ pos + 3 < t.size ∧ hxv (byt (li t) (pos + 2)) < 16 ∧ hxv (byt (li t) (pos + 3)) < 16)) :
    unb ((li t).drop pos) = (unb ((li t).drop (pos + 2))).map (c :: ·) := by
  rw [unb_cons _ (drop_ne (by omega)), byt_drop, byt_drop, byt_drop, byt_drop, Nat.add_zero, ea, ec, if_neg (by omega), if_neg (by rw [List.length_drop, li_len]; omega), if_neg kc, if_neg (fun h => kx ⟨h.1, by have := h.2.1; rw [List.length_drop, li_len] at this; omega, h.2.2⟩), List.drop_drop, b8_eq c _ rfl]
end
theorem map_step {o : Option (List UInt8)} {U V : Option (List UInt8)} {acc : List UInt8} {x : UInt8} (h : U.map (acc ++ ·) = o) (e : U = V.map (x :: ·)) : V.map (acc ++ [x] ++ ·) = o := by
  rw [← h, e, Option.map_map]
  cases V with
  | none => rfl
  | some v => simp

/-- The worlds of a round of the reference's Unquote. -/
structure UW (w : World) (v : Value) (acc : List UInt8) (u : World) : Prop where
  own : u.ownsRow w.heap.size 5 1 v acc.length (Lib.byteCells acc)
  bel : Below w.heap.size w u
theorem UW.drew {w u : World} {v : Value} {acc : List UInt8} (h : UW w v acc u) : UW w v acc u.drew := ⟨h.own, h.bel.drew⟩
theorem UW.put {w u u' : World} {v v' : Value} {acc : List UInt8} {x : UInt8} {o : Obj} (h : UW w v acc u) (o1 : u'.ownsRow w.heap.size 5 1 v' (acc.length + 1) (Lib.byteCells acc ++ [.int .u8 (x.toNat : Int)])) (g1 : (u.alloc o).grownBy u' v.ownBlock) : UW w v' (acc ++ [x]) u' := {
  own := by rw [Lib.byteCells_append, List.length_append]; exact o1
  bel := (h.bel.alloc h.bel.size o).grown g1 (Nat.le_trans h.bel.size (by simp)) (own_base h.own) }

set_option maxHeartbeats 2000000 in
set_option maxRecDepth 100000 in
theorem runquote_any (s : ByteArray) (hs : s.size ≤ 68719476736) (w : World) :
    Calls Try.prog 11 #[.string s] w fun e w' => e = unqR (li s) ∧ Below w.heap.size w w' := by
  by_cases s2 : s.size < 2
  · have t1 : decide ((s.size : Int) < 2) = true := by simp; omega
    have e := Lib.hid (unqR_none (unq_short (li s) (.inl (by rw [li_len]; exact s2))))
    go_enter Try.func11, Try.ntmps11
    go_wp2_with fail
    go_ret2
    exact ⟨by rw [e.out]; rfl, Below.refl _ _⟩
  have t1 : decide ((s.size : Int) < 2) = false := by simp; omega
  have h0 : 0 < s.size := by omega
  have hl1 : s.size - 1 < s.size := by omega
  obtain ⟨a0, ha0, ea0⟩ := byt8 s 0 h0
  obtain ⟨a1, ha1, ea1⟩ := byt8 s (s.size - 1) hl1
  have i0 : (0 : Int) < (s.size : Int) := by omega
  have i1 : (0 : Int) ≤ (s.size : Int) - 1 ∧ (s.size : Int) - 1 < (s.size : Int) := by omega
  have i2 : ((s.size : Int) - 1).toNat = s.size - 1 := by omega
  by_cases k0 : a0.toNat = 34
  case neg =>
    have t2 : ((a0.toNat : Int) != 34) = true := by simp; omega
    have e := Lib.hid (unqR_none (unq_short (li s) (.inr (.inl (by rw [ea0]; exact k0)))))
    clear k0 ea0 ea1
    go_enter Try.func11, Try.ntmps11
    go_wp2_with fail
    go_ret2
    exact ⟨by rw [e.out]; rfl, Below.refl _ _⟩
  have t2 : ((a0.toNat : Int) != 34) = false := by simp; omega
  by_cases k1 : a1.toNat = 34
  case neg =>
    have t3 : ((a1.toNat : Int) != 34) = true := by simp; omega
    have e := Lib.hid (unqR_none (unq_short (li s) (.inr (.inr (by rw [li_len, ea1]; exact k1)))))
    clear k0 k1 ea0 ea1
    go_enter Try.func11, Try.ntmps11
    go_wp2_with fail
    go_ret2
    exact ⟨by rw [e.out]; rfl, Below.refl _ _⟩
  have t3 : ((a1.toNat : Int) != 34) = false := by simp; omega
  have hmid := Lib.hid (li_mid s (by omega))
  have j1 : (1 : Int) ≤ (s.size : Int) - 1 := by omega
  obtain ⟨t, ht⟩ : ∃ t, s.extract 1 (s.size - 1) = t := ⟨_, rfl⟩
  rw [ht] at hmid
  clear k0 k1 ea0 ea1
  have hstop : Hid (unb (li t) = none → unqR (li s) = .returned (.tuple #[.string ⟨#[]⟩, .bool false])) := fun h => unqR_none (unq_stop (li s) (by rw [← hmid.out]; exact h))
  have hyes : Hid (∀ o, unb (li t) = some o → quote o = li s → unqR (li s) = .returned (.tuple #[.string ⟨o.toArray⟩, .bool true])) := fun o h k => by
    unfold unqR; rw [unq_end (li s) o (by rw [← hmid.out]; exact h), if_pos k]
  have hno : Hid (∀ o, unb (li t) = some o → quote o ≠ li s → unqR (li s) = .returned (.tuple #[.string ⟨#[]⟩, .bool false])) := fun o h k => by
    unfold unqR; rw [unq_end (li s) o (by rw [← hmid.out]; exact h), if_neg k]
  have hts : t.size ≤ s.size := by rw [← ht]; simp; omega
  have hts' : t.size ≤ 68719476736 := by omega
  obtain ⟨i, hi, hz0, hz1, hz2⟩ := info5
  have H := Lib.hid (And.intro hi (And.intro hz0 (And.intro hz1 hz2)))
  clear hi hz0 hz1 hz2
  have hstart : Hid (UW w (.slice none 0 0) [] w) := ⟨World.ownsRow_nil w w.heap.size 5 1, Below.refl _ _⟩
  revert hstop hyes hno
  generalize hR : unqR (li s) = R
  intro hstop hyes hno
  clear hR hmid
  go_enter Try.func11, Try.ntmps11
  go_wp2_with fail
  clear ht hts t1 t2 t3 i0 i1 i2 j1
  go_loopw [5, 6] (fun v i wr => ∃ (pos : Nat) (acc : List UInt8), i = .int .i64 (pos : Int) ∧ Hid (UW w v acc wr) ∧ pos ≤ t.size ∧ acc.length ≤ pos ∧ Hid ((unb ((li t).drop pos)).map (acc ++ ·) = unb (li t))) (fun _ i _ => t.size - (intOf i).toNat)
  case atStart => exact ⟨0, [], rfl, hstart, by omega, by simp, by show _ = _; rw [List.drop_zero]; cases unb (li t) <;> rfl⟩
  case round =>
    obtain ⟨pos, acc, rfl, hU, hp, hal, hacc⟩ := hrel
    rename_i wr
    by_cases hlt : pos < t.size
    · obtain ⟨a, ha, ea⟩ := byt8 t pos hlt
      have hlt' : (pos : Int) < (t.size : Int) := by omega
      have hsize := hU.out.bel.size
      have hb1 : acc.length + 1 ≤ maxLen := by unfold maxLen; omega
      have hb2 : (acc.length + 1) * 1 ≤ 140737488355328 := by omega
      by_cases k : a.toNat = 92
      case neg =>
        have t1 : ((a.toNat : Int) != 92) = true := by simp; omega
        have m1 := Lib.hid (map_step hacc.out (unb_a hlt a ea k))
        clear hacc k ea
        go_wp2_with (first
          | (at_builtin; refine wpList_append_own _ rfl (.tmp 38) (.tmp 42) 32 rfl w.heap.size 5 i (.int .u8 0) 1 1 Try.underlying32 H.out.1 H.out.2.1 H.out.2.2.1 H.out.2.2.2 rfl (by decide) _ _ _ rfl (hU.out.own.alloc _) _ 1 1 [.int .u8 (a.toNat : Int)] rfl rfl (one_new _ _ _) (by simp [Value.oneCell']) hb1 hb2 (Nat.le_trans hsize (by simp)) ?_)
          | fail)
        intro v' w' o1 g1 _
        have hU2 := Lib.hid (hU.out.put o1 g1)
        clear o1 g1
        go_wp2_with fail
        go_roundw
        case rel => exact ⟨pos + 1, acc ++ [a], by go_num, hU2, by omega, by simp; omega, m1⟩
        case measure => simp [intOf]; omega
      have t1 : ((a.toNat : Int) != 92) = false := by simp; omega
      by_cases h2 : pos + 1 < t.size
      case neg =>
        have t2 : decide ((t.size : Int) ≤ (pos : Int) + 1) = true := by simp; omega
        have hn := unb_b hlt a ea k h2
        have e := Lib.hid (hstop.out (by rw [← hacc.out, hn]; rfl))
        clear hacc k ea hn
        go_wp2_with fail
        go_ret2
        exact ⟨by rw [e.out]; rfl, hU.out.bel⟩
      have t2 : decide ((t.size : Int) ≤ (pos : Int) + 1) = false := by simp; omega
      obtain ⟨c, hc, ec⟩ := byt8 t (pos + 1) h2
      have h2' : (pos : Int) + 1 < (t.size : Int) := by omega
      have h2n : (0 : Int) ≤ (pos : Int) + 1 ∧ (pos : Int) + 1 < (t.size : Int) := by omega
      have h2c : ((pos : Int) + 1).toNat = pos + 1 := by omega
      by_cases kc : c.toNat = 110
      · have t3 : ((c.toNat : Int) == 110) = true := by rw [kc]; rfl
        have m1 := Lib.hid (map_step hacc.out (unb_c h2 a c ea k ec kc))
        clear hacc k ea ec kc
        go_wp2_with (first
          | (at_builtin; refine wpList_append_own _ rfl (.tmp 55) (.tmp 56) 32 rfl w.heap.size 5 i (.int .u8 0) 1 1 Try.underlying32 H.out.1 H.out.2.1 H.out.2.2.1 H.out.2.2.2 rfl (by decide) _ _ _ rfl (hU.out.own.alloc _) _ 1 1 [.int .u8 10] rfl rfl (one_new _ _ _) (by simp [Value.oneCell']) hb1 hb2 (Nat.le_trans hsize (by simp)) ?_)
          | fail)
        intro v' w' o1 g1 _
        have hU2 := Lib.hid (hU.out.put (x := 10) o1 g1)
        clear o1 g1
        go_wp2_with fail
        go_roundw
        case rel => exact ⟨pos + 2, acc ++ [10], by go_num, hU2, by omega, by simp; omega, m1⟩
        case measure => simp [intOf]; omega
      have t3 : ((c.toNat : Int) == 110) = false := by rw [beq_eq_false_iff_ne]; omega
      by_cases kx : c.toNat = 120
      case neg =>
        have t4 : ((c.toNat : Int) == 120) = false := by rw [beq_eq_false_iff_ne]; omega
        have m1 := Lib.hid (map_step hacc.out (unb_e h2 a c ea k ec kc (fun h => kx h.1)))
        clear hacc k ea ec kc kx
        go_wp2_with (first
          | (at_builtin; refine wpList_append_own _ rfl (.tmp 103) (.tmp 107) 32 rfl w.heap.size 5 i (.int .u8 0) 1 1 Try.underlying32 H.out.1 H.out.2.1 H.out.2.2.1 H.out.2.2.2 rfl (by decide) _ _ _ rfl (hU.out.own.alloc _) _ 1 1 [.int .u8 (c.toNat : Int)] rfl rfl (one_new _ _ _) (by simp [Value.oneCell']) hb1 hb2 (Nat.le_trans hsize (by simp)) ?_)
          | fail)
        intro v' w' o1 g1 _
        have hU2 := Lib.hid (hU.out.put o1 g1)
        clear o1 g1
        go_wp2_with fail
        go_roundw
        case rel => exact ⟨pos + 2, acc ++ [c], by go_num, hU2, by omega, by simp; omega, m1⟩
        case measure => simp [intOf]; omega
      have t4 : ((c.toNat : Int) == 120) = true := by rw [kx]; rfl
      by_cases h4 : pos + 3 < t.size
      case neg =>
        have t5 : decide ((pos : Int) + 1 + 2 < (t.size : Int)) = false := by simp; omega
        have m1 := Lib.hid (map_step hacc.out (unb_e h2 a c ea k ec kc (fun h => h4 h.2.1)))
        clear hacc k ea ec kc kx
        go_wp2_with (first
          | (at_builtin; refine wpList_append_own _ rfl (.tmp 103) (.tmp 107) 32 rfl w.heap.size 5 i (.int .u8 0) 1 1 Try.underlying32 H.out.1 H.out.2.1 H.out.2.2.1 H.out.2.2.2 rfl (by decide) _ _ _ rfl (hU.out.own.alloc _) _ 1 1 [.int .u8 (c.toNat : Int)] rfl rfl (one_new _ _ _) (by simp [Value.oneCell']) hb1 hb2 (Nat.le_trans hsize (by simp)) ?_)
          | fail)
        intro v' w' o1 g1 _
        have hU2 := Lib.hid (hU.out.put o1 g1)
        clear o1 g1
        go_wp2_with fail
        go_roundw
        case rel => exact ⟨pos + 2, acc ++ [c], by go_num, hU2, by omega, by simp; omega, m1⟩
        case measure => simp [intOf]; omega
      have t5 : decide ((pos : Int) + 1 + 2 < (t.size : Int)) = true := by simp; omega
      have h3l : pos + 2 < t.size := by omega
      obtain ⟨d, hd, ed⟩ := byt8 t (pos + 2) h3l
      obtain ⟨f, hf, ef⟩ := byt8 t (pos + 3) h4
      have h3n : (0 : Int) ≤ (pos : Int) + 1 + 1 ∧ (pos : Int) + 1 + 1 < (t.size : Int) := by omega
      have h4n : (0 : Int) ≤ (pos : Int) + 1 + 2 ∧ (pos : Int) + 1 + 2 < (t.size : Int) := by omega
      have h3c : ((pos : Int) + 1 + 1).toNat = pos + 2 := by omega
      have h4c : ((pos : Int) + 1 + 2).toNat = pos + 3 := by omega
      by_cases kd : hxv d.toNat < 16
      case neg =>
        have td : decide (0 ≤ rdv d) = false := by rw [rdv_yes]; simp [kd]
        have m1 := Lib.hid (map_step hacc.out (unb_e h2 a c ea k ec kc (fun h => kd (by rw [← ed]; exact h.2.2.1))))
        clear hacc k ea ec kc kx kd ed ef
        go_wp2_with (first
          | (go_at_call 21; refine (rdv_any _ _).mono ?_; rintro e w' ⟨rfl, rfl⟩)
          | (at_builtin; refine wpList_append_own _ rfl (.tmp 103) (.tmp 107) 32 rfl w.heap.size 5 i (.int .u8 0) 1 1 Try.underlying32 H.out.1 H.out.2.1 H.out.2.2.1 H.out.2.2.2 rfl (by decide) _ _ _ rfl (hU.out.own.alloc _) _ 1 1 [.int .u8 (c.toNat : Int)] rfl rfl (one_new _ _ _) (by simp [Value.oneCell']) hb1 hb2 (Nat.le_trans hsize (by simp)) ?_)
          | fail)
        intro v' w' o1 g1 _
        have hU2 := Lib.hid (hU.out.put o1 g1)
        clear o1 g1
        go_wp2_with fail
        go_roundw
        case rel => exact ⟨pos + 2, acc ++ [c], by go_num, hU2, by omega, by simp; omega, m1⟩
        case measure => simp [intOf]; omega
      have td : decide (0 ≤ rdv d) = true := by rw [rdv_yes]; simp [kd]
      by_cases kf : hxv f.toNat < 16
      case neg =>
        have tf : decide (0 ≤ rdv f) = false := by rw [rdv_yes]; simp [kf]
        have m1 := Lib.hid (map_step hacc.out (unb_e h2 a c ea k ec kc (fun h => kf (by rw [← ef]; exact h.2.2.2))))
        clear hacc k ea ec kc kx kd kf ed ef
        go_wp2_with (first
          | (go_at_call 21; refine (rdv_any _ _).mono ?_; rintro e w' ⟨rfl, rfl⟩)
          | (at_builtin; refine wpList_append_own _ rfl (.tmp 103) (.tmp 107) 32 rfl w.heap.size 5 i (.int .u8 0) 1 1 Try.underlying32 H.out.1 H.out.2.1 H.out.2.2.1 H.out.2.2.2 rfl (by decide) _ _ _ rfl (hU.out.own.alloc _) _ 1 1 [.int .u8 (c.toNat : Int)] rfl rfl (one_new _ _ _) (by simp [Value.oneCell']) hb1 hb2 (Nat.le_trans hsize (by simp)) ?_)
          | fail)
        intro v' w' o1 g1 _
        have hU2 := Lib.hid (hU.out.put o1 g1)
        clear o1 g1
        go_wp2_with fail
        go_roundw
        case rel => exact ⟨pos + 2, acc ++ [c], by go_num, hU2, by omega, by simp; omega, m1⟩
        case measure => simp [intOf]; omega
      have tf : decide (0 ≤ rdv f) = true := by rw [rdv_yes]; simp [kf]
      have m1 := Lib.hid (map_step hacc.out (unb_d h4 a c d f ea k ec kx ed ef kd kf))
      clear hacc k ea ec kc kx ed ef
      go_wp2_with (first
          | (go_at_call 21; refine (rdv_any _ _).mono ?_; rintro e w' ⟨rfl, rfl⟩)
          | fail)
      obtain ⟨q2, hq2⟩ : ∃ q, pos + 2 = q := ⟨_, rfl⟩
      obtain ⟨q3, hq3⟩ : ∃ q, pos + 3 = q := ⟨_, rfl⟩
      have z2 : q2 < t.size := by omega
      have z3 : q3 < t.size := by omega
      have x2 : IntKind.i64.wrap ((pos : Int) + 1 + 1) = (q2 : Int) := by rw [IntKind.wrap_i64]; omega
      have x3 : IntKind.i64.wrap ((pos : Int) + 1 + 2) = (q3 : Int) := by rw [IntKind.wrap_i64]; omega
      have y2 : t[q2]'z2 = d := by subst hq2; exact hd
      have y3 : t[q3]'z3 = f := by subst hq3; exact hf
      have z2' : (q2 : Int) < (t.size : Int) := by omega
      have z3' : (q3 : Int) < (t.size : Int) := by omega
      have z2'' : (0 : Int) ≤ (q2 : Int) := by omega
      have z3'' : (0 : Int) ≤ (q3 : Int) := by omega
      have Hq3 := Lib.hid hq3
      obtain ⟨xd, hxd⟩ : ∃ n, hxv d.toNat = n := ⟨_, rfl⟩
      obtain ⟨xf, hxf⟩ : ∃ n, hxv f.toNat = n := ⟨_, rfl⟩
      have vd : rdv d = (xd : Int) := by unfold rdv; rw [if_pos kd, hxd]
      have vf : rdv f = (xf : Int) := by unfold rdv; rw [if_pos kf, hxf]
      obtain ⟨q, hq⟩ : ∃ q, xd * 16 + xf = q := ⟨_, rfl⟩
      have hq256 : q < 256 := by omega
      have u1 : IntKind.i64.wrap ((xd : Int) * 16) = (xd : Int) * 16 := by rw [IntKind.wrap_i64]; omega
      have u2 : IntKind.i64.wrap ((xd : Int) * 16 + (xf : Int)) = (q : Int) := by rw [IntKind.wrap_i64]; omega
      have hb8 : Hid (hxv d.toNat * 16 + hxv f.toNat = q) := by show _ = _; rw [hxd, hxf]; exact hq
      rw [hb8.out] at m1
      clear hd hf hq2 hq3 h3n h4n h3c h4c
      have hown : Hid (wr.drew.ownsRow w.heap.size 5 1 u5 acc.length (Lib.byteCells acc)) := hU.out.own
      have hsz2 : ∀ o, w.heap.size ≤ (wr.alloc o).drew.heap.size := fun o => by show w.heap.size ≤ (wr.alloc o).heap.size; simp; omega
      have hsz3 := Lib.hid hsz2
      clear hsz2
      have u3 : IntKind.u8.wrap (q : Int) = (q : Int) := by rw [IntKind.wrap_u8]; omega
      have hq8 : Hid (((b8 q).toNat : Int) = (q : Int)) := by show _ = _; rw [b8_toNat _ hq256]
      clear hq hxd hxf kd kf
      go_region_held3 (fun _ => True) (exact trivial)
        (first
          | (go_at_call 21; refine (rdv_any _ _).mono ?_; rintro e w' ⟨rfl, rfl⟩)
          | ((refine step_append_lies _ (by rfl) _ _ _ (by rfl) w.heap.size 5 i (.int .u8 0) 1 1 Try.underlying32 H.out.1 H.out.2.1 H.out.2.2.1 H.out.2.2.2 rfl (by decide) u5 acc.length (Lib.byteCells acc) (by rfl) (hown.out.alloc _) ⟨wr.heap.size, 0, none⟩ 1 1 [.int .u8 (q : Int)] (by rfl) (by rfl) (one_new wr (.int .u8 (q : Int)) 5) (by simp [Value.oneCell']) (by decide) hb1 hb2 (hsz3.out _) (wr.heap.size + 1) (by simp) ?_; intro gg cap w1 hown1 hgrow hat hlt2)))
      all_goals
        have hU2 : Hid (UW w (.slice (some ⟨gg, 0, none⟩) (acc.length + 1) cap) (acc ++ [b8 q]) w1) := hU.out.drew.put (by rw [hq8.out]; exact hown1) hgrow
        clear hown1 hgrow hat hlt2
        go_wp2_with fail
        go_roundw
        case rel =>
          have := Hq3.out
          exact ⟨pos + 4, acc ++ [b8 q], by rw [show (q3 : Int) = (pos : Int) + 3 by omega]; go_num, hU2, by omega, by simp; omega, m1⟩
        case measure =>
          have := Hq3.out
          simp [intOf]; omega
    · obtain rfl : pos = t.size := by omega
      have hun : Hid (unb (li t) = some acc) := by
        show _ = _
        rw [← hacc.out, drop_end (by omega)]; simp [unb_nil]
      have cv := conv_own hU.out.own
      obtain ⟨o, ho⟩ : ∃ o : ByteArray, o = ⟨acc.toArray⟩ := ⟨_, rfl⟩
      have hol : Hid (li o = acc) := by show _ = _; rw [ho, li_mk]
      have hos : o.size ≤ 1099511627776 := by rw [← li_len, hol.out]; omega
      have cq := Lib.hid (fun v => rquote_any o hos v)
      rw [hol.out] at cq
      rw [← ho] at cv
      have ho' := Lib.hid ho
      clear hacc ho
      obtain ⟨q, hq⟩ : ∃ q : ByteArray, q = ⟨(quote acc).toArray⟩ := ⟨_, rfl⟩
      have hqs : (q.toList == s.toList) = decide (quote acc = li s) := by
        rw [toList_data, toList_data, hq]
        show ((quote acc).toArray.toList == li s) = _
        rw [List.toList_toArray, Bool.eq_iff_iff]
        simp
      rw [← hq] at cq
      clear hq
      by_cases k : quote acc = li s
      · have t1 : (q.toList == s.toList) = true := by rw [hqs]; simp [k]
        have e := Lib.hid (hyes.out acc hun.out k)
        clear hqs k
        go_wp2_with fail
        refine (cq.out _).mono ?_
        rintro e1 w2 ⟨rfl, b2⟩
        have cv2 := conv_own (own_below hU.out.own b2)
        rw [← ho'.out] at cv2
        have b3 := Lib.hid (hU.out.bel.trans (b2.mono hU.out.bel.size))
        clear b2 cv
        go_wp2_with fail
        go_ret2
        exact ⟨by rw [e.out, ← ho'.out]; rfl, b3.out⟩
      · have t1 : (q.toList == s.toList) = false := by rw [hqs]; simp [k]
        have e := Lib.hid (hno.out acc hun.out k)
        clear hqs k
        go_wp2_with fail
        refine (cq.out _).mono ?_
        rintro e1 w2 ⟨rfl, b2⟩
        have b3 := Lib.hid (hU.out.bel.trans (b2.mono hU.out.bel.size))
        clear b2 cv
        go_wp2_with fail
        go_ret2
        exact ⟨by rw [e.out]; rfl, b3.out⟩

end Go.Proofs.Ytjpdbdeecglabaa
