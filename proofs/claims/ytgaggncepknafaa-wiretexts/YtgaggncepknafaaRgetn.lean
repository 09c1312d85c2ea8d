/-
  What GetNum of the reference returns.
-/
import Derived.Test.YtgaggncepknafaaRnum
import Derived.Test.YtgaggncepknafaaQuiets
import Derived.Shelf.Abstract
namespace Go.Proofs.Ytgaggncepknafaa
open Go.RowKit

theorem ent15 : ∀ args w, (callFunc 15 args).run Try.prog w = .ok (.enter 15 args) w := enters_of Try.func15 (by kernel_rfl) rfl
/-- The place that GetNum of the reference has come to. -/
structure RN (l : List UInt8) (k n u : Nat) : Prop where
  k8 : k ≤ 8
  kl : k ≤ l.length
  un : u = 128 ^ k
  lt : n < 128 ^ k
  eq : seem 8 l = n + u * seem (8 - k) (l.drop k)
  hi : ∀ x ∈ l.take k, 128 ≤ x.toNat
theorem RN.start (l : List UInt8) : RN l 0 0 1 := ⟨by omega, by omega, rfl, by decide, by simp, fun x hx => by cases hx⟩
theorem pow_le8 {k : Nat} (h : k ≤ 8) : (128 : Nat) ^ k ≤ 72057594037927936 := by
  have : (128 : Nat) ^ k ≤ 128 ^ 8 := Nat.pow_le_pow_right (by decide) h
  exact this
theorem RN.step {l : List UInt8} {k n u : Nat} (h : RN l k n u) (hk : k < 8) (hl : k < l.length) : seem 8 l = n + l[k].toNat % 128 * u + (if l[k].toNat < 128 then 0 else 128 * (u * seem (8 - (k + 1)) (l.drop (k + 1)))) ∧ n + l[k].toNat % 128 * u < 128 ^ (k + 1) := by
  constructor
  · have e := h.eq
    rw [List.drop_eq_getElem_cons hl, show 8 - k = 8 - (k + 1) + 1 by omega, seem] at e
    rw [e]
    generalize seem (8 - (k + 1)) (l.drop (k + 1)) = z
    generalize l[k].toNat = b
    split
    · rw [Nat.add_zero, Nat.add_zero, Nat.mul_comm]
    · rw [Nat.mul_add, Nat.mul_left_comm u 128 z, Nat.mul_comm u (b % 128), Nat.add_assoc]
  · have h1 := h.lt
    have h2 : l[k].toNat % 128 < 128 := Nat.mod_lt _ (by decide)
    rw [h.un, Nat.pow_succ]
    generalize l[k].toNat % 128 = b at h2 ⊢
    generalize (128 : Nat) ^ k = p at h1 ⊢
    have : b * p ≤ 127 * p := Nat.mul_le_mul_right p (by omega)
    omega
theorem RN.next {l : List UInt8} {k n u : Nat} (h : RN l k n u) (hk : k < 8) (hl : k < l.length) (hb : 128 ≤ l[k].toNat) : RN l (k + 1) (n + l[k].toNat % 128 * u) (u * 128) := by
  obtain ⟨h1, h2⟩ := h.step hk hl
  refine ⟨by omega, by omega, by rw [h.un, Nat.pow_succ], h2, ?_, fun x hx => ?_⟩
  · rw [h1, if_neg (by omega)]
    rw [Nat.mul_comm u 128, Nat.mul_assoc]
  · rw [List.take_succ_eq_append_getElem hl, List.mem_append] at hx
    rcases hx with hx | hx
    · exact h.hi x hx
    · rw [List.mem_singleton] at hx; rw [hx]; exact hb
theorem RN.done {l : List UInt8} {k n u : Nat} (h : RN l k n u) (hk : k < 8) (hl : k < l.length) (hb : l[k].toNat < 128) : seem 8 l = n + l[k].toNat % 128 * u := by
  obtain ⟨h1, _⟩ := h.step hk hl
  rw [h1, if_pos hb, Nat.add_zero]
theorem rn_yes {l : List UInt8} {k m : Nat} (hB : m ≤ big) (he : num m = l.take (k + 1)) : gn l = some (m, l.drop (k + 1)) := by
  have := gn_num hB (l.drop (k + 1))
  rw [he, List.take_append_drop] at this
  exact this
theorem RN.no {l : List UInt8} {k n u m : Nat} (h : RN l k n u) (hl : k < l.length) (hb : l[k].toNat < 128) (hm : seem 8 l = m) (he : num m ≠ l.take (k + 1)) : gn l = none := by
  cases e : gn l with
  | none => rfl
  | some q =>
    obtain ⟨m', r⟩ := q
    obtain ⟨h1, h2⟩ := gn_some e
    have h3 := gn_seem e
    rw [hm] at h3
    subst h3
    exact absurd (num_at h1 h2 hl h.hi hb) he

set_option maxHeartbeats 1000000 in
set_option maxRecDepth 100000 in
theorem rgetNum_any (s : ByteArray) (hs : s.size ≤ 9223372036854775000) (w : World) :
    Calls Try.prog 13 #[.string s] w fun e w' => e = .returned (nR (li s)) ∧ Below w.heap.size w w' := by
  have hS := Lib.hid (RN.start (li s))
  go_enter Try.func13, Try.ntmps13
  go_wp2_with fail
  go_loopw [5, 6, 7] (fun n u i wr => ∃ (k m v : Nat), i = .int .i64 (k : Int) ∧ n = .int .i64 (m : Int) ∧ u = .int .i64 (v : Int) ∧ k ≤ 8 ∧ k ≤ s.size ∧ m < 72057594037927936 ∧ v ≤ 72057594037927936 ∧ Hid (RN (li s) k m v) ∧ Hid (w = wr)) (fun _ _ i _ => 8 - (intOf i).toNat)
  case atStart => exact ⟨0, 0, 1, rfl, rfl, rfl, by omega, by omega, by omega, by omega, hS.out, rfl⟩
  case round =>
    obtain ⟨k, m, v, rfl, rfl, rfl, hk8, hks, hm, hv, hR, hw⟩ := hrel
    obtain rfl := hw.out
    by_cases hlt : k < s.size
    case neg =>
      have t1 : decide (k < s.size) = false := by simp; omega
      have e := Lib.hid (nR_none (gn_none (l := li s) (i := k) (.inl (by rw [li_len]; omega)) hR.out.hi))
      go_wp2_with fail
      go_returns
      exact ⟨by rw [e.out]; rfl, Below.refl _ _⟩
    by_cases h8 : k < 8
    case neg =>
      have t1 : decide (k < s.size) = true := by simp; omega
      have t2 : decide ((k : Int) < 8) = false := by simp; omega
      have e := Lib.hid (nR_none (gn_none (l := li s) (i := k) (.inr (by omega)) hR.out.hi))
      go_wp2_with fail
      go_returns
      exact ⟨by rw [e.out]; rfl, Below.refl _ _⟩
    have t1 : decide (k < s.size) = true := by simp; omega
    have t2 : decide ((k : Int) < 8) = true := by simp; omega
    have hl : k < (li s).length := by rw [li_len]; exact hlt
    have hat : (li s)[k] = s[k]'hlt := rfl
    have hst := hR.out.step h8 hl
    have hu8 : v * 128 ≤ 72057594037927936 := by rw [hR.out.un, ← Nat.pow_succ]; exact pow_le8 (by omega)
    have hb8 : m + (li s)[k].toNat % 128 * v < 72057594037927936 := Nat.lt_of_lt_of_le hst.2 (pow_le8 (by omega))
    have hnx := Lib.hid (hR.out.next h8 hl)
    have hdn := Lib.hid (hR.out.done h8 hl)
    have hno := Lib.hid (fun x => hR.out.no (m := x) hl)
    have hbl : (li s)[k].toNat < 256 := (li s)[k].toNat_lt
    clear hst
    rw [hat] at hb8 hnx hdn hno hbl
    clear hat
    obtain ⟨q, hq⟩ : ∃ q, (s[k]'hlt).toNat % 128 * v = q := ⟨_, rfl⟩
    rw [hq] at hb8 hnx hdn
    have hqi : ((s[k]'hlt).toNat : Int) % 128 * (v : Int) = (q : Int) := by rw [← hq]; simp
    clear hq
    obtain ⟨n2, hn2⟩ : ∃ n2, m + q = n2 := ⟨_, rfl⟩
    have hn2i : (m : Int) + (q : Int) = (n2 : Int) := by omega
    rw [hn2] at hb8 hnx hdn
    have hfull : Hid ((m : Int) + ((s[k]'hlt).toNat : Int) % 128 * (v : Int) = (n2 : Int)) := by show _ = _; rw [hqi, hn2i]
    clear hn2
    by_cases hb : 128 ≤ (s[k]'hlt).toNat
    · have t3 : decide (((s[k]'hlt).toNat : Int) < 128) = false := by simp; omega
      have hN := Lib.hid (hnx.out hb)
      clear hnx hdn hno
      go_wp2_with fail
      go_roundw
      case rel => exact ⟨k + 1, n2, v * 128, by go_num, by go_num, by go_num, by omega, by omega, by omega, by omega, hN.out, by first | rfl | exact True.intro⟩
      case measure => simp [intOf]; omega
    · have t3 : decide (((s[k]'hlt).toNat : Int) < 128) = true := by simp; omega
      have hD := Lib.hid (hdn.out (by omega))
      have hk1 : k + 1 ≤ s.size := by omega
      have hx0 : Hid (li (s.extract 0 (k + 1)) = (li s).take (k + 1)) := by show _ = _; rw [li_ext]; simp
      by_cases hB : 1125899906842624 < n2
      · have tb : decide ((1125899906842624 : Int) < (n2 : Int)) = true := by simp; omega
        have e := Lib.hid (nR_none (gn_big (l := li s) (by rw [hD.out]; exact hB)))
        clear hnx hdn hno
        go_wp2_with (refine park_region (fun X hX => ?_))
        refine hX.out ?_
        clear hX
        refine we_region (fun v => Below w.drew.heap.size w.drew v) (by kernel_rfl) (by kernel_rfl) (Below.refl _ _) ?_
        refine we_move (by rfl) _ (.inl rfl) (.int .i64 (n2 : Int)) rfl ?_
        simp only [Act.put, List.setIfInBounds_toArray, List.set_cons_zero, List.set_cons_succ]
        refine we_icmp (by rfl) .gtr _ _ _ _ rfl .i64 ((n2 : Int)) (1125899906842624) rfl rfl true (tb) ?_
        simp only [Act.put, List.setIfInBounds_toArray, List.set_cons_zero, List.set_cons_succ]
        refine we_move (by rfl) _ (.inl rfl) (.bool true) rfl ?_
        simp only [Act.put, List.setIfInBounds_toArray, List.set_cons_zero, List.set_cons_succ]
        refine we_off 2 35 false (by rfl) (by rfl) (by exact .inl rfl) ?_
        simp only [Act.put, List.setIfInBounds_toArray, List.set_cons_zero, List.set_cons_succ]
        refine we_off 2 35 false (by rfl) (by rfl) (by exact .inl rfl) ?_
        simp only [Act.put, List.setIfInBounds_toArray, List.set_cons_zero, List.set_cons_succ]
        refine we_off 2 35 false (by rfl) (by rfl) (by exact .inl rfl) ?_
        simp only [Act.put, List.setIfInBounds_toArray, List.set_cons_zero, List.set_cons_succ]
        refine we_off 2 35 false (by rfl) (by rfl) (by exact .inl rfl) ?_
        simp only [Act.put, List.setIfInBounds_toArray, List.set_cons_zero, List.set_cons_succ]
        refine we_off 2 35 false (by rfl) (by rfl) (by exact .inl rfl) ?_
        simp only [Act.put, List.setIfInBounds_toArray, List.set_cons_zero, List.set_cons_succ]
        refine we_off 2 35 false (by rfl) (by rfl) (by exact .inl rfl) ?_
        simp only [Act.put, List.setIfInBounds_toArray, List.set_cons_zero, List.set_cons_succ]
        refine we_off 2 35 false (by rfl) (by rfl) (by exact .inl rfl) ?_
        simp only [Act.put, List.setIfInBounds_toArray, List.set_cons_zero, List.set_cons_succ]
        refine we_pick (by rfl) _ _ _ rfl true rfl (.bool true) rfl ?_
        simp only [Act.put, List.setIfInBounds_toArray, List.set_cons_zero, List.set_cons_succ]
        refine we_nil ?_
        intro w2 h2
        go_wp2_with fail
        go_returns
        exact ⟨by rw [e.out]; rfl, ((Below.refl _ _).drew).trans h2⟩
      · have tb : decide ((1125899906842624 : Int) < (n2 : Int)) = false := by simp; omega
        have c1 : Hid (∀ v, Calls Try.prog 15 #[.int .i64 (n2 : Int)] v fun e v' => e = .returned (.string (mk (num n2))) ∧ Below v.heap.size v v') := fun v => by
          have := rnum_nat n2 v
          rw [cl_id (show n2 ≤ big by unfold big; omega)] at this
          exact this
        by_cases hE : num n2 = (li s).take (k + 1)
        · have e := Lib.hid (nR_some (rn_yes (by unfold big; omega) hE))
          have tn : Hid ((!((mk (num n2)).toList == (s.extract 0 (k + 1)).toList)) = false) := by show _ = _; rw [toList_li, toList_li, hx0.out, li_mk', hE]; simp
          have e2 : Hid (mk ((li s).drop (k + 1)) = s.extract (k + 1) s.size) := by show _ = _; apply li_inj; rw [li_mk', li_ext]; rw [← li_len, List.take_of_length_le (Nat.le_refl _)]
          clear hnx hdn hno hE hx0
          revert c1 tn
          generalize mk (num n2) = N1
          intro c1 tn
          go_wp2_with (refine park_region (fun X hX => ?_))
          refine hX.out ?_
          clear hX
          refine we_region (fun v => Below w.drew.heap.size w.drew v) (by kernel_rfl) (by kernel_rfl) (Below.refl _ _) ?_
          refine we_move (by rfl) _ (.inl rfl) (.int .i64 (n2 : Int)) rfl ?_
          simp only [Act.put, List.setIfInBounds_toArray, List.set_cons_zero, List.set_cons_succ]
          refine we_icmp (by rfl) .gtr _ _ _ _ rfl .i64 ((n2 : Int)) (1125899906842624) rfl rfl false (tb) ?_
          simp only [Act.put, List.setIfInBounds_toArray, List.set_cons_zero, List.set_cons_succ]
          refine we_move (by rfl) _ (.inl rfl) (.bool false) rfl ?_
          simp only [Act.put, List.setIfInBounds_toArray, List.set_cons_zero, List.set_cons_succ]
          refine we_move (by rfl) _ (.inl rfl) (.int .i64 (n2 : Int)) rfl ?_
          simp only [Act.put, List.setIfInBounds_toArray, List.set_cons_zero, List.set_cons_succ]
          refine we_call1 (by rfl) 15 _ _ rfl ent15 (.int .i64 (n2 : Int)) rfl (.string N1) (below_call c1.out) ?_
          simp only [Act.put, List.setIfInBounds_toArray, List.set_cons_zero, List.set_cons_succ]
          refine we_move (by rfl) _ (.inl rfl) (.string s) rfl ?_
          simp only [Act.put, List.setIfInBounds_toArray, List.set_cons_zero, List.set_cons_succ]
          refine we_move (by rfl) _ (.inl rfl) (.int .i64 (k : Int)) rfl ?_
          simp only [Act.put, List.setIfInBounds_toArray, List.set_cons_zero, List.set_cons_succ]
          refine we_iadd (by rfl) _ _ _ _ rfl ((k : Int)) (1) rfl rfl (by omega) ?_
          simp only [Act.put, List.setIfInBounds_toArray, List.set_cons_zero, List.set_cons_succ]
          refine we_sub (by rfl) _ _ _ _ rfl Try.underlying9 (s) rfl (none) (some ((k : Int) + 1)) rfl rfl 0 (k + 1) (rfl) (by simp) (by omega) (by omega) ?_
          simp only [Act.put, List.setIfInBounds_toArray, List.set_cons_zero, List.set_cons_succ]
          refine we_sne (by rfl) _ _ _ _ rfl (N1) ((s.extract 0 (k + 1))) rfl rfl false (tn.out) ?_
          simp only [Act.put, List.setIfInBounds_toArray, List.set_cons_zero, List.set_cons_succ]
          refine we_pick (by rfl) _ _ _ rfl false rfl (.bool false) rfl ?_
          simp only [Act.put, List.setIfInBounds_toArray, List.set_cons_zero, List.set_cons_succ]
          refine we_nil ?_
          intro w2 h2
          go_wp2_with fail
          go_region
          go_wp2_with fail
          go_returns
          exact ⟨by rw [e.out, e2.out]; rfl, (((Below.refl _ _).drew).trans h2).drew⟩
        · have e := Lib.hid (nR_none (hno.out n2 (by omega) hD.out hE))
          have tn : Hid ((!((mk (num n2)).toList == (s.extract 0 (k + 1)).toList)) = true) := by show _ = _; rw [toList_li, toList_li, hx0.out, li_mk']; simpa using hE
          clear hnx hdn hno hE hx0
          revert c1 tn
          generalize mk (num n2) = N1
          intro c1 tn
          go_wp2_with (refine park_region (fun X hX => ?_))
          refine hX.out ?_
          clear hX
          refine we_region (fun v => Below w.drew.heap.size w.drew v) (by kernel_rfl) (by kernel_rfl) (Below.refl _ _) ?_
          refine we_move (by rfl) _ (.inl rfl) (.int .i64 (n2 : Int)) rfl ?_
          simp only [Act.put, List.setIfInBounds_toArray, List.set_cons_zero, List.set_cons_succ]
          refine we_icmp (by rfl) .gtr _ _ _ _ rfl .i64 ((n2 : Int)) (1125899906842624) rfl rfl false (tb) ?_
          simp only [Act.put, List.setIfInBounds_toArray, List.set_cons_zero, List.set_cons_succ]
          refine we_move (by rfl) _ (.inl rfl) (.bool false) rfl ?_
          simp only [Act.put, List.setIfInBounds_toArray, List.set_cons_zero, List.set_cons_succ]
          refine we_move (by rfl) _ (.inl rfl) (.int .i64 (n2 : Int)) rfl ?_
          simp only [Act.put, List.setIfInBounds_toArray, List.set_cons_zero, List.set_cons_succ]
          refine we_call1 (by rfl) 15 _ _ rfl ent15 (.int .i64 (n2 : Int)) rfl (.string N1) (below_call c1.out) ?_
          simp only [Act.put, List.setIfInBounds_toArray, List.set_cons_zero, List.set_cons_succ]
          refine we_move (by rfl) _ (.inl rfl) (.string s) rfl ?_
          simp only [Act.put, List.setIfInBounds_toArray, List.set_cons_zero, List.set_cons_succ]
          refine we_move (by rfl) _ (.inl rfl) (.int .i64 (k : Int)) rfl ?_
          simp only [Act.put, List.setIfInBounds_toArray, List.set_cons_zero, List.set_cons_succ]
          refine we_iadd (by rfl) _ _ _ _ rfl ((k : Int)) (1) rfl rfl (by omega) ?_
          simp only [Act.put, List.setIfInBounds_toArray, List.set_cons_zero, List.set_cons_succ]
          refine we_sub (by rfl) _ _ _ _ rfl Try.underlying9 (s) rfl (none) (some ((k : Int) + 1)) rfl rfl 0 (k + 1) (rfl) (by simp) (by omega) (by omega) ?_
          simp only [Act.put, List.setIfInBounds_toArray, List.set_cons_zero, List.set_cons_succ]
          refine we_sne (by rfl) _ _ _ _ rfl (N1) ((s.extract 0 (k + 1))) rfl rfl true (tn.out) ?_
          simp only [Act.put, List.setIfInBounds_toArray, List.set_cons_zero, List.set_cons_succ]
          refine we_pick (by rfl) _ _ _ rfl false rfl (.bool true) rfl ?_
          simp only [Act.put, List.setIfInBounds_toArray, List.set_cons_zero, List.set_cons_succ]
          refine we_nil ?_
          intro w2 h2
          go_wp2_with fail
          go_returns
          exact ⟨by rw [e.out]; rfl, ((Below.refl _ _).drew).trans h2⟩
end Go.Proofs.Ytgaggncepknafaa
