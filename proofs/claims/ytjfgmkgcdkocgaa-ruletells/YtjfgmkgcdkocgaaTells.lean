/-
  What the reference's May, Due, Row and Floor return.
-/
import Derived.Test.YtjfgmkgcdkocgaaDue
import Derived.Test.YtjfgmkgcdkocgaaSame
import Derived.Test.YtjfgmkgcdkocgaaOpens
namespace Go.Proofs.Ytjfgmkgcdkocgaa
open Go Go.RowKit

theorem rmay_any (f : Fl) (fl : Int) (w : World) : Calls Try.prog 11 #[.agg (flr f), .int .i64 fl] w fun e w' => e = .returned (.int .i64 (mayC f fl)) ∧ Below w.heap.size w w' := by
  obtain ⟨r, hr⟩ : ∃ r, mayC f fl = r := ⟨_, rfl⟩
  rw [hr]
  obtain ⟨i, nm, da, se, un, ha, hn, hc⟩ := f
  unfold mayC at hr
  unfold flr
  dsimp only at hr ⊢
  cases se with
  | false =>
    rw [if_pos rfl] at hr
    subst hr
    go_enter Try.func11, Try.ntmps11
    go_wp2_with fail
    go_ret
    exact ⟨rfl, (Below.refl _ _).alloc (Nat.le_refl _) _⟩
  | true =>
    rw [if_neg (by decide)] at hr
    by_cases h1 : fl < un
    · have t1 : decide (fl < un) = true := by simpa using h1
      rw [if_pos h1] at hr
      subst hr
      clear h1
      go_enter Try.func11, Try.ntmps11
      go_wp2_with fail
      go_ret
      exact ⟨rfl, (Below.refl _ _).alloc (Nat.le_refl _) _⟩
    · have t1 : decide (fl < un) = false := by simpa using h1
      rw [if_neg h1] at hr
      by_cases h2 : 0 < hn
      · have t2 : decide (0 < hn) = true := by simpa using h2
        rw [if_pos h2] at hr
        subst hr
        clear h1 h2
        go_enter Try.func11, Try.ntmps11
        go_wp2_with fail
        go_ret
        exact ⟨rfl, (Below.refl _ _).alloc (Nat.le_refl _) _⟩
      · have t2 : decide (0 < hn) = false := by simpa using h2
        rw [if_neg h2] at hr
        subst hr
        clear h1 h2
        go_enter Try.func11, Try.ntmps11
        go_wp2_with fail
        go_ret
        exact ⟨rfl, (Below.refl _ _).alloc (Nat.le_refl _) _⟩

theorem rfloor_any (fl t : Int) (w : World) : Calls Try.prog 18 #[.int .i64 fl, .int .i64 t] w fun e w' => e = .returned (.int .i64 (flC fl t)) ∧ w = w' := by
  have hd : Hid (flC fl t = max fl (min (max t 0) 1099511627776)) := Lib.hid rfl
  generalize flC fl t = R at hd ⊢
  by_cases h1 : t < 0
  · have t1 : decide (t < 0) = true := by simpa using h1
    by_cases h2 : fl < 0
    · have t2 : decide (fl < 0) = true := by simpa using h2
      obtain rfl : R = 0 := by rw [hd.out]; omega
      clear hd h1 h2
      go_enter Try.func18, Try.ntmps18
      go_wp2_with fail
      go_ret
      exact ⟨rfl, rfl⟩
    · have t2 : decide (fl < 0) = false := by simpa using h2
      obtain rfl : R = fl := by rw [hd.out]; omega
      clear hd h1 h2
      go_enter Try.func18, Try.ntmps18
      go_wp2_with fail
      go_ret
      exact ⟨rfl, rfl⟩
  · have t1 : decide (t < 0) = false := by simpa using h1
    by_cases h3 : 1099511627776 < t
    · have t3 : decide (1099511627776 < t) = true := by simpa using h3
      by_cases h2 : fl < 1099511627776
      · have t2 : decide (fl < 1099511627776) = true := by simpa using h2
        obtain rfl : R = 1099511627776 := by rw [hd.out]; omega
        clear hd h1 h2 h3
        go_enter Try.func18, Try.ntmps18
        go_wp2_with fail
        go_ret
        exact ⟨rfl, rfl⟩
      · have t2 : decide (fl < 1099511627776) = false := by simpa using h2
        obtain rfl : R = fl := by rw [hd.out]; omega
        clear hd h1 h2 h3
        go_enter Try.func18, Try.ntmps18
        go_wp2_with fail
        go_ret
        exact ⟨rfl, rfl⟩
    · have t3 : decide (1099511627776 < t) = false := by simpa using h3
      by_cases h2 : fl < t
      · have t2 : decide (fl < t) = true := by simpa using h2
        obtain rfl : R = t := by rw [hd.out]; omega
        clear hd h1 h2 h3
        go_enter Try.func18, Try.ntmps18
        go_wp2_with fail
        go_ret
        exact ⟨rfl, rfl⟩
      · have t2 : decide (fl < t) = false := by simpa using h2
        obtain rfl : R = fl := by rw [hd.out]; omega
        clear hd h1 h2 h3
        go_enter Try.func18, Try.ntmps18
        go_wp2_with fail
        go_ret
        exact ⟨rfl, rfl⟩

theorem intAt_own {B : Nat} {w : World} {a : Option Addr} {n c : Nat} {L : List Int} (h : w.ownsRow B 3 1 (.slice a n c) n (ids L)) : IntAt w.heap.size w a L := by
  have hlen : L.length = n := by have := h.1; simpa [ids] using this
  rcases h.2 with ⟨_, h0⟩ | ⟨g, cap, cur, h1, _, h3, _, _, _, h7⟩
  · left; rw [h0] at hlen; exact List.length_eq_zero_iff.1 hlen
  · injection h1 with h1 _ _
    refine .inr ⟨g, 0, h1, lt_of_some h3, fun k hk => ?_⟩
    rw [cell_of_row w g _ _ _ _ h3, Nat.zero_add]
    have h8 : (cur.toList.take (n * 1))[k]? = (ids L)[k]? := by rw [h7]
    rw [List.getElem?_take_of_lt (by omega), Array.getElem?_toList] at h8
    rw [h8]; simp [ids, hk]
theorem IntAt.on {w v : World} {a : Option Addr} {L : List Int} (h : IntAt w.heap.size w a L) (hb : Below w.heap.size w v) : IntAt v.heap.size v a L := by
  rcases h.past hb with h | ⟨b, o, h1, h2, h3⟩
  · exact .inl h
  · exact .inr ⟨b, o, h1, Nat.lt_of_lt_of_le h2 hb.size, h3⟩

set_option maxHeartbeats 1000000 in
theorem row_true (a b : Option Addr) (c d : Nat) (L : List Int) (w : World) (ha : IntAt w.heap.size w a L) (hb : IntAt w.heap.size w b L) (hL : L.length ≤ 1000) :
    Calls Try.prog 14 #[.slice a L.length c, .slice b L.length d] w fun e w' => e = .returned (.bool true) ∧ Below w.heap.size w w' := by
  have hA := Lib.hid ha
  have hB := Lib.hid hb
  clear ha hb
  go_enter Try.func14, Try.ntmps14
  go_wp2_with fail
  go_loopw [5] (fun i wr => ∃ k : Nat, k ≤ L.length ∧ i = .int .i64 (k : Int) ∧ Hid (Below w.heap.size w wr)) (fun i _ => L.length - (intOf i).toNat)
  case atStart => exact ⟨0, Nat.zero_le _, rfl, Lib.hid (Below.refl _ _)⟩
  case round =>
    obtain ⟨k, hk, rfl, hW⟩ := hrel
    rename_i wr
    by_cases hlt : k < L.length
    · have hlt' : (k : Int) < (L.length : Int) := by omega
      have hlt2 : decide (k < L.length) = true := by simpa using hlt
      rcases hA.out with h0 | ⟨b1, o1, rfl, l1, hc1⟩
      · rw [h0] at hlt; simp at hlt
      rcases hB.out with h0 | ⟨b2, o2, rfl, l2, hc2⟩
      · rw [h0] at hlt; simp at hlt
      have q1 : wr.cell? ⟨b1, o1 + k, none⟩ = some (.int .i64 L[k]) := (hW.out.cell (p := ⟨b1, o1 + k, none⟩) l1).trans (hc1 k hlt)
      have q2 : wr.cell? ⟨b2, o2 + k, none⟩ = some (.int .i64 L[k]) := (hW.out.cell (p := ⟨b2, o2 + k, none⟩) l2).trans (hc2 k hlt)
      clear hc1 hc2
      generalize L[k] = y at *
      go_wp2_with fail
      go_quiet ((fail))
      rename_i nq
      have hW2 := Lib.hid (hW.out.trans ((below_drew wr nq).mono hW.out.size))
      go_wp2_with fail
      go_roundw
      case rel => exact ⟨k + 1, by omega, by go_num, hW2⟩
      case measure => simp [intOf]; omega
    · obtain rfl : k = L.length := by omega
      have hlt' : ¬ (L.length : Int) < (L.length : Int) := by omega
      have hlt2 : decide (L.length < L.length) = false := by simp
      go_wp2_with fail
      go_ret
      exact ⟨rfl, hW.out⟩

theorem one_new (w : World) (u : Value) (t : TypeId) : ∀ j x, [u][j]? = some x → (w.alloc (.cells #[u] t)).cell? ((⟨w.heap.size, 0, none⟩ : Addr).add j) = some x := by
  intro j x h
  rw [Addr.add_mid, Nat.zero_add]
  exact cell_new w _ t j x (by simpa using h)
theorem own_block_ge {w : World} {B : Nat} {e : TypeId} {v : Value} {n : Nat} {xs : List Value} (h : w.ownsRow B e 1 v n xs) : ∀ k, v.ownBlock = some k → B ≤ k := fun k hk => by obtain ⟨_, _, h⟩ := own_at h hk; exact h

theorem wpList_load_at {P : Program} {ops : Array Oper} {rest : List Oper} {o : Oper} {a : Act} {w : World} {Q : Exit → Act → World → Prop} (hg : o.guard = none) (t : TypeId) (x : Operand) (ho : o.op = .load t x) (u v : Value) (hx : a.eval x = u) (hv : (Instr.loadAt t u).run P w = .ok v w)
    (h : wpList P ops Q rest (a.put o.dst v) w) : wpList P ops Q (o :: rest) a w :=
  wpList_plain hg fun _ hK => by
    unfold Oper.wp execOp
    simp only [ho, hx, Sem.run_bind, hv, Result.andThen_ok, Sem.run_pure]
    exact hK _ _ h
theorem load_fl (b o : Nat) (f : Fl) (v : World) (hv : v.rangeAt b o (flr f).toList) : (Instr.loadAt 27 (.pointer (some ⟨b, o, none⟩))).run Try.prog v = .ok (.agg (flr f)) v := by
  have := run_loadAt_mid (P := Try.prog) v b o 27 (flr f).toList _ hv Try.underlying27 rfl info27
  rw [Array.toArray_toList] at this; exact this
set_option maxRecDepth 100000 in
set_option maxHeartbeats 1000000 in
theorem rdue_any (l : List Fl) (fl : Int) (hn : l.length ≤ 1000) (p : Option Addr) (cap : Nat) (w : World) (hE : FilesAt w.heap.size w p l) :
    Calls Try.prog 16 #[.slice p l.length cap, .int .i64 fl] w fun r w' => ∃ v, r = .returned v ∧ w'.ownsRow w.heap.size 3 1 v (dueL l fl).length (ids (dueL l fl)) ∧ Below w.heap.size w w' := by
  have hE' := Lib.hid hE
  have hll : (l.length : Int) ≤ 1000 := by omega
  obtain ⟨i0, hi, hz0, hz1, hz2⟩ := info_parts info3'
  have H := Lib.hid (And.intro hi (And.intro hz0 (And.intro hz1 hz2)))
  have hstart : Hid (w.ownsRow w.heap.size 3 1 (.slice none 0 0) 0 []) := Lib.hid (World.ownsRow_nil _ _ _ _)
  clear hE hi hz0 hz1 hz2
  go_enter Try.func16, Try.ntmps16
  go_wp2_with fail
  go_loopw [5, 6] (fun u i wr => ∃ (k : Nat), k ≤ l.length ∧ i = .int .i64 (k : Int) ∧ Hid (wr.ownsRow w.heap.size 3 1 u (dueL (l.take k) fl).length (ids (dueL (l.take k) fl))) ∧ Hid (Below w.heap.size w wr)) (fun _ i _ => l.length - (intOf i).toNat)
  case atStart => exact ⟨0, Nat.zero_le _, rfl, hstart, Lib.hid (Below.refl _ _)⟩
  case round =>
    obtain ⟨k, hk, rfl, ho, hb⟩ := hrel
    rename_i wr _ _
    by_cases hlt : k < l.length
    · have hlt' : (k : Int) < (l.length : Int) := by omega
      have hlt2 : decide (k < l.length) = true := by simpa using hlt
      obtain ⟨b, o, rfl, lb, hr⟩ := hE'.out.at k hlt
      have hr' := Lib.hid hr
      have hyes := Lib.hid (due_yes l fl k hlt)
      have hno := Lib.hid (due_no l fl k hlt)
      have hdl : (dueL (l.take k) fl).length ≤ 1000 := by
        unfold dueL
        rw [List.length_map]
        have := List.length_filter_le (fun f => mayC f fl == 0) (l.take k)
        have h2 := List.length_take_le k l
        omega
      clear hr
      generalize l[k] = f at *
      have cm := Lib.hid (fun v => rmay_any f fl v)
      have hl1 := Lib.hid (load_fl b (o + k * 6) f wr (hr'.out wr hb.out))
      have hsz := hb.out.size
      by_cases hm0 : mayC f fl = 0
      · have hd := Lib.hid (hyes.out hm0)
        rw [hm0] at cm
        clear hyes hno hm0
        go_wp2_with (with_reducible refine wpList_load_at rfl 27 (.tmp 15) rfl (.pointer (some ⟨b, o + k * 6, none⟩)) (.agg (flr f)) rfl hl1.out ?_)
        refine (cm.out _).mono ?_
        rintro e v ⟨rfl, hbv⟩
        have hb2 := Lib.hid (hb.out.trans (hbv.mono hsz))
        have ho2 := Lib.hid (own_past ho.out hbv)
        have hci : v.cell? ⟨b, o + k * 6, none⟩ = some (.int .i64 f.id) := by
          have := hr'.out v hb2.out 0 (.int .i64 f.id) rfl
          simpa using this
        have hsz2 := hb2.out.size
        have hb1 : (dueL (l.take k) fl).length + 1 ≤ maxLen := by unfold maxLen; omega
        have hb8 : ((dueL (l.take k) fl).length + 1) * 8 ≤ 140737488355328 := by omega
        clear hbv ho hb
        go_wp2_with (at_builtin; refine wpList_append_own _ rfl (.tmp 20) (.tmp 26) 32 rfl w.heap.size 3 i0 (.int .i64 0) 1 8 Try.underlying32 H.out.1 H.out.2.1 H.out.2.2.1 H.out.2.2.2 rfl (by decide) _ _ _ rfl (ho2.out.alloc _) _ 1 1 [.int .i64 f.id] rfl rfl (one_new _ _ _) (by simp [Value.oneCell']) hb1 hb8 (Nat.le_trans hsz2 (by simp)) ?_)
        intro v' w' o1 g1 _
        have o2 : Hid (w'.ownsRow w.heap.size 3 1 v' (dueL (l.take (k + 1)) fl).length (ids (dueL (l.take (k + 1)) fl))) := Lib.hid (by
          rw [hd.out, ids_snoc, List.length_append]
          exact o1)
        have b2 := Lib.hid ((hb2.out.alloc hsz2 (.cells #[.int .i64 f.id] 3)).grown g1 (Nat.le_trans hsz2 (by simp)) (own_block_ge ho2.out))
        clear o1 g1
        go_wp2_with fail
        go_roundw
        case rel => exact ⟨k + 1, by omega, by go_num, o2, b2⟩
        case measure => simp [intOf]; omega
      · have hd := Lib.hid (hno.out hm0)
        have t1 : (mayC f fl == 0) = false := by simpa using hm0
        clear hyes hno hm0
        generalize mayC f fl = M at *
        go_wp2_with (with_reducible refine wpList_load_at rfl 27 (.tmp 15) rfl (.pointer (some ⟨b, o + k * 6, none⟩)) (.agg (flr f)) rfl hl1.out ?_)
        refine (cm.out _).mono ?_
        rintro e v ⟨rfl, hbv⟩
        have hb2 := Lib.hid (hb.out.trans (hbv.mono hsz))
        have ho2 : Hid (v.ownsRow w.heap.size 3 1 _ (dueL (l.take (k + 1)) fl).length (ids (dueL (l.take (k + 1)) fl))) := Lib.hid (by rw [hd.out]; exact own_past ho.out hbv)
        clear hbv ho hb
        go_wp2_with fail
        go_roundw
        case rel => exact ⟨k + 1, by omega, by go_num, ho2, hb2⟩
        case measure => simp [intOf]; omega
    · obtain rfl : k = l.length := by omega
      have hlt' : ¬ (l.length : Int) < (l.length : Int) := by omega
      have hlt2 : decide (l.length < l.length) = false := by simp
      have ho' := ho.out
      rw [List.take_length] at ho'
      have ho2 := Lib.hid ho'
      clear ho ho'
      go_wp2_with fail
      refine bodyPost_ret (results_tmp rfl _ _ _) rfl ?_
      exact ⟨_, rfl, ho2.out, hb.out⟩
end Go.Proofs.Ytjfgmkgcdkocgaa
