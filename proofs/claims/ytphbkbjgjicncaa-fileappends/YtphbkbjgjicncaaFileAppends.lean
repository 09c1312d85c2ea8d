/-
  For every file, and any two texts, FileAppends returns true: appended in two parts is appended as a whole.
  Conditions: none beyond the given statement's own.
-/
import Derived.Test.YtphbkbjgjicncaaRows
import Derived.Test.YtphbkbjgjicncaaWorks
import Derived.Test.YtphbkbjgjicncaaOpens
import Derived.WalkKit
import Derived.ProofKit
import Derived.OpenShut
import Derived.ShutString
import Derived.ChangeOld
import Derived.Below
namespace Go.Proofs.Ytphbkbjgjicncaa.fileAppends
open Go.ChangeShapes Go.WideShapes Go.ChangeAt Go.RowKit
open Go.ChangeMaps (open_string shut_string)
set_option linter.unusedVariables false

theorem own : ownKnob Try.prog.godebug = none := by kernel_rfl
theorem laidOut : laidOutB Try.prog = true := by kernel_rfl

theorem app3 (f : Fl) (a b : ByteArray) (h1 : Option Addr) (n1 c1 : Nat) (ha : a.size ≠ 0) (hb : b.size ≠ 0) :
    ((appF f (a ++ b)).2 = 0 ∧ (appF f a).2 = 0 ∧ (appF { (appF f a).1 with ha := h1, hn := n1, hc := c1 } b).2 = 0 ∧
      (appF { (appF f a).1 with ha := h1, hn := n1, hc := c1 } b).1 = { f with da := f.da ++ (a ++ b), ha := h1, hn := n1, hc := c1 } ∧ (appF f (a ++ b)).1 = { f with da := f.da ++ (a ++ b) }) ∨
    ((appF f (a ++ b)).2 ≠ 0 ∧ ((appF f a).2 ≠ 0 ∨ ((appF f a).2 = 0 ∧ (appF { (appF f a).1 with ha := h1, hn := n1, hc := c1 } b).2 ≠ 0))) := by
  obtain ⟨i, nm, da, se, un, h, n, c⟩ := f
  have hab : (a ++ b).size = a.size + b.size := ByteArray.size_append
  cases se with
  | true => right; exact ⟨by simp [appF], .inl (by simp [appF])⟩
  | false =>
    by_cases q1 : 600 < da.size + a.size
    · right
      exact ⟨by simp [appF, hab, ha, show 600 < da.size + (a.size + b.size) by omega], .inl (by simp [appF, ha, q1])⟩
    · have e1 : appF ⟨i, nm, da, false, un, h, n, c⟩ a = (⟨i, nm, da ++ a, false, un, h, n, c⟩, 0) := by simp [appF, ha, q1]
      rw [e1]
      have hda : (da ++ a).size = da.size + a.size := ByteArray.size_append
      by_cases q2 : 600 < da.size + (a.size + b.size)
      · right
        exact ⟨by simp [appF, hab, ha, q2], .inr ⟨rfl, by simp [appF, hb, hda, show 600 < da.size + a.size + b.size by omega]⟩⟩
      · left
        exact ⟨by simp [appF, hab, ha, q2], rfl, by simp [appF, hb, hda, show ¬ 600 < da.size + a.size + b.size by omega],
          by simp [appF, hb, hda, show ¬ 600 < da.size + a.size + b.size by omega, ByteArray.append_assoc], by simp [appF, hab, ha, q2]⟩
theorem app_fl (F : Fl) (s : ByteArray) (L : List ByteArray) (v : World) (h : StrAt v.heap.size v F.ha L) (hn : F.hn = L.length) (hL : L.length ≤ 1000) (hd : F.da.size ≤ 1099511627776) (hs : s.size ≤ 1099511627776) (G : Fl) (code : Int) (e : appF F s = (G, code)) :
    Calls Try.prog 14 #[.agg (flr F), .string s] v fun e v' => ∃ a c, e = .returned (.tuple #[.agg (flr { G with ha := a, hn := L.length, hc := c }), .int .i64 code]) ∧ StrAt v'.heap.size v' a L ∧ Below v.heap.size v v' := by
  refine (append_any F s L v h hn hL hd hs).mono ?_
  rw [e]
  rintro e v' ⟨a, c, rfl, hf, hb⟩
  exact ⟨a, c, rfl, hf.str, hb⟩
theorem app_size (F : Fl) (s : ByteArray) : (appF F s).1.da.size ≤ F.da.size + s.size := by
  unfold appF
  have : (F.da ++ s).size = F.da.size + s.size := ByteArray.size_append
  repeat' split
  all_goals simp [this]

set_option maxHeartbeats 4000000 in
set_option maxRecDepth 100000 in
theorem walk (f : Fl) (L : List ByteArray) (a b : ByteArray) (w : World) (wf : f.wf w L) (wa : a.size ≤ maxLen) (wb : b.size ≤ maxLen) :
    Calls Try.prog 8 #[.agg (flr f), .string a, .string b] w fun e w' => e = .returned (.bool true) ∧ Below w.heap.size w w' := by
  have cf := Lib.hid (fun v (hb : Below w.heap.size w v) => few_any f L v (wf.at_.on hb) wf.n wf.m)
  have hat := Lib.hid wf.at_
  have hn := Lib.hid wf.n
  have K0 := Lib.hid ((KW.start w).new (.cells (flr f) 24))
  have hz := zero27
  clear wf wa wb
  go_enter Try.func8, Try.ntmps8
  go_wp2_with fail
  refine (works_any _).mono ?_
  rintro e v1 ⟨rfl, hb⟩
  have K1 := Lib.hid (K0.out.past hb)
  clear hb K0
  go_wp2_with (refine wpList_load_row (by rfl) 24 (.tmp 3) rfl _ rfl 24 _ _ (K1.out.at 0 rfl) Try.underlying24 rfl (row27 _) ?_)
  refine (cf.out _ K1.out.bel).mono ?_
  rintro e v2 ⟨rfl, hb⟩
  have K2 := Lib.hid (K1.out.past hb)
  clear hb K1
  cases hfe : fewB f L with
  | false =>
    go_wp2_with fail
    go_ret
    exact ⟨rfl, K2.out.bel⟩
  | true =>
    have hw := fewB_true hfe
    have hL : Hid (L.length ≤ 1000) := Lib.hid (by omega)
    have hd : Hid (f.da.size ≤ 2000) := Lib.hid hw.2.2.1
    clear hfe hw
    by_cases h1 : 700 < a.size
    · have t1 : decide ((700 : Int) < (a.size : Int)) = true := decide_eq_true (by omega)
      have t2 : (700 : Int) < (a.size : Int) := by omega
      go_wp2_with fail
      go_ret
      exact ⟨rfl, K2.out.bel⟩
    have t1 : decide ((700 : Int) < (a.size : Int)) = false := decide_eq_false (by omega)
    have t2 : ¬ (700 : Int) < (a.size : Int) := by omega
    by_cases h2 : 700 < b.size
    · have t3 : decide ((700 : Int) < (b.size : Int)) = true := decide_eq_true (by omega)
      have t4 : (700 : Int) < (b.size : Int) := by omega
      go_wp2_with fail
      go_ret
      exact ⟨rfl, K2.out.bel⟩
    have t3 : decide ((700 : Int) < (b.size : Int)) = false := decide_eq_false (by omega)
    have t4 : ¬ (700 : Int) < (b.size : Int) := by omega
    by_cases h3 : a.size = 0
    · have t5 : (a.toList == []) = true := by rw [nil_beq]; simpa using h3
      clear h3
      go_wp2_with fail
      go_ret
      exact ⟨rfl, K2.out.bel⟩
    have t5 : (a.toList == []) = false := by rw [nil_beq]; simpa using h3
    by_cases h4 : b.size = 0
    · have t6 : (b.toList == []) = true := by rw [nil_beq]; simpa using h4
      clear h4
      go_wp2_with fail
      go_ret
      exact ⟨rfl, K2.out.bel⟩
    have t6 : (b.toList == []) = false := by rw [nil_beq]; simpa using h4
    have sa : Hid (a.size ≤ 700) := Lib.hid (by omega)
    have sb : Hid (b.size ≤ 700) := Lib.hid (by omega)
    have hsum : ¬ 9223372036854775807 < a.size + b.size := by omega
    have h3' := Lib.hid h3
    have h4' := Lib.hid h4
    clear h1 h2 h3 h4
    go_wp2_with (refine wpList_load_row (by rfl) 24 (.tmp 3) rfl _ rfl 24 _ _ (K2.out.at 0 rfl) Try.underlying24 rfl (row27 _) ?_)
    have h7 := Lib.hid (app_size f a)
    have h8 := Lib.hid (fun h n c => app3 f a b h n c h3'.out h4'.out)
    have c3 := Lib.hid (fun v (hb : Below w.heap.size w v) => app_fl f (a ++ b) L v (hat.out.on hb) hn.out hL.out (by have := hd.out; omega) (by rw [ByteArray.size_append]; have := sa.out; have := sb.out; omega))
    have e1 := Lib.hid (app_fl f a L _ (hat.out.on K2.out.bel) hn.out hL.out (by have := hd.out; omega) (by have := sa.out; omega))
    generalize appF f a = R1 at h7 h8 e1
    generalize appF f (a ++ b) = R3 at h8 c3
    obtain ⟨x1, k1⟩ := R1
    obtain ⟨x3, k3⟩ := R3
    refine (e1.out _ _ rfl).mono ?_
    rintro e v3 ⟨a1, c1, rfl, s1, hb⟩
    have K3 := Lib.hid (K2.out.past hb)
    have B3 := Lib.hid K3.out.size
    have n3 : Hid ((v3.alloc (.cells (flr fl0) 24)).heap[v3.heap.size]? = some (.cells (flr fl0) 24)) := Lib.hid (by rw [heap_alloc_if, if_pos rfl])
    have K4 := Lib.hid ((K3.out.new (.cells (flr fl0) 24)).row 0 rfl B3.out (flr { x1 with ha := a1, hn := L.length, hc := c1 }))
    have s2 := Lib.hid (s1.on (below_setRow ((Below.refl v3.heap.size v3).alloc (Nat.le_refl _) (.cells (flr fl0) 24)) (Nat.le_refl _) (flr { x1 with ha := a1, hn := L.length, hc := c1 })))
    have h9 := Lib.hid (h8.out a1 L.length c1)
    clear hb K2 K3 s1 h8 e1
    revert K4 n3 s2 h9
    generalize hx : (({ x1 with ha := a1, hn := L.length, hc := c1 } : Fl)) = x
    have xa : Hid (x.ha = a1) := Lib.hid (by rw [← hx])
    have xn : Hid (x.hn = L.length) := Lib.hid (by rw [← hx])
    have xd : Hid (x.da.size ≤ 2700) := Lib.hid (by rw [← hx]; have := h7.out; have := hd.out; have := sa.out; dsimp only at *; omega)
    clear hx h7
    intro n3 K4 s2 h9
    go_wp2_with (first
      | (refine wpList_store_row (by rfl) 24 (.tmp 9) (.tmp 45) rfl _ (flr x) rfl rfl 24 _ n3.out (row27 _) (flr_same _ _) (flr_one _) ?_)
      | (refine wpList_load_row (by rfl) 24 (.tmp 9) rfl _ rfl 24 _ _ (K4.out.at 0 rfl) Try.underlying24 rfl (row27 _) ?_))
    have e2 := Lib.hid (app_fl x b L _ (by rw [xa.out]; exact s2.out) xn.out hL.out (by have := xd.out; omega) (by have := sb.out; omega))
    generalize appF x b = R2 at h9 e2
    obtain ⟨x2, k2⟩ := R2
    refine (e2.out _ _ rfl).mono ?_
    rintro e v4 ⟨a2, c2, rfl, s4, hb⟩
    have K5 := Lib.hid (K4.out.past hb)
    have B5 := Lib.hid K5.out.size
    have n5 : Hid ((v4.alloc (.cells (flr fl0) 24)).heap[v4.heap.size]? = some (.cells (flr fl0) 24)) := Lib.hid (by rw [heap_alloc_if, if_pos rfl])
    have K6 := Lib.hid ((K5.out.new (.cells (flr fl0) 24)).row 0 rfl B5.out (flr { x2 with ha := a2, hn := L.length, hc := c2 }))
    have s6 := Lib.hid (s4.on (below_setRow ((Below.refl v4.heap.size v4).alloc (Nat.le_refl _) (.cells (flr fl0) 24)) (Nat.le_refl _) (flr { x2 with ha := a2, hn := L.length, hc := c2 })))
    clear hb K4 K5 s4 n3 s2 e2 xa xn xd
    revert K6
    generalize v3.heap.size = b1
    intro K6
    go_wp2_with (first
      | (refine wpList_store_row (by rfl) 24 (.tmp 11) (.tmp 51) rfl _ (flr { x2 with ha := a2, hn := L.length, hc := c2 }) rfl rfl 24 _ n5.out (row27 _) (flr_same _ _) (flr_one _) ?_)
      | (refine wpList_load_row (by rfl) 24 (.tmp 3) rfl _ rfl 24 _ _ (K6.out.at 2 rfl) Try.underlying24 rfl (row27 _) ?_))
    refine (c3.out _ K6.out.bel _ _ rfl).mono ?_
    rintro e v5 ⟨a3, c3', rfl, s7, hb⟩
    have K7 := Lib.hid (K6.out.past hb)
    have B7 := Lib.hid K7.out.size
    have n7 : Hid ((v5.alloc (.cells (flr fl0) 24)).heap[v5.heap.size]? = some (.cells (flr fl0) 24)) := Lib.hid (by rw [heap_alloc_if, if_pos rfl])
    have K8 := Lib.hid ((K7.out.new (.cells (flr fl0) 24)).row 0 rfl B7.out (flr { x3 with ha := a3, hn := L.length, hc := c3' }))
    have s9 := Lib.hid (s7.on (below_setRow ((Below.refl v5.heap.size v5).alloc (Nat.le_refl _) (.cells (flr fl0) 24)) (Nat.le_refl _) (flr { x3 with ha := a3, hn := L.length, hc := c3' })))
    have s10 := Lib.hid ((s6.out.on hb).on (below_setRow ((Below.refl v5.heap.size v5).alloc (Nat.le_refl _) (.cells (flr fl0) 24)) (Nat.le_refl _) (flr { x3 with ha := a3, hn := L.length, hc := c3' })))
    clear hb K6 K7 s6 s7 n5 c3
    revert K8
    generalize v4.heap.size = b2
    intro K8
    rcases h9.out with ⟨q3, q1, q2, q4, q5⟩ | ⟨q3, q1⟩
    · skip
      subst q1 q2 q3
      have hS := Lib.hid (fun (v : World) (h1 : StrAt v.heap.size v a2 L) (h2 : StrAt v.heap.size v a3 L) => same_any { x2 with ha := a2, hn := L.length, hc := c2 } { x3 with ha := a3, hn := L.length, hc := c3' } L L v h1 h2 (by have := hL.out; unfold maxLen; omega) rfl rfl)
      rw [sameB_refl _ _ _ (by rw [q4, q5]) (by rw [q4, q5]) (by rw [q4, q5]) (by rw [q4, q5]) (by rw [q4, q5])] at hS
      clear q4 q5 h9
      have u1 : ((0 : Int) == 0) = true := rfl
      have u2 : ((0 : Int) != 0) = false := rfl
      go_wp2_with (first
        | (refine wpList_store_row (by rfl) 24 (.tmp 13) (.tmp 59) rfl _ (flr { x3 with ha := a3, hn := L.length, hc := c3' }) rfl rfl 24 _ n7.out (row27 _) (flr_same _ _) (flr_one _) ?_)
        | (refine wpList_load_row_g (by with_unfolding_all rfl) 24 (.tmp 11) rfl _ rfl 24 _ _ (K8.out.at 1 rfl) Try.underlying24 rfl (row27 _) ?_)
        | (refine wpList_load_row_g (by with_unfolding_all rfl) 24 (.tmp 13) rfl _ rfl 24 _ _ (K8.out.at 0 rfl) Try.underlying24 rfl (row27 _) ?_))
      refine (hS.out _ s10.out s9.out).mono ?_
      rintro e v6 ⟨rfl, hb⟩
      have K9 := Lib.hid (K8.out.past hb)
      clear hb
      go_wp2_with fail
      go_ret
      exact ⟨rfl, K9.out.bel⟩
    · skip
      have u1 : (k3 == 0) = false := by simpa using q3
      have u2 : (k3 != 0) = true := by simpa using q3
      rcases q1 with q1 | ⟨q1, q2⟩
      · have u3 : (k1 != 0) = true := by simpa using q1
        have u4 : (k1 == 0) = false := by simpa using q1
        clear q1 q3 h9
        go_wp2_with (refine wpList_store_row (by rfl) 24 (.tmp 13) (.tmp 59) rfl _ (flr { x3 with ha := a3, hn := L.length, hc := c3' }) rfl rfl 24 _ n7.out (row27 _) (flr_same _ _) (flr_one _) ?_)
        go_ret
        exact ⟨rfl, K8.out.bel⟩
      · subst q1
        have u3 : (k2 != 0) = true := by simpa using q2
        have u4 : (k2 == 0) = false := by simpa using q2
        have u5 : ((0 : Int) == 0) = true := rfl
        have u6 : ((0 : Int) != 0) = false := rfl
        clear q2 q3 h9
        go_wp2_with (refine wpList_store_row (by rfl) 24 (.tmp 13) (.tmp 59) rfl _ (flr { x3 with ha := a3, hn := L.length, hc := c3' }) rfl rfl 24 _ n7.out (row27 _) (flr_same _ _) (flr_one _) ?_)
        go_ret
        exact ⟨rfl, K8.out.bel⟩


set_option maxRecDepth 100000 in
theorem lifted (os : Os) (started : os.Started) (H : Type) (enc : TypeId × Value → H) :
    ReturnsInHanded {} Try.checked os 8 .any (Rows.fileAppendsSpec.pre6 enc Try.prog Try.f8 Rows.fileAppendsRow.domain false) (Rows.fileAppendsSpec.post enc Try.prog Try.f8 false true false false) := by
  refine returnsInHanded_of_change (C := Try.checked) own started (by kernel_rfl) Try.func8
    (ChangeSpec.witness6 (enc := enc) (C := Try.checked) false ⟨#[], #[.agg #[.int .i64 0, .string ByteArray.empty, .string ByteArray.empty, .bool false, .int .i64 0, .slice none 0 0], .string ByteArray.empty, .string ByteArray.empty], []⟩ 8 (by kernel_rfl) (by kernel_rfl) (by kernel_rfl) (by kernel_rfl)) ?_
  intro W base args ds gs before hval0 hW hcnd _
  have hval : ∀ (j : Nat) t v, Try.f8.params[j]? = some t → args[j]? = some v → Value.okWide Try.prog W .any base t v := hval0
  have hW' := hW
  obtain ⟨p, q, hA0, hV, rfl, hfz, hnd⟩ := hW
  have hA : DataW.TrodAll enc Try.prog W 0 (fun _ => true) true Try.f8.params.toList args.toList ds p := hA0
  rw [Try.params8] at hA hval
  obtain ⟨v0, vs0, d0, ds0, p0, q0, hargs, rfl, rfl, h0, r0⟩ := trodAll_cons hA
  obtain ⟨v1, vs1, d1, ds1, p1, q1, rfl, rfl, rfl, h1, r1⟩ := trodAll_cons r0
  obtain ⟨v2, vs2, d2, ds2, p2, q2, rfl, rfl, rfl, h2, r2⟩ := trodAll_cons r1
  obtain ⟨rfl, rfl, rfl⟩ := trodAll_nil r2
  obtain rfl : args = #[v0, v1, v2] := by cases args; simp_all
  obtain ⟨rfl, rfl⟩ := trodVars_none hV
  have k0 := h0
  have lt0 : ∀ x ∈ p0, x.block < W.heap.size := by obtain ⟨m, hm⟩ := k0; exact DataW.trod_lt m _ _ _ hm
  obtain ⟨f0, L0, rfl, wf0⟩ := open_file (hval 0 24 v0 rfl rfl) h0
  obtain ⟨a1, rfl, rfl, rfl, w1⟩ := open_string Try.underlying9 (hval 1 9 v1 rfl rfl) h1
  obtain ⟨a2, rfl, rfl, rfl, w2⟩ := open_string Try.underlying9 (hval 2 9 v2 rfl rfl) h2
  clear hA0 hval0
  refine (walk f0 L0 a1 a2 W wf0 w1 w2).mono fun e W' ⟨he, bel⟩ => ?_
  subst he
  exact ⟨_, rfl, _, _, _, [], _, [], hW', trodAll_mk1 (shut_bool Try.underlying4 _), (trodAll_cons_mk (Below.trod laidOut (by kernel_rfl) (of_decide_eq_true (by kernel_rfl)) k0 bel lt0) (trodAll_cons_mk (shut_string Try.underlying9 w1) (trodAll_cons_mk (shut_string Try.underlying9 w2) trodAll_mk0))), rfl, bel.frame _, fun h => by cases h⟩

theorem over : Rows.fileAppendsRow.holds Try.pinned (OpenSpec.ofChange Rows.fileAppendsSpec) :=
  OpenClaim.holds_of_wide 8 Try.f8 rfl rfl rfl rfl rfl rfl rfl ⟨rfl, rfl, rfl, rfl, rfl⟩ rfl rfl rfl rfl rfl (by kernel_rfl) Try.func8 (by kernel_rfl)
    (of_decide_eq_true (by kernel_rfl)) (by unfold Func.isWrapper; first | (rw [if_pos (by decide +kernel)]; kernel_rfl) | (rw [if_neg (by decide +kernel)]; exact ⟨rfl, rfl⟩))
    (fun os started H enc _ => lifted os started H enc)

/-- The given statement. -/
theorem fileAppends_proved : Rows.FileAppendsSaid :=
  over
#print axioms fileAppends_proved
end Go.Proofs.Ytphbkbjgjicncaa.fileAppends
