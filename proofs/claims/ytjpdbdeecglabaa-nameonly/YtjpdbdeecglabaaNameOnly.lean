/-
  For every text NameOnly returns true: what is unquoted, quoted, is what it was; with a byte more, or less, at its ends, it is none.
  Conditions: none beyond the given statement's own.
-/
import Derived.Test.YtjpdbdeecglabaaRows
import Derived.Test.YtjpdbdeecglabaaWorks
import Derived.Test.YtjpdbdeecglabaaRunq
import Derived.WalkKit
import Derived.ProofKit
import Derived.OpenShut
import Derived.ShutString
import Derived.ChangeOld
import Derived.Below
namespace Go.Proofs.Ytjpdbdeecglabaa.nameOnly
open Go.ChangeShapes Go.WideShapes Go.ChangeAt Go.RowKit
open Go.ChangeMaps (open_string shut_string)
set_option linter.unusedVariables false

theorem own : ownKnob Try.prog.godebug = none := by kernel_rfl

theorem pp_least (p : Nat) : (enc p).length ≤ ((pp p).flatMap enc).length := by
  unfold pp
  split
  · simp [List.flatMap_cons]
  split
  · rename_i k; subst k; decide
  split
  · have h1 := enc_length p
    have h2 := enc_length 92
    have h3 := enc_length 120
    have h4 := enc_length (dg (low p / 16))
    have h5 := enc_length (dg (low p % 16))
    simp [List.flatMap_cons]
    omega
  · simp [List.flatMap_cons]
theorem quote_least (l : List UInt8) : l.length ≤ (quote l).length := by
  have key : ∀ ps : List Nat, (ps.flatMap enc).length ≤ ((ps.flatMap pp).flatMap enc).length := fun ps => by
    induction ps with
    | nil => simp
    | cons p ps ih =>
      have := pp_least p
      rw [List.flatMap_cons, List.flatMap_cons, List.flatMap_append, List.length_append, List.length_append]
      omega
  have h := key (pl l)
  rw [pl_join] at h
  rw [quote_eq, List.length_cons, List.length_append]
  unfold body
  omega
theorem pp_head (p : Nat) (h : okp p) : ∃ x xs, pp p = x :: xs ∧ x ≠ 34 ∧ okv x := by
  unfold pp
  split
  · exact ⟨92, [p], rfl, by omega, okv_small _ (by omega)⟩
  split
  · exact ⟨92, [110], rfl, by omega, okv_small _ (by omega)⟩
  split
  · exact ⟨92, _, rfl, by omega, okv_small _ (by omega)⟩
  · rename_i h1 h2 h3
    refine ⟨p, [], rfl, by omega, ?_⟩
    unfold okp at h
    rcases h with h | h
    · exact h
    · omega
theorem enc_head (x : Nat) (h : okv x) (k : x ≠ 34) (r : List UInt8) : byt (enc x ++ r) 0 ≠ 34 := by
  obtain ⟨b, t, hb⟩ : ∃ b t, enc x = b :: t := by
    cases e : enc x with
    | nil => have := enc_length x; rw [e] at this; simp at this
    | cons b t => exact ⟨b, t, rfl⟩
  have h1 := enc_bytes x h b (by rw [hb]; exact List.mem_cons_self)
  rw [hb]
  show b.toNat ≠ 34
  omega
theorem body_head (l : List UInt8) (h : l ≠ []) (r : List UInt8) : byt (body l ++ r) 0 ≠ 34 := by
  unfold body
  have hp := dec_okp l h
  obtain ⟨x, xs, e, k, o⟩ := pp_head _ hp
  rw [pl_cons l h, List.flatMap_cons, e, List.cons_append, List.flatMap_cons, List.append_assoc]
  exact enc_head x o k _
theorem only_less (o : List UInt8) : unq ((quote o).drop 1) = ([], false) := by
  rw [quote_eq]
  show unq (body o ++ [34]) = _
  by_cases h : o = []
  · subst h
    exact unq_short _ (.inl (by decide))
  · exact unq_short _ (.inr (.inl (body_head o h _)))
theorem only_more (l : List UInt8) : unq (l ++ [120]) = ([], false) := by
  refine unq_short _ (.inr (.inr ?_))
  unfold byt
  rw [List.getD_eq_getElem?_getD]
  simp
theorem only_cut (l : List UInt8) (h : (unq (l.take (l.length - 1))).2 = true) (h2 : 2 ≤ l.length) : byt l (l.length - 2) = 34 := by
  have hq := unq_some _ h
  have h3 := quote_len (unq (l.take (l.length - 1))).1
  have h4 := quote_last (unq (l.take (l.length - 1))).1
  rw [hq] at h3 h4
  rw [List.length_take] at h3 h4
  rw [show min (l.length - 1) l.length - 1 = l.length - 2 by omega] at h4
  rw [← h4]
  unfold byt
  rw [List.getD_eq_getElem?_getD, List.getD_eq_getElem?_getD, List.getElem?_take, if_pos (by omega)]

set_option maxHeartbeats 1000000 in
set_option maxRecDepth 100000 in
theorem walk (a0 : ByteArray) (w0 : a0.size ≤ maxLen) (w : World) :
    Calls Try.prog 8 #[.string a0] w fun e w' => e = .returned (.bool true) ∧ Below w.heap.size w w' := by
  by_cases k0 : 200 < a0.size
  · have t0 : decide ((200 : Int) < (a0.size : Int)) = true := by simp; omega
    clear w0 k0
    go_enter Try.func8, Try.ntmps8
    go_wp2_with fail
    refine (works_any _).mono ?_
    rintro e v1 ⟨rfl, h1⟩
    go_wp2_with fail
    go_ret
    exact ⟨rfl, h1⟩
  have t0 : decide ((200 : Int) < (a0.size : Int)) = false := by simp; omega
  have c1 := Lib.hid (fun v => unquote_any a0 (by omega) v)
  cases hok : (unq (li a0)).2
  · have hn : unq (li a0) = ([], false) := by
      unfold unq at hok ⊢
      split
      · rename_i k; rw [if_pos k] at hok; cases hok
      · rfl
    rw [hn] at c1
    clear w0 k0 hok hn
    go_enter Try.func8, Try.ntmps8
    go_wp2_with fail
    refine (works_any _).mono ?_
    rintro e v1 ⟨rfl, h1⟩
    have B1 := Lib.hid h1
    clear h1
    go_wp2_with fail
    refine (c1.out _).mono ?_
    rintro e v2 ⟨rfl, h2⟩
    have B2 := Lib.hid (B1.out.trans (h2.mono B1.out.size))
    clear h2 B1
    go_wp2_with fail
    go_ret
    exact ⟨rfl, B2.out⟩
  · have hq := unq_some _ hok
    obtain ⟨t, ht⟩ : ∃ t : ByteArray, t = ⟨(unq (li a0)).1.toArray⟩ := ⟨_, rfl⟩
    have htl : li t = (unq (li a0)).1 := by rw [ht, li_mk]
    rw [← htl] at hq
    rw [hok, ← ht] at c1
    have hlen : 2 ≤ a0.size := by rw [← li_len, ← hq]; exact quote_len _
    have htq : quote (li t) = li a0 := hq
    have hts : t.size ≤ 1000 := by
      have h2 := quote_least (li t)
      rw [htq, li_len, li_len] at h2
      omega
    have c2 := Lib.hid (fun v => unquote_any (a0.extract 1 a0.size) (by rw [← li_len, li_extract, List.length_drop, li_len]; omega) v)
    rw [li_extract, ← htq, only_less] at c2
    have c3 := Lib.hid (fun v => unquote_any (a0.extract 0 (a0.size - 1)) (by rw [← li_len, li_cut _ _ _ (by omega), List.length_take, List.length_drop, li_len]; omega) v)
    rw [li_cut _ _ _ (by omega), List.drop_zero, Nat.sub_zero] at c3
    have c4 := Lib.hid (fun v => unquote_any (a0 ++ ⟨#[120]⟩) (by rw [← li_len, li_app, List.length_append, li_len]; simp [li]; omega) v)
    rw [li_app, show li ⟨#[120]⟩ = [120] from rfl, only_more] at c4
    have c5 := Lib.hid (fun v => quote_any t (by omega) v)
    rw [htq, mk_li] at c5
    have hl2 : a0.size - 2 < a0.size := by omega
    obtain ⟨b, hb, eb⟩ := byt8 a0 (a0.size - 2) hl2
    have hcut : Hid ((unq ((li a0).take (a0.size - 1))).2 = true → b.toNat = 34) := fun h => by
      have := only_cut (li a0) (by rw [li_len]; exact h) (by rw [li_len]; exact hlen)
      rw [li_len] at this
      rw [← eb]; exact this
    have i1 : (1 : Int) ≤ (a0.size : Int) := by omega
    have i2 : (0 : Int) ≤ (a0.size : Int) - 1 ∧ (a0.size : Int) - 1 ≤ (a0.size : Int) := by omega
    have i3 : ((a0.size : Int) - 1).toNat = a0.size - 1 := by omega
    have i4 : (0 : Int) ≤ (a0.size : Int) - 2 ∧ (a0.size : Int) - 2 < (a0.size : Int) := by omega
    have i5 : ((a0.size : Int) - 2).toNat = a0.size - 2 := by omega
    revert c3 hcut
    generalize (unq ((li a0).take (a0.size - 1))).1 = z3
    generalize (unq ((li a0).take (a0.size - 1))).2 = B
    intro c3 hcut
    have hle : a0.size ≤ 200 := by omega
    clear w0 k0 hok hq ht htl htq hts eb
    go_enter Try.func8, Try.ntmps8
    go_wp2_with fail
    refine (works_any _).mono ?_
    rintro e v1 ⟨rfl, h1⟩
    have B1 := Lib.hid h1
    clear h1
    go_wp2_with fail
    refine (c1.out _).mono ?_
    rintro e v2 ⟨rfl, h2⟩
    have B2 := Lib.hid (B1.out.trans (h2.mono B1.out.size))
    clear h2 B1
    go_wp2_with fail
    refine (c2.out _).mono ?_
    rintro e v3 ⟨rfl, h3⟩
    have B3 := Lib.hid (B2.out.trans (h3.mono B2.out.size))
    clear h3 B2
    go_wp2_with fail
    refine (c3.out _).mono ?_
    rintro e v4 ⟨rfl, h4⟩
    have B4 := Lib.hid (B3.out.trans (h4.mono B3.out.size))
    clear h4 B3
    go_wp2_with fail
    refine (c4.out _).mono ?_
    rintro e v5 ⟨rfl, h5⟩
    have B5 := Lib.hid (B4.out.trans (h5.mono B4.out.size))
    clear h5 B4
    go_wp2_with fail
    refine (c5.out _).mono ?_
    rintro e v6 ⟨rfl, h6⟩
    have B6 := Lib.hid (B5.out.trans (h6.mono B5.out.size))
    clear h6 B5 c1 c2 c3 c4 c5
    cases B with
    | false =>
      go_wp2_with fail
      go_ret
      exact ⟨rfl, B6.out⟩
    | true =>
      have t5 : ((b.toNat : Int) == 34) = true := by rw [hcut.out rfl]; rfl
      go_wp2_with fail
      go_ret
      exact ⟨rfl, B6.out⟩

set_option maxRecDepth 100000 in
theorem lifted (os : Os) (started : os.Started) (H : Type) (enc : TypeId × Value → H) :
    ReturnsInHanded {} Try.checked os 8 .any (Rows.nameOnlySpec.pre6 enc Try.prog Try.f8 Rows.nameOnlyRow.domain false) (Rows.nameOnlySpec.post enc Try.prog Try.f8 false true false false) := by
  refine returnsInHanded_of_change (C := Try.checked) own started (by kernel_rfl) Try.func8
    (ChangeSpec.witness6 (enc := enc) (C := Try.checked) false ⟨#[], #[.string ByteArray.empty], []⟩ 8 (by kernel_rfl) (by kernel_rfl) (by kernel_rfl) (by kernel_rfl)) ?_
  intro W base args ds gs before hval0 hW hcnd _
  have hval : ∀ (j : Nat) t v, Try.f8.params[j]? = some t → args[j]? = some v → Value.okWide Try.prog W .any base t v := hval0
  have hW' := hW
  obtain ⟨p, q, hA0, hV, rfl, hfz, hnd⟩ := hW
  have hA : DataW.TrodAll enc Try.prog W 0 (fun _ => true) true Try.f8.params.toList args.toList ds p := hA0
  rw [Try.params8] at hA hval
  obtain ⟨v0, vs0, d0, ds0, p0, q0, hargs, rfl, rfl, h0, r0⟩ := trodAll_cons hA
  obtain ⟨rfl, rfl, rfl⟩ := trodAll_nil r0
  obtain rfl : args = #[v0] := by cases args; simp_all
  obtain ⟨rfl, rfl⟩ := trodVars_none hV
  obtain ⟨a0, rfl, rfl, rfl, w0⟩ := open_string Try.underlying9 (hval 0 9 v0 rfl rfl) h0
  clear hA0 hval0
  simp only [List.append_nil] at hW'
  refine (walk a0 w0 W).mono fun e W' ⟨he, bel⟩ => ?_
  subst he
  exact ⟨_, rfl, _, _, _, [], [], [], hW', (trodAll_cons_mk (shut_bool Try.underlying4 _) trodAll_mk0), (trodAll_cons_mk (shut_string Try.underlying9 w0) trodAll_mk0), rfl, bel.frame _, fun h => by cases h⟩

theorem over : Rows.nameOnlyRow.holds Try.pinned (OpenSpec.ofChange Rows.nameOnlySpec) :=
  OpenClaim.holds_of_wide 8 Try.f8 rfl rfl rfl rfl rfl rfl rfl ⟨rfl, rfl, rfl, rfl, rfl⟩ rfl rfl rfl rfl rfl (by kernel_rfl) Try.func8 (by kernel_rfl)
    (of_decide_eq_true (by kernel_rfl)) (by unfold Func.isWrapper; first | (rw [if_pos (by decide +kernel)]; kernel_rfl) | (rw [if_neg (by decide +kernel)]; exact ⟨rfl, rfl⟩))
    (fun os started H enc _ => lifted os started H enc)

/-- The given statement. -/
theorem nameOnly_proved : Rows.NameOnlySaid :=
  over
#print axioms nameOnly_proved
end Go.Proofs.Ytjpdbdeecglabaa.nameOnly
