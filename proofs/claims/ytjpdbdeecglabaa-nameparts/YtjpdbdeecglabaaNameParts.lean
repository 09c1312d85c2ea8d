/-
  For every two texts NameParts returns true: runes of two texts, one behind the other, are no more than those of both, of names just these; and a name has no slash, and no blank at its ends.
  Conditions: none beyond the given statement's own.
-/
import Derived.Test.YtjpdbdeecglabaaRows
import Derived.Test.YtjpdbdeecglabaaWorks
import Derived.WalkKit
import Derived.ProofKit
import Derived.OpenShut
import Derived.ShutString
import Derived.ChangeOld
import Derived.Below
namespace Go.Proofs.Ytjpdbdeecglabaa.nameParts
open Go.ChangeShapes Go.WideShapes Go.ChangeAt Go.RowKit
open Go.ChangeMaps (open_string shut_string)
set_option linter.unusedVariables false

theorem own : ownKnob Try.prog.godebug = none := by kernel_rfl

theorem vld_bytes (l : List UInt8) (h : vld l = true) : ∀ x ∈ l, x.toNat ≠ 47 ∧ 32 ≤ x.toNat := by
  intro x hx
  rw [← pl_join l] at hx
  obtain ⟨p, hp, hx⟩ := List.mem_flatMap.1 hx
  have ho := ((vld_iff l).1 h).2.1 p hp
  have hb := enc_bytes p (whole_okv (vld_whole h) p hp) x hx
  unfold okn at ho
  omega
theorem vld_ne {l : List UInt8} (h : vld l = true) : pl l ≠ [] := by
  intro e
  have := ((vld_iff l).1 h).2.2.2
  rw [e] at this
  exact this rfl
theorem vld_first (l : List UInt8) (h : vld l = true) : byt l 0 ≠ 32 := by
  have hl : l ≠ [] := fun e => vld_ne h (by rw [e, pl_nil])
  have hh := ((vld_iff l).1 h).2.2.1
  have hp : (dec l).1 ∈ pl l := by rw [pl_cons l hl]; exact List.mem_cons_self
  have ho := whole_okv (vld_whole h) _ hp
  rw [pl_cons l hl] at hh
  have hne : (dec l).1 ≠ 32 := fun e => hh (by rw [e]; rfl)
  have ht := dec_take l hl
  obtain ⟨b, t, hb⟩ : ∃ b t, enc (dec l).1 = b :: t := by
    cases e : enc (dec l).1 with
    | nil => have := enc_length (dec l).1; rw [e] at this; simp at this
    | cons b t => exact ⟨b, t, rfl⟩
  have h1 := enc_bytes _ ho b (by rw [hb]; exact List.mem_cons_self)
  rw [← ht, hb]
  show b.toNat ≠ 32
  omega
theorem vld_last (l : List UInt8) (h : vld l = true) : byt l (l.length - 1) ≠ 32 := by
  have hne := vld_ne h
  have hl := ((vld_iff l).1 h).2.2.2
  rw [List.getLast?_eq_some_getLast hne] at hl
  have hp : (pl l).getLast hne ∈ pl l := List.getLast_mem hne
  have ho := whole_okv (vld_whole h) _ hp
  have hj : ((pl l).dropLast ++ [(pl l).getLast hne]).flatMap enc = l := by rw [List.dropLast_concat_getLast hne]; exact pl_join l
  rw [List.flatMap_append, List.flatMap_cons, List.flatMap_nil, List.append_nil] at hj
  have hn2 : (pl l).getLast hne ≠ 32 := hl
  revert hj ho hn2
  generalize (pl l).getLast hne = p
  generalize (pl l).dropLast.flatMap enc = r
  intro ho hj hn2
  have hep : enc p ≠ [] := fun e => by have := enc_length p; rw [e] at this; simp at this
  have h1 := enc_bytes p ho ((enc p).getLast hep) (List.getLast_mem hep)
  have h2 : byt l (l.length - 1) = ((enc p).getLast hep).toNat := by
    have h3 := enc_length p
    rw [← hj]
    unfold byt
    rw [List.getD_eq_getElem?_getD, List.length_append, List.getElem?_append_right (by omega), show r.length + (enc p).length - 1 - r.length = (enc p).length - 1 by omega, ← List.getLast?_eq_getElem?, List.getLast?_eq_some_getLast hep]
    rfl
  rw [h2]
  omega
theorem vld_app (a b : List UInt8) (ha : vld a = true) (hb : vld b = true) (hm : (pl a).length + (pl b).length ≤ 24) : vld (a ++ b) = true := by
  obtain ⟨a1, a2, a3, a4⟩ := (vld_iff a).1 ha
  obtain ⟨b1, b2, b3, b4⟩ := (vld_iff b).1 hb
  have na := vld_ne ha
  have nb := vld_ne hb
  refine (vld_iff _).2 ?_
  rw [pl_app a b (vld_whole ha)]
  refine ⟨by rw [List.length_append]; exact hm, fun p hp => ?_, ?_, ?_⟩
  · rcases List.mem_append.1 hp with hp | hp
    · exact a2 p hp
    · exact b2 p hp
  · cases e : pl a with
    | nil => exact absurd e na
    | cons x xs => rw [e] at a3; exact a3
  · rw [List.getLast?_append, List.getLast?_eq_some_getLast nb]
    rw [List.getLast?_eq_some_getLast nb] at b4
    exact b4

set_option maxHeartbeats 2000000 in
set_option maxRecDepth 100000 in
theorem walk (a0 a1 : ByteArray) (w0 : a0.size ≤ maxLen) (w1 : a1.size ≤ maxLen) (w : World) :
    Calls Try.prog 6 #[.string a0, .string a1] w fun e w' => e = .returned (.bool true) ∧ Below w.heap.size w w' := by
  by_cases k0 : 200 < a0.size
  · have t0 : decide ((200 : Int) < (a0.size : Int)) = true := by simp; omega
    clear w0 w1 k0
    go_enter Try.func6, Try.ntmps6
    go_wp2_with fail
    refine (works_any _).mono ?_
    rintro e v1 ⟨rfl, h1⟩
    go_wp2_with fail
    go_ret
    exact ⟨rfl, h1⟩
  have t0 : decide ((200 : Int) < (a0.size : Int)) = false := by simp; omega
  by_cases k1 : 200 < a1.size
  · have t1 : decide ((200 : Int) < (a1.size : Int)) = true := by simp; omega
    clear w0 w1 k0 k1
    go_enter Try.func6, Try.ntmps6
    go_wp2_with fail
    refine (works_any _).mono ?_
    rintro e v1 ⟨rfl, h1⟩
    go_wp2_with fail
    go_ret
    exact ⟨rfl, h1⟩
  have t1 : decide ((200 : Int) < (a1.size : Int)) = false := by simp; omega
  have hs0 : a0.size ≤ 200 := by omega
  have hs1 : a1.size ≤ 200 := by omega
  have hab : (a0 ++ a1).size ≤ 400 := by rw [← li_len, li_app, List.length_append, li_len, li_len]; omega
  have cN := Lib.hid (fun v => count_any (a0 ++ a1) (by omega) v)
  have cA := Lib.hid (fun v => count_any a0 (by omega) v)
  have cB := Lib.hid (fun v => count_any a1 (by omega) v)
  have dA := Lib.hid (fun v => valid_any a0 (by omega) v)
  have dB := Lib.hid (fun v => valid_any a1 (by omega) v)
  have dN := Lib.hid (fun v => valid_any (a0 ++ a1) (by omega) v)
  have f1 := cnt_app (li a0) (li a1)
  rw [← li_app] at f1
  have f2 : Hid (vld (li a0) = true → (pl (li (a0 ++ a1))).length = (pl (li a0)).length + (pl (li a1)).length) := fun h => by rw [li_app, pl_app _ _ (vld_whole h), List.length_append]
  have f3 : Hid (vld (li a0) = true → vld (li a1) = true → (pl (li a0)).length + (pl (li a1)).length ≤ 24 → vld (li (a0 ++ a1)) = true) := fun h k m => by rw [li_app]; exact vld_app _ _ h k m
  have f4 : (a0.size = 0) ↔ (pl (li a0)).length = 0 := by
    rw [← li_len, List.length_eq_zero_iff, List.length_eq_zero_iff]
    exact ⟨fun h => by rw [h, pl_nil], fun h => by
      by_cases e : li a0 = []
      · exact e
      · exact absurd h (pl_ne _ e)⟩
  have f5 := pl_le (li a0)
  have f6 := pl_le (li a1)
  rw [li_len] at f5 f6
  have f7 : Hid (vld (li a0) = true → ∀ i (h : i < a0.size), (a0[i]'h).toNat ≠ 47 ∧ 32 ≤ (a0[i]'h).toNat ∧ ((a0[i]'h).toNat = 32 → i ≠ 0 ∧ i ≠ a0.size - 1)) := fun hv i h => by
    have hm : a0[i]'h ∈ li a0 := by
      show a0[i]'h ∈ a0.data.toList
      rw [Array.mem_toList_iff]
      exact Array.getElem_mem h
    have hb := vld_bytes _ hv _ hm
    refine ⟨hb.1, hb.2, fun h32 => ⟨fun e => ?_, fun e => ?_⟩⟩
    · subst e
      rw [byt_at] at h32
      exact vld_first _ hv h32
    · subst e
      rw [byt_at] at h32
      have := vld_last _ hv
      rw [li_len] at this
      exact this h32
  clear hab
  revert cN cA cB dA dB dN f1 f2 f3 f4 f5 f6 f7
  generalize (pl (li (a0 ++ a1))).length = N
  generalize (pl (li a0)).length = A
  generalize (pl (li a1)).length = B
  generalize vld (li a0) = one
  generalize vld (li a1) = two
  generalize vld (li (a0 ++ a1)) = both
  intro cN cA cB dA dB dN f1 f2 f3 f4 f5 f6 f7
  clear w0 w1 k0 k1
  go_enter Try.func6, Try.ntmps6
  go_wp2_with fail
  refine (works_any _).mono ?_
  rintro e v1 ⟨rfl, h1⟩
  have B1 := Lib.hid h1
  clear h1
  go_wp2_with fail
  refine (cN.out _).mono ?_
  rintro e v2 ⟨rfl, h2⟩
  have B2 := Lib.hid (B1.out.trans (h2.mono B1.out.size))
  clear h2 B1
  go_wp2_with fail
  refine (cA.out _).mono ?_
  rintro e v3 ⟨rfl, h3⟩
  have B3 := Lib.hid (B2.out.trans (h3.mono B2.out.size))
  clear h3 B2
  go_wp2_with fail
  refine (cB.out _).mono ?_
  rintro e v4 ⟨rfl, h4⟩
  have B4 := Lib.hid (B3.out.trans (h4.mono B3.out.size))
  clear h4 B3
  go_wp2_with fail
  refine (dA.out _).mono ?_
  rintro e v5 ⟨rfl, h5⟩
  have B5 := Lib.hid (B4.out.trans (h5.mono B4.out.size))
  clear h5 B4
  go_wp2_with fail
  refine (dB.out _).mono ?_
  rintro e v6 ⟨rfl, h6⟩
  have B6 := Lib.hid (B5.out.trans (h6.mono B5.out.size))
  clear h6 B5 cN cB dA dB
  have u1 : decide ((N : Int) ≤ (A : Int) + (B : Int)) = true := by simp; omega
  have u2 : ((a0.size : Int) == 0) = ((A : Int) == 0) := by
    rw [Bool.eq_iff_iff, beq_iff_eq, beq_iff_eq]
    omega
  have u3 : decide (A ≤ a0.size) = true := by simp; omega
  obtain ⟨z, hz⟩ : ∃ z, ((A : Int) == 0) = z := ⟨_, rfl⟩
  rw [hz] at u2
  clear f4
  cases one with
  | false =>
    clear f2 f3 f7 dN f1 f5 f6
    go_wp2_with fail
    refine (cA.out _).mono ?_
    rintro e v7 ⟨rfl, h7⟩
    have B7 := Lib.hid (B6.out.trans (h7.mono B6.out.size))
    clear h7 B6
    go_wp2_with fail
    refine (cA.out _).mono ?_
    rintro e v8 ⟨rfl, h8⟩
    have B8 := Lib.hid (B7.out.trans (h8.mono B7.out.size))
    clear h8 B7
    go_wp2_with fail
    go_ret
    exact ⟨by cases z <;> rfl, B8.out⟩
  | true =>
    have f8 := Lib.hid (f7.out rfl)
    go_wp2_with fail
    go_loop [10] (fun i => ∃ k : Nat, k ≤ a0.size ∧ i = .int .i64 (k : Int)) (fun i => a0.size - (intOf i).toNat)
    case atStart => exact ⟨0, by omega, rfl⟩
    case round =>
      obtain ⟨k, hk, rfl⟩ := hrel
      by_cases hlt : k < a0.size
      · have hlt' : (k : Int) < (a0.size : Int) := by omega
        have hb := f8.out k hlt
        obtain ⟨c, hch, _⟩ := byt8 a0 k hlt
        rw [hch] at hb
        have hc := c.toNat_lt
        have y1 : ((c.toNat : Int) == 47) = false := by rw [beq_eq_false_iff_ne]; omega
        have y2 : decide ((c.toNat : Int) < 32) = false := by simp; omega
        clear f8 f7 f3 f2 f1 f5 f6 u1 u2 u3
        by_cases h32 : c.toNat = 32
        · have y3 : ((c.toNat : Int) == 32) = true := by rw [h32]; rfl
          have hz := hb.2.2 h32
          have y4 : ((k : Int) == 0) = false := by rw [beq_eq_false_iff_ne]; omega
          have y5 : ((k : Int) == (a0.size : Int) - 1) = false := by rw [beq_eq_false_iff_ne]; omega
          clear hb h32 hz
          go_wp2_with fail
          go_round
          case rel => exact ⟨k + 1, by omega, by go_num⟩
          case measure => simp [intOf]; omega
        · have y3 : ((c.toNat : Int) == 32) = false := by rw [beq_eq_false_iff_ne]; omega
          clear hb h32
          go_wp2_with fail
          go_round
          case rel => exact ⟨k + 1, by omega, by go_num⟩
          case measure => simp [intOf]; omega
      · have e1 := f2.out (by simp)
        have e2 : ((N : Int) == (A : Int) + (B : Int)) = true := by rw [e1]; simp
        have hlt2 : ¬ k < a0.size := hlt
        cases two with
        | false =>
          clear f2 f3 f7 f8 dN f1 f5 f6 e1 e2
          go_wp2_with fail
          refine (cA.out _).mono ?_
          rintro e v7 ⟨rfl, h7⟩
          have B7 := Lib.hid (B6.out.trans (h7.mono B6.out.size))
          clear h7 B6
          go_wp2_with fail
          refine (cA.out _).mono ?_
          rintro e v8 ⟨rfl, h8⟩
          have B8 := Lib.hid (B7.out.trans (h8.mono B7.out.size))
          clear h8 B7
          go_wp2_with fail
          go_ret
          exact ⟨by cases z <;> rfl, B8.out⟩
        | true =>
          by_cases h24 : 24 < A + B
          · have y6 : decide ((24 : Int) < (A : Int) + (B : Int)) = true := by simp; omega
            clear f2 f3 f7 f8 dN f1 f5 f6 e1
            go_wp2_with fail
            refine (cA.out _).mono ?_
            rintro e v7 ⟨rfl, h7⟩
            have B7 := Lib.hid (B6.out.trans (h7.mono B6.out.size))
            clear h7 B6
            go_wp2_with fail
            refine (cA.out _).mono ?_
            rintro e v8 ⟨rfl, h8⟩
            have B8 := Lib.hid (B7.out.trans (h8.mono B7.out.size))
            clear h8 B7
            go_wp2_with fail
            go_ret
            exact ⟨by cases z <;> rfl, B8.out⟩
          · have y6 : decide ((24 : Int) < (A : Int) + (B : Int)) = false := by simp; omega
            obtain rfl : both = true := f3.out (by simp) (by simp) (by omega)
            clear f2 f3 f7 f8 f1 f5 f6 e1
            go_wp2_with fail
            refine (dN.out _).mono ?_
            rintro e v9 ⟨rfl, h9⟩
            have B9 := Lib.hid (B6.out.trans (h9.mono B6.out.size))
            clear h9 B6
            go_wp2_with fail
            refine (cA.out _).mono ?_
            rintro e v7 ⟨rfl, h7⟩
            have B7 := Lib.hid (B9.out.trans (h7.mono B9.out.size))
            clear h7 B9
            go_wp2_with fail
            refine (cA.out _).mono ?_
            rintro e v8 ⟨rfl, h8⟩
            have B8 := Lib.hid (B7.out.trans (h8.mono B7.out.size))
            clear h8 B7
            go_wp2_with fail
            go_ret
            exact ⟨by cases z <;> rfl, B8.out⟩

set_option maxRecDepth 100000 in
theorem lifted (os : Os) (started : os.Started) (H : Type) (enc : TypeId × Value → H) :
    ReturnsInHanded {} Try.checked os 6 .any (Rows.namePartsSpec.pre6 enc Try.prog Try.f6 Rows.namePartsRow.domain false) (Rows.namePartsSpec.post enc Try.prog Try.f6 false true false false) := by
  refine returnsInHanded_of_change (C := Try.checked) own started (by kernel_rfl) Try.func6
    (ChangeSpec.witness6 (enc := enc) (C := Try.checked) false ⟨#[], #[.string ByteArray.empty, .string ByteArray.empty], []⟩ 8 (by kernel_rfl) (by kernel_rfl) (by kernel_rfl) (by kernel_rfl)) ?_
  intro W base args ds gs before hval0 hW hcnd _
  have hval : ∀ (j : Nat) t v, Try.f6.params[j]? = some t → args[j]? = some v → Value.okWide Try.prog W .any base t v := hval0
  have hW' := hW
  obtain ⟨p, q, hA0, hV, rfl, hfz, hnd⟩ := hW
  have hA : DataW.TrodAll enc Try.prog W 0 (fun _ => true) true Try.f6.params.toList args.toList ds p := hA0
  rw [Try.params6] at hA hval
  obtain ⟨v0, vs0, d0, ds0, p0, q0, hargs, rfl, rfl, h0, r0⟩ := trodAll_cons hA
  obtain ⟨v1, vs1, d1, ds1, p1, q1, rfl, rfl, rfl, h1, r1⟩ := trodAll_cons r0
  obtain ⟨rfl, rfl, rfl⟩ := trodAll_nil r1
  obtain rfl : args = #[v0, v1] := by cases args; simp_all
  obtain ⟨rfl, rfl⟩ := trodVars_none hV
  obtain ⟨a0, rfl, rfl, rfl, w0⟩ := open_string Try.underlying9 (hval 0 9 v0 rfl rfl) h0
  obtain ⟨a1, rfl, rfl, rfl, w1⟩ := open_string Try.underlying9 (hval 1 9 v1 rfl rfl) h1
  clear hA0 hval0
  simp only [List.append_nil] at hW'
  refine (walk a0 a1 w0 w1 W).mono fun e W' ⟨he, bel⟩ => ?_
  subst he
  exact ⟨_, rfl, _, _, _, [], [], [], hW', (trodAll_cons_mk (shut_bool Try.underlying4 _) trodAll_mk0), (trodAll_cons_mk (shut_string Try.underlying9 w0) (trodAll_cons_mk (shut_string Try.underlying9 w1) trodAll_mk0)), rfl, bel.frame _, fun h => by cases h⟩

theorem over : Rows.namePartsRow.holds Try.pinned (OpenSpec.ofChange Rows.namePartsSpec) :=
  OpenClaim.holds_of_wide 6 Try.f6 rfl rfl rfl rfl rfl rfl rfl ⟨rfl, rfl, rfl, rfl, rfl⟩ rfl rfl rfl rfl rfl (by kernel_rfl) Try.func6 (by kernel_rfl)
    (of_decide_eq_true (by kernel_rfl)) (by unfold Func.isWrapper; first | (rw [if_pos (by decide +kernel)]; kernel_rfl) | (rw [if_neg (by decide +kernel)]; exact ⟨rfl, rfl⟩))
    (fun os started H enc _ => lifted os started H enc)

/-- The given statement. -/
theorem nameParts_proved : Rows.NamePartsSaid :=
  over
#print axioms nameParts_proved
end Go.Proofs.Ytjpdbdeecglabaa.nameParts
