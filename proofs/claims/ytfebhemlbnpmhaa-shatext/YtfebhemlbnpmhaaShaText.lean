/-
  For every two digests ShaText returns true: digits tell a digest, and there are 64.
  Conditions: none beyond the given statement's own.
-/
import Derived.Test.YtfebhemlbnpmhaaRows
import Derived.Test.YtfebhemlbnpmhaaWorks
import Derived.Test.YtfebhemlbnpmhaaGuarded
import Derived.Test.YtfebhemlbnpmhaaDigest
import Derived.WalkKit
import Derived.ProofKit
import Derived.OpenShut
import Derived.ShutString
import Derived.ChangeOld
import Derived.Below
namespace Go.Proofs.Ytfebhemlbnpmhaa.shaText
open Go.ChangeShapes Go.WideShapes Go.ChangeAt Go.RowKit
open Go.ChangeMaps (open_string shut_string)
set_option linter.unusedVariables false

theorem own : ownKnob Try.prog.godebug = none := by kernel_rfl

theorem dg_inj (m n : Nat) (h : m < 16) (k : n < 16) (e : dg m = dg n) : m = n := by
  have : ∀ i j : Fin 16, dg i.val = dg j.val → i.val = j.val := by decide
  exact this ⟨m, h⟩ ⟨n, k⟩ e
theorem dg_rng (n : Nat) (h : n < 16) : (48 ≤ (dg n).toNat ∧ (dg n).toNat ≤ 57) ∨ (97 ≤ (dg n).toNat ∧ (dg n).toNat ≤ 102) := by
  have : ∀ i : Fin 16, (48 ≤ (dg i.val).toNat ∧ (dg i.val).toNat ≤ 57) ∨ (97 ≤ (dg i.val).toNat ∧ (dg i.val).toNat ≤ 102) := by decide
  exact this ⟨n, h⟩
theorem hex_inj (l m : List UInt8) (h : hex l = hex m) : l = m := by
  induction l generalizing m with
  | nil =>
    cases m with
    | nil => rfl
    | cons y m => have := congrArg List.length h; rw [hex_length, hex_length] at this; simp at this
  | cons x l ih =>
    cases m with
    | nil => have := congrArg List.length h; rw [hex_length, hex_length] at this; simp at this
    | cons y m =>
      have h' : dg (x.toNat / 16) :: dg (x.toNat % 16) :: hex l = dg (y.toNat / 16) :: dg (y.toNat % 16) :: hex m := h
      have hx := x.toNat_lt
      have hy := y.toNat_lt
      have e1 := dg_inj _ _ (by omega) (by omega) (List.cons.inj h').1
      have e2 := dg_inj _ _ (by omega) (by omega) (List.cons.inj (List.cons.inj h').2).1
      have e3 := ih m (List.cons.inj (List.cons.inj h').2).2
      have : x = y := UInt8.toNat_inj.mp (by omega)
      rw [this, e3]
theorem hex_rng (l : List UInt8) : ∀ c ∈ hex l, (48 ≤ c.toNat ∧ c.toNat ≤ 57) ∨ (97 ≤ c.toNat ∧ c.toNat ≤ 102) := by
  intro c hc
  unfold hex at hc
  rw [List.mem_flatMap] at hc
  obtain ⟨b, _, hb⟩ := hc
  have := b.toNat_lt
  simp only [List.mem_cons, List.not_mem_nil, or_false] at hb
  rcases hb with rfl | rfl
  · exact dg_rng _ (by omega)
  · exact dg_rng _ (by omega)
theorem info23 (l : List UInt8) (hl : l.length = 32) : Hid ((Try.prog.info? 23).map (·.size) = some (row l).size) := by show _ = _; rw [row_size, hl]; kernel_rfl

set_option maxHeartbeats 1000000 in
set_option maxRecDepth 100000 in
theorem walk (a0 a1 : List UInt8) (w0 : a0.length = 32) (w1 : a1.length = 32) (w : World) :
    Calls Try.prog 6 #[.agg (row a0), .agg (row a1)] w fun e w' => e = .returned (.bool true) ∧ Below w.heap.size w w' := by
  have i0 := info23 a0 w0
  have i1 := info23 a1 w1
  have t0 := Lib.hid (fun v => text_any a0 w0 v)
  have t1 := Lib.hid (fun v => text_any a1 w1 v)
  have eqd := fun v => eql_dig a0 a1 w0 w1 v
  obtain ⟨SA, hSA⟩ : ∃ SA, ByteArray.mk (hex a0).toArray = SA := ⟨_, rfl⟩
  obtain ⟨SB, hSB⟩ : ∃ SB, ByteArray.mk (hex a1).toArray = SB := ⟨_, rfl⟩
  rw [hSA] at t0
  rw [hSB] at t1
  have sA : SA.size = 64 := by rw [← hSA]; show (hex a0).toArray.size = 64; simp [hex_length, w0]
  have sB : SB.size = 64 := by rw [← hSB]; show (hex a1).toArray.size = 64; simp [hex_length, w1]
  have r1 : ((SA.size : Int) == 64) = true := by rw [sA]; rfl
  have r2 : ((SB.size : Int) == 64) = true := by rw [sB]; rfl
  have hrng : Hid (∀ i, i < SA.size → (48 ≤ (gof SA i).toNat ∧ (gof SA i).toNat ≤ 57) ∨ (97 ≤ (gof SA i).toNat ∧ (gof SA i).toNat ≤ 102)) := fun i hi => by
    have e : gof SA i = (hex a0).getD i 0 := by rw [← hSA]; rfl
    rw [e, List.getD_eq_getElem?_getD, List.getElem?_eq_getElem (by rw [hex_length, w0]; omega)]
    exact hex_rng a0 _ (List.getElem_mem _)
  have r3 : ∃ r : Bool, (SA.toList == SB.toList) = r ∧ (a0 == a1) = r := by
    refine ⟨_, rfl, ?_⟩
    rw [Bool.eq_iff_iff, beq_iff_eq, beq_iff_eq, toList_data, toList_data, ← hSA, ← hSB]
    exact ⟨fun h => by rw [h], fun h => hex_inj _ _ h⟩
  obtain ⟨r, r4, r5⟩ := r3
  have eqd' : ∀ v, (Op.equalIn 10000 23 (.agg (row a0)) (.agg (row a1))).run Try.prog v = .ok r v := fun v => by rw [eqd v, r5]
  have sA1 : SA.size ≤ 64 := by omega
  have hB0 : ((w.alloc (.cells (row a0) 23)).alloc (.cells (row a1) 23)).heap[w.heap.size]? = some (.cells (row a0) 23) := by rw [heap_alloc_if, if_neg (by simp), heap_alloc_if, if_pos rfl]
  have hB1 : ((w.alloc (.cells (row a0) 23)).alloc (.cells (row a1) 23)).heap[w.heap.size + 1]? = some (.cells (row a1) 23) := by rw [heap_alloc_if, if_pos (by simp)]
  have HB := Lib.hid (And.intro hB0 hB1)
  clear hB0 hB1 hSA hSB sA sB r5 eqd w0 w1
  go_enter Try.func6, Try.ntmps6
  go_wp2_with fail
  refine (works_any _).mono ?_
  rintro e v1 ⟨rfl, h1⟩
  have m0 := (h1.block _ (lt_of_some HB.out.1)).trans HB.out.1
  have m1 := (h1.block _ (lt_of_some HB.out.2)).trans HB.out.2
  have M1 := Lib.hid m1
  go_wp2_with (first | (with_reducible refine wpList_load_row rfl 23 (.tmp 2) rfl _ rfl 23 (row a0) _ m0 Try.underlying23 rfl i0.out ?_) | fail)
  refine (t0.out _).mono ?_
  rintro e v2 ⟨rfl, h2⟩
  have n0 := (h2.block _ (lt_of_some m0)).trans m0
  have n1 := (h2.block _ (lt_of_some M1.out)).trans M1.out
  have N0 := Lib.hid n0
  clear n0 m0 m1
  go_wp2_with (first | (with_reducible refine wpList_load_row rfl 23 (.tmp 3) rfl _ rfl 23 (row a1) _ n1 Try.underlying23 rfl i1.out ?_) | fail)
  refine (t1.out _).mono ?_
  rintro e v3 ⟨rfl, h3⟩
  have k0 := (h3.block _ (lt_of_some N0.out)).trans N0.out
  have k1 := (h3.block _ (lt_of_some n1)).trans n1
  have K := Lib.hid (And.intro k0 k1)
  have bW : Below w.heap.size w ((w.alloc (.cells (row a0) 23)).alloc (.cells (row a1) 23)) := ((Below.refl _ _).alloc (Nat.le_refl _) _).alloc (by simp) _
  have b1 := bW.trans (h1.mono (by simp <;> omega))
  have b2 := b1.trans (h2.mono b1.size)
  have b3 := Lib.hid (b2.trans (h3.mono b2.size))
  clear k0 k1 n1 bW b1 b2 h1 h2 h3
  go_wp2_with fail
  go_loop [8] (fun i => ∃ k : Nat, k ≤ SA.size ∧ i = .int .i64 (k : Int)) (fun i => SA.size - (intOf i).toNat)
  case atStart => exact ⟨0, by omega, rfl⟩
  case round =>
    obtain ⟨k, hk, rfl⟩ := hrel
    by_cases hlt : k < SA.size
    · have c3 := gof_at SA k hlt
      have c4 := hrng.out k hlt
      obtain ⟨x, hx⟩ : ∃ x, gof SA k = x := ⟨_, rfl⟩
      rw [hx] at c3 c4
      clear hx
      by_cases hd : x.toNat ≤ 57
      · have d1 : decide ((48 : Int) ≤ (x.toNat : Int)) = true := by simp; omega
        have d2 : decide ((x.toNat : Int) ≤ 57) = true := by simp; omega
        clear c4
        go_wp2_with fail
        go_round
        case rel => exact ⟨k + 1, by omega, by go_num⟩
        case measure => simp [intOf]; omega
      · have d1 : decide ((48 : Int) ≤ (x.toNat : Int)) = true := by simp; omega
        have d2 : decide ((x.toNat : Int) ≤ 57) = false := by simp; omega
        have d3 : decide ((97 : Int) ≤ (x.toNat : Int)) = true := by simp; omega
        have d4 : decide ((x.toNat : Int) ≤ 102) = true := by simp; omega
        clear c4
        go_wp2_with fail
        go_round
        case rel => exact ⟨k + 1, by omega, by go_num⟩
        case measure => simp [intOf]; omega
    · have c1 : ¬ (k : Int) < (SA.size : Int) := by omega
      have k0 := K.out.1
      have k1 := K.out.2
      go_wp2_with (first
        | (with_reducible refine wpList_load_want (by with_unfolding_all rfl) 23 (.tmp 2) rfl _ rfl 23 (row a0) _ k0 Try.underlying23 rfl i0.out ?_)
        | (with_reducible refine wpList_load_want (by with_unfolding_all rfl) 23 (.tmp 3) rfl _ rfl 23 (row a1) _ k1 Try.underlying23 rfl i1.out ?_)
        | fail)
      go_ret
      exact ⟨by cases r <;> rfl, b3.out⟩

set_option maxRecDepth 100000 in
theorem lifted (os : Os) (started : os.Started) (H : Type) (enc : TypeId × Value → H) :
    ReturnsInHanded {} Try.checked os 6 .any (Rows.shaTextSpec.pre6 enc Try.prog Try.f6 Rows.shaTextRow.domain false) (Rows.shaTextSpec.post enc Try.prog Try.f6 false true false false) := by
  refine returnsInHanded_of_change (C := Try.checked) own started (by kernel_rfl) Try.func6
    (ChangeSpec.witness6 (enc := enc) (C := Try.checked) false ⟨#[], #[.agg #[.int .u8 0, .int .u8 0, .int .u8 0, .int .u8 0, .int .u8 0, .int .u8 0, .int .u8 0, .int .u8 0, .int .u8 0, .int .u8 0, .int .u8 0, .int .u8 0, .int .u8 0, .int .u8 0, .int .u8 0, .int .u8 0, .int .u8 0, .int .u8 0, .int .u8 0, .int .u8 0, .int .u8 0, .int .u8 0, .int .u8 0, .int .u8 0, .int .u8 0, .int .u8 0, .int .u8 0, .int .u8 0, .int .u8 0, .int .u8 0, .int .u8 0, .int .u8 0], .agg #[.int .u8 0, .int .u8 0, .int .u8 0, .int .u8 0, .int .u8 0, .int .u8 0, .int .u8 0, .int .u8 0, .int .u8 0, .int .u8 0, .int .u8 0, .int .u8 0, .int .u8 0, .int .u8 0, .int .u8 0, .int .u8 0, .int .u8 0, .int .u8 0, .int .u8 0, .int .u8 0, .int .u8 0, .int .u8 0, .int .u8 0, .int .u8 0, .int .u8 0, .int .u8 0, .int .u8 0, .int .u8 0, .int .u8 0, .int .u8 0, .int .u8 0, .int .u8 0]], []⟩ 8 (by kernel_rfl) (by kernel_rfl) (by kernel_rfl) (by kernel_rfl)) ?_
  intro W base args ds gs before hval0 hW hcnd _
  have hval : ∀ (j : Nat) t v, Try.f6.params[j]? = some t → args[j]? = some v → Value.okWide Try.prog W .any base t v := hval0
  have hW' := hW
  obtain ⟨p, q, hA0, hV, rfl, hfz, hnd⟩ := hW
  have hA : DataW.TrodAll enc Try.prog W 0 (fun _ => true) true Try.f6.params.toList args.toList ds p := hA0
  rw [Try.params6] at hA hval
  obtain ⟨v0, vs0, d0, ds0, p0, q0, hargs, rfl, rfl, h0, r0⟩ := trodAll_cons hA
  obtain ⟨v1, vs1, d1, ds1, p1, q1, rfl, rfl, rfl, h1, r1⟩ := trodAll_cons r0
  obtain ⟨rfl, rfl, rfl⟩ := trodAll_nil r1
  obtain rfl : args = #[v0, v1] := by cases args; simp_all
  obtain ⟨rfl, rfl⟩ := trodVars_none hV
  obtain ⟨a0, rfl, rfl, rfl, w0⟩ := open_dig (hval 0 23 v0 rfl rfl) h0
  obtain ⟨a1, rfl, rfl, rfl, w1⟩ := open_dig (hval 1 23 v1 rfl rfl) h1
  clear hA0 hval0
  simp only [List.append_nil] at hW'
  refine (walk a0 a1 w0 w1 W).mono fun e W' ⟨he, bel⟩ => ?_
  subst he
  exact ⟨_, rfl, _, _, _, [], [], [], hW', (trodAll_cons_mk (shut_bool Try.underlying4 _) trodAll_mk0), (trodAll_cons_mk (shut_dig w0) (trodAll_cons_mk (shut_dig w1) trodAll_mk0)), rfl, bel.frame _, fun h => by cases h⟩

theorem over : Rows.shaTextRow.holds Try.pinned (OpenSpec.ofChange Rows.shaTextSpec) :=
  OpenClaim.holds_of_wide 6 Try.f6 rfl rfl rfl rfl rfl rfl rfl ⟨rfl, rfl, rfl, rfl, rfl⟩ rfl rfl rfl rfl rfl (by kernel_rfl) Try.func6 (by kernel_rfl)
    (of_decide_eq_true (by kernel_rfl)) (by unfold Func.isWrapper; first | (rw [if_pos (by decide +kernel)]; kernel_rfl) | (rw [if_neg (by decide +kernel)]; exact ⟨rfl, rfl⟩))
    (fun os started H enc _ => lifted os started H enc)

/-- The given statement. -/
theorem shaText_proved : Rows.ShaTextSaid :=
  over
#print axioms shaText_proved
end Go.Proofs.Ytfebhemlbnpmhaa.shaText
