/-
  For every row of texts WireRows returns true: texts, one behind the other, are read again, one by one; and nothing is left.
  Conditions: none beyond the given statement's own.
-/
import Derived.Test.YtgaggncepknafaaRows
import Derived.Test.YtgaggncepknafaaWorks
import Derived.Test.YtgaggncepknafaaFacts
import Derived.WalkKit
import Derived.ProofKit
import Derived.OpenShut
import Derived.ShutString
import Derived.ChangeOld
import Derived.Below
import Derived.SliceStrings
namespace Go.Proofs.Ytgaggncepknafaa.wireRows
open Go.ChangeShapes Go.WideShapes Go.ChangeAt Go.RowKit
open Go.ChangeMaps (open_string shut_string)
set_option linter.unusedVariables false

theorem own : ownKnob Try.prog.godebug = none := by kernel_rfl

theorem laidOut : laidOutB Try.prog = true := by kernel_rfl
/-- Texts as bytes, one behind the other. -/
def texts (L : List ByteArray) : List UInt8 := L.flatMap fun s => text (li s)
theorem texts_snoc (L : List ByteArray) (s : ByteArray) : texts (L ++ [s]) = texts L ++ text (li s) := by simp [texts]
theorem texts_cons (s : ByteArray) (L : List ByteArray) : texts (s :: L) = text (li s) ++ texts L := rfl
theorem texts_size (L : List ByteArray) (h : ∀ s ∈ L, s.size ≤ 300) : (texts L).length ≤ 308 * L.length := by
  induction L with
  | nil => simp [texts]
  | cons s L ih =>
    have h1 := ih (fun x hx => h x (List.mem_cons_of_mem _ hx))
    have h2 := text_size (li s)
    have h3 := h s List.mem_cons_self
    rw [li_len] at h2
    rw [texts_cons, List.length_append, List.length_cons]
    omega
theorem drop_at (L : List ByteArray) (k : Nat) (h : k < L.length) : L.drop k = L.getD k em :: L.drop (k + 1) := by
  rw [List.drop_eq_getElem_cons h, List.getD_eq_getElem?_getD, List.getElem?_eq_getElem h]; rfl
theorem get_row (L : List ByteArray) (k : Nat) (h : k < L.length) (hs : (L.getD k em).size ≤ 300) : tR (li (mk (texts (L.drop k)))) 300 = .tuple #[.string (L.getD k em), .string (mk (texts (L.drop (k + 1)))), .bool true] := by
  rw [li_mk', drop_at L k h, texts_cons, tR_some (gt_text (by rw [li_len]; unfold big; omega) (by rw [li_len]; omega) _), mk_li']
theorem cell_block {w : World} {p : Addr} {v : Value} (h : w.cell? p = some v) : p.block < w.heap.size := by
  unfold World.cell? at h
  split at h
  · rename_i c e f hb; exact lt_of_some hb
  · cases h
/-- What came in: texts in a row. -/
def IsStrs (w : World) (ao : Option Addr) (len : Nat) (L : List ByteArray) : Prop :=
  L.length = len ∧ ∀ k, k < len → ∃ x, ao = some x ∧ w.cell? (x.add k) = some (.string (L.getD k em))
theorem IsStrs.at {w v : World} {ao : Option Addr} {len : Nat} {L : List ByteArray} (h : IsStrs w ao len L) (hb : Below w.heap.size w v) (k : Nat) (hk : k < len) : ∃ x, ao = some x ∧ v.cell? (x.add k) = some (.string (L.getD k em)) := by
  obtain ⟨x, h1, h2⟩ := h.2 k hk
  exact ⟨x, h1, (hb.cell (cell_block h2)).trans h2⟩
structure One (w v0 : World) (L : List ByteArray) (k : Nat) (s : ByteArray) (v : World) : Prop where
  bel : Below w.heap.size w v
  small : ∀ x ∈ L.take k, x.size ≤ 300
  eq : s = mk (texts (L.take k))
theorem One.start {w v0 v : World} {L : List ByteArray} (h : Below w.heap.size w v) : One w v0 L 0 ⟨#[]⟩ v := ⟨h, (fun x hx => by cases hx), rfl⟩
theorem take_snoc (L : List ByteArray) (k : Nat) (h : k < L.length) : L.take (k + 1) = L.take k ++ [L.getD k em] := take_snocD em L k h
theorem one_next {w v0 v v' : World} {L : List ByteArray} {k : Nat} {s : ByteArray} (h : One w v0 L k s v) (hk : k < L.length) (hx : (L.getD k em).size ≤ 300) (hb : Below v.heap.size v v') : One w v0 L (k + 1) (s ++ mk (text (li (L.getD k em)))) v' :=
  ⟨below_on h.bel hb, (fun x hx' => by
    rw [take_snoc L k hk, List.mem_append] at hx'
    rcases hx' with hx' | hx'
    · exact h.small x hx'
    · rw [List.mem_singleton] at hx'; rw [hx']; exact hx), by
    rw [h.eq, take_snoc L k hk, texts_snoc]; exact mk_app _ _⟩
theorem One.fits {w v0 v : World} {L : List ByteArray} {k : Nat} {s : ByteArray} (h : One w v0 L k s v) (hk : k ≤ 20) : s.size ≤ 6160 := by
  have := texts_size _ h.small
  rw [List.length_take] at this
  rw [h.eq, size_li, li_mk']
  omega

set_option maxHeartbeats 1000000 in
theorem walk (ao : Option Addr) (len cap : Nat) (L : List ByteArray) (w : World) (hI : IsStrs w ao len L) (hm : len ≤ maxLen) :
    Calls Try.prog 8 #[.slice ao len cap] w fun e w' => e = .returned (.bool true) ∧ Below w.heap.size w w' := by
  by_cases h20 : 20 < len
  · have t1 : decide ((20 : Int) < (len : Int)) = true := by simp; omega
    have t1' : decide (20 < len) = true := by simp; omega
    clear hI hm
    go_enter Try.func8, Try.ntmps8
    go_wp2_with fail
    refine (works_any _).mono ?_
    rintro e v1 ⟨rfl, b1⟩
    go_wp2_with fail
    go_ret
    exact ⟨rfl, b1⟩
  have t1 : decide ((20 : Int) < (len : Int)) = false := by simp; omega
  have hI' := Lib.hid hI
  have hlen := Lib.hid hI.1
  have hle : len ≤ 20 := by omega
  clear hI hm h20
  go_enter Try.func8, Try.ntmps8
  go_wp2_with fail
  refine (works_any _).mono ?_
  rintro e v1 ⟨rfl, b1⟩
  have B1 := Lib.hid b1
  clear b1
  go_wp2_with fail
  go_loopw [4, 5] (fun s i wr => ∃ (k : Nat) (sb : ByteArray), k ≤ len ∧ i = .int .i64 (k : Int) ∧ s = .string sb ∧ Hid (One w v1 L k sb wr)) (fun _ i _ => len - (intOf i).toNat)
  case atStart => exact ⟨0, ⟨#[]⟩, by omega, rfl, rfl, One.start B1.out⟩
  case round =>
    obtain ⟨k, sb, hk, rfl, rfl, hO⟩ := hrel
    rename_i wr
    by_cases hlt : k < len
    · obtain ⟨x, rfl, q1⟩ := hI'.out.at hO.out.bel k hlt
      have hlt' : (k : Int) < (len : Int) := by omega
      have hz := hO.out.fits (by omega)
      obtain ⟨y, hy0⟩ : ∃ y, L.getD k em = y := ⟨_, rfl⟩
      rw [hy0] at q1
      have hy := Lib.hid hy0
      clear hy0
      by_cases hs : 300 < y.size
      · have t2 : decide ((300 : Int) < (y.size : Int)) = true := by simp; omega
        clear hs hz
        go_wp2_with fail
        go_ret
        exact ⟨rfl, hO.out.bel⟩
      · have t2 : decide ((300 : Int) < (y.size : Int)) = false := by simp; omega
        have c1 := Lib.hid (fun v => text_any y (by omega) v)
        have hN : Hid (∀ v', Below wr.heap.size wr v' → One w v1 L (k + 1) (sb ++ mk (text (li y))) v') := fun v' hb => by rw [← hy.out]; exact one_next hO.out (by rw [hlen.out]; exact hlt) (by rw [hy.out]; omega) hb
        have hT : (mk (text (li y))).size ≤ 400 := by rw [size_li, li_mk']; have := text_size (li y); rw [li_len] at this; omega
        clear hs
        revert c1 hN hT
        generalize mk (text (li y)) = T
        intro c1 hN hT
        go_wp2_with fail
        refine (c1.out _).mono ?_
        rintro e v2 ⟨rfl, b2⟩
        have hN2 := Lib.hid (hN.out v2 b2)
        clear b2
        go_wp2_with fail
        go_roundw
        case rel => exact ⟨k + 1, _, by omega, by go_num, rfl, hN2.out⟩
        case measure => simp [intOf]; omega
    · obtain rfl : k = len := by omega
      have hsm : Hid (∀ j, j < k → (L.getD j em).size ≤ 300) := fun j hj => hO.out.small _ (by
        rw [List.take_of_length_le (by rw [hlen.out]; exact Nat.le_refl _), List.getD_eq_getElem?_getD, List.getElem?_eq_getElem (by rw [hlen.out]; exact hj)]
        exact List.getElem_mem _)
      have hS : Hid (sb = mk (texts (L.drop 0))) := by
        show _ = _
        rw [hO.out.eq, List.take_of_length_le (by rw [hlen.out]; exact Nat.le_refl _)]; rfl
      have hz : Hid (∀ j, (texts (L.drop j)).length ≤ 9223372036854775000) := fun j => by
        have h2 := texts_size (L.drop j) (fun x hx => hO.out.small x (by
          rw [List.take_of_length_le (by rw [hlen.out]; exact Nat.le_refl _)]
          exact List.mem_of_mem_drop hx))
        have h3 : (L.drop j).length ≤ 20 := by rw [List.length_drop, hlen.out]; omega
        omega
      have B2 := Lib.hid hO.out.bel
      clear hO
      go_wp2_with fail
      go_loopw [4, 6, 7, 8, 9] (fun s i _ _ _ wr => ∃ j : Nat, j ≤ k ∧ i = .int .i64 (j : Int) ∧ s = .string (mk (texts (L.drop j))) ∧ Hid (Below w.heap.size w wr)) (fun _ i _ _ _ _ => k - (intOf i).toNat)
      case atStart => exact ⟨0, by omega, rfl, by rw [hS.out], B2.out⟩
      case round =>
        obtain ⟨j, hj, rfl, rfl, hB⟩ := hrel
        rename_i wq
        by_cases hlt2 : j < k
        · obtain ⟨x, rfl, q1⟩ := hI'.out.at hB.out j hlt2
          have hlt' : (j : Int) < (k : Int) := by omega
          have c1 := Lib.hid (fun v => getText_any (mk (texts (L.drop j))) (by rw [size_li, li_mk']; have := hz.out j; omega) 300 v)
          rw [get_row L j (by rw [hlen.out]; exact hlt2) (hsm.out j hlt2)] at c1
          obtain ⟨y, hy0⟩ : ∃ y, L.getD j em = y := ⟨_, rfl⟩
          rw [hy0] at q1 c1
          have hy := Lib.hid hy0
          clear hy0
          revert c1
          generalize hR : mk (texts (L.drop (j + 1))) = R
          generalize mk (texts (L.drop j)) = S
          intro c1
          have hR' := Lib.hid hR
          clear hR
          go_wp2_with fail
          refine (c1.out _).mono ?_
          rintro e v2 ⟨rfl, b2⟩
          have B3 := Lib.hid (below_on hB.out b2)
          obtain ⟨x', e, q2⟩ := hI'.out.at B3.out j hlt2
          cases e
          rw [hy.out] at q2
          clear b2 q1
          go_wp2_with fail
          go_roundw
          case rel => exact ⟨j + 1, by omega, by go_num, by rw [← hR'.out], B3.out⟩
          case measure => simp [intOf]; omega
        · obtain rfl : j = k := by omega
          have he : mk (texts (L.drop j)) = ⟨#[]⟩ := by rw [List.drop_of_length_le (by rw [hlen.out]; exact Nat.le_refl _)]; rfl
          rw [he]
          go_wp2_with fail
          go_ret
          exact ⟨rfl, hB.out⟩

set_option maxRecDepth 100000 in
theorem lifted (os : Os) (started : os.Started) (H : Type) (enc : TypeId × Value → H) :
    ReturnsInHanded {} Try.checked os 8 .any (Rows.wireRowsSpec.pre6 enc Try.prog Try.f8 Rows.wireRowsRow.domain false) (Rows.wireRowsSpec.post enc Try.prog Try.f8 false true false false) := by
  refine returnsInHanded_of_change (C := Try.checked) own started (by kernel_rfl) Try.func8
    (ChangeSpec.witness6 (enc := enc) (C := Try.checked) false ⟨#[], #[.slice none 0 0], []⟩ 8 (by kernel_rfl) (by kernel_rfl) (by kernel_rfl) (by kernel_rfl)) ?_
  intro W base args ds gs before hval0 hW hcnd _
  have hval : ∀ (j : Nat) t v, Try.f8.params[j]? = some t → args[j]? = some v → Value.okWide Try.prog W .any base t v := hval0
  have hW' := hW
  obtain ⟨p, q, hA0, hV, rfl, hfz, hnd⟩ := hW
  have hA : DataW.TrodAll enc Try.prog W 0 (fun _ => true) true Try.f8.params.toList args.toList ds p := hA0
  rw [Try.params8] at hA hval
  obtain ⟨v0, vs0, d0, ds0, p0, q0, hargs, rfl, rfl, h0, r0⟩ := trodAll_cons hA
  obtain ⟨rfl, rfl, rfl⟩ := trodAll_nil r0
  obtain rfl : args = #[v0] := by cases args; simp_all
  obtain ⟨rfl, rfl⟩ := trodVars_none hV
  obtain ⟨a0, len0, cap0, rfl⟩ := okWide_slice Try.underlying41 (hval 0 41 v0 rfl rfl)
  have k0 := h0
  have lt0 : ∀ x ∈ p0, x.block < W.heap.size := by obtain ⟨m, hm⟩ := k0; exact DataW.trod_lt m _ _ _ hm
  obtain ⟨L, w0, w1⟩ : ∃ L, IsStrs W a0 len0 L ∧ len0 ≤ maxLen := by
    obtain ⟨fuel, hf⟩ := h0
    rcases open_strings Try.underlying41 Try.underlying9 (by kernel_rfl) hf with ⟨hcs, _⟩ | ⟨x, l, c, ss, hcs, _, hl, hm, hz, _, hcell, hws⟩
    · simp [Value.cells] at hcs
      obtain ⟨rfl, rfl, rfl⟩ := hcs
      exact ⟨[], ⟨rfl, fun k hk => absurd hk (Nat.not_lt_zero _)⟩, Nat.zero_le _⟩
    · simp [Value.cells] at hcs
      obtain ⟨rfl, rfl, rfl⟩ := hcs
      have hz' : ss.length = cap0 := by simpa using hz
      refine ⟨ss.take len0, ⟨by rw [List.length_take]; omega, fun k hk => ⟨_, rfl, ?_⟩⟩, by omega⟩
      rw [hcell k (by omega), List.getD_eq_getElem?_getD, List.getD_eq_getElem?_getD, List.getElem?_take, if_pos hk]
      rfl
  clear hA0 hval0
  refine (walk a0 len0 cap0 L W w0 w1).mono fun e W' ⟨he, bel⟩ => ?_
  subst he
  exact ⟨_, rfl, _, _, _, [], _, [], hW', trodAll_mk1 (shut_bool Try.underlying4 _), (trodAll_cons_mk (Below.trod laidOut (by kernel_rfl) (of_decide_eq_true (by kernel_rfl)) k0 bel lt0) trodAll_mk0), rfl, bel.frame _, fun h => by cases h⟩

theorem over : Rows.wireRowsRow.holds Try.pinned (OpenSpec.ofChange Rows.wireRowsSpec) :=
  OpenClaim.holds_of_wide 8 Try.f8 rfl rfl rfl rfl rfl rfl rfl ⟨rfl, rfl, rfl, rfl, rfl⟩ rfl rfl rfl rfl rfl (by kernel_rfl) Try.func8 (by kernel_rfl)
    (of_decide_eq_true (by kernel_rfl)) (by unfold Func.isWrapper; first | (rw [if_pos (by decide +kernel)]; kernel_rfl) | (rw [if_neg (by decide +kernel)]; exact ⟨rfl, rfl⟩))
    (fun os started H enc _ => lifted os started H enc)

/-- The given statement. -/
theorem wireRows_proved : Rows.WireRowsSaid :=
  over
#print axioms wireRows_proved
end Go.Proofs.Ytgaggncepknafaa.wireRows
