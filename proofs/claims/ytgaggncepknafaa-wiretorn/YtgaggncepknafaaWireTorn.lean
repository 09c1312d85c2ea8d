/-
  For every text, place and byte WireTorn returns true: a frame in which one byte behind its length is another one is none.
  Conditions: none beyond the given statement's own.
-/
import Derived.Test.YtgaggncepknafaaRows
import Derived.Test.YtgaggncepknafaaWorks
import Derived.Test.YtgaggncepknafaaFacts
import Derived.WalkKit
import Derived.ProofKit
import Derived.OpenShut
import Derived.ShutString
import Derived.ChangeOld
import Derived.Below
import Derived.SizedLaws
namespace Go.Proofs.Ytgaggncepknafaa.wireTorn
open Go.ChangeShapes Go.WideShapes Go.ChangeAt Go.RowKit
open Go.ChangeMaps (open_string shut_string)
set_option linter.unusedVariables false

theorem own : ownKnob Try.prog.godebug = none := by kernel_rfl

theorem conv_mut (s : ByteArray) (hs : s.size ≤ 4000) (w : World) (i : Nat) (hi : i < (li s).length) : ∃ C W, (convert 9 39 (.string s)).run Try.prog w = .ok (.slice (some ⟨w.heap.size, 0, none⟩) s.size C) W ∧
    W.cell? ⟨w.heap.size, i, none⟩ = some (.int .u8 ((li s)[i].toNat : Int)) ∧ W.frozen? ⟨w.heap.size, i, none⟩ = false ∧
    Hid (∀ x : UInt8, (convert 39 9 (.slice (some ⟨w.heap.size, 0, none⟩) s.size C)).run Try.prog (W.setCell ⟨w.heap.size, i, none⟩ (.int .u8 (x.toNat : Int))) = .ok (.string (mk ((li s).set i x))) (W.setCell ⟨w.heap.size, i, none⟩ (.int .u8 (x.toNat : Int)))) ∧
    Hid (∀ v : Value, Below w.heap.size w (W.setCell ⟨w.heap.size, i, none⟩ v)) := by
  have hr := run_bytes_of_string (P := Try.prog) w 9 39 5 s Try.underlying9 Try.underlying39 Try.underlying5
  have hge := grownCap_ge w s.size 0 5
  have hle := grownCap_le_maxLen w s.size 0 5 (by unfold maxLen; omega)
  generalize grownCap w s.size 0 5 = C at hr hge hle
  have hbs : (bytesRow s C).size = C := by simp [bytesRow]; omega
  have hg : (w.drew.alloc (.cells (bytesRow s C) 5 ((bytesRow s C).size, (bytesRow s C).size + 1))).heap[w.heap.size]? = some (.cells (bytesRow s C) 5 ((bytesRow s C).size, (bytesRow s C).size + 1)) := by
    rw [heap_alloc_if, if_pos (by simp)]
  have hB : Below w.heap.size w (w.drew.alloc (.cells (bytesRow s C) 5 ((bytesRow s C).size, (bytesRow s C).size + 1))) := (Below.refl _ _).drew.alloc (by simp) _
  have hat : ∀ j (hj : j < (li s).length), (w.drew.alloc (.cells (bytesRow s C) 5 ((bytesRow s C).size, (bytesRow s C).size + 1))).cell? ⟨w.heap.size, j, none⟩ = some (.int .u8 ((li s)[j].toNat : Int)) := fun j hj => by
    rw [cell_of_row _ _ j _ _ _ hg]
    unfold bytesRow
    have hj' : j < s.data.size := by have := hj; rw [li_len] at this; exact this
    rw [Array.getElem?_append_left (by simpa using hj'), Array.getElem?_map, Array.getElem?_eq_getElem hj']
    rfl
  have hi' : i < s.size := by rw [li_len] at hi; exact hi
  refine ⟨C, _, hr, hat i hi, ?_, fun x => ?_, fun v => hB.setCell (Nat.le_refl _) v⟩
  · unfold World.frozen?
    rw [hg]
    simp [hbs]
    omega
  · have := run_convert_bytes_back (P := Try.prog) ((w.drew.alloc (.cells (bytesRow s C) 5 ((bytesRow s C).size, (bytesRow s C).size + 1))).setCell ⟨w.heap.size, i, none⟩ (.int .u8 (x.toNat : Int))) 39 9 5 ⟨w.heap.size, 0, none⟩ C ((li s).set i x) Try.underlying39 Try.underlying5 Try.underlying9 (fun j hj => by
      have e : (⟨w.heap.size, 0, none⟩ : Addr).add j = ⟨w.heap.size, j, none⟩ := by unfold Addr.add; split <;> simp_all
      rw [e]
      rw [List.length_set] at hj
      by_cases k : i = j
      · subst k
        rw [World.cell?_setCell_same _ _ _ (hat i hi)]
        simp
      · rw [World.cell?_setCell_other _ _ _ _ (by intro h; injection h with _ h; exact k h), hat j hj, List.getElem_set_ne k])
    rw [List.length_set, li_len] at this
    exact this
theorem xor8 (a b : UInt8) : bits .xor .u8 (a.toNat : Int) (b.toNat : Int) = ((a ^^^ b).toNat : Int) := by
  rw [u8_xor_nat _ _ a.toNat_lt b.toNat_lt, UInt8.toNat_xor]
theorem frame_size (l : List UInt8) : (frame l).length ≤ l.length + 12 := by
  have := text_size l
  unfold frame; rw [List.length_append, chk_len]; omega
theorem xor_ne (a b : UInt8) (h : b ≠ 0) : a ≠ a ^^^ b := by
  intro e
  apply h
  have : a ^^^ a = a ^^^ (a ^^^ b) := by rw [← e]
  rw [UInt8.xor_self, ← UInt8.xor_assoc, UInt8.xor_self, UInt8.zero_xor] at this
  exact this.symm
theorem torn (a0 : ByteArray) (h0 : a0.size ≤ 300) (i : Nat) (hi : (mk (num (cl a0.size))).size ≤ i) (hf : i < (frame (li a0)).length) (x : UInt8) (hx : (frame (li a0))[i] ≠ x) : fR ((frame (li a0)).set i x) = .tuple #[.string em, .string em, .bool false] := by
  refine fR_none (gf_torn (by rw [li_len]; omega) i ?_ hf x hx)
  rw [size_li, li_mk'] at hi
  rw [li_len]; exact hi

set_option maxHeartbeats 1000000 in
set_option maxRecDepth 100000 in
theorem walkSmall (a0 : ByteArray) (h0 : a0.size ≤ 300) (i : Nat) (y : UInt8) (hy : y ≠ 0) (hi : (mk (num (cl a0.size))).size ≤ i) (hf : i < (mk (frame (li a0))).size) (w : World) :
    Calls Try.prog 7 #[.string a0, .int .i64 (i : Int), .int .u8 (y.toNat : Int)] w fun e w' => e = .returned (.bool true) ∧ Below w.heap.size w w' := by
  have t1 : decide ((300 : Int) < (a0.size : Int)) = false := by simp; omega
  have t2 : decide (i < (mk (num (cl a0.size))).size) = false := by simp; omega
  have t3 : decide ((mk (frame (li a0))).size ≤ i) = false := by simp; omega
  have t4 : ((y.toNat : Int) == 0) = false := by
    rw [beq_eq_false_iff_ne]; intro h; exact hy (UInt8.toNat_inj.mp (by simpa using h))
  have hF : (mk (frame (li a0))).size ≤ 400 := by rw [size_li, li_mk']; have := frame_size (li a0); rw [li_len] at this; omega
  have c1 := Lib.hid (fun v => frame_any a0 (by omega) v)
  have c2 : Hid (∀ v, Calls Try.prog 14 #[.int .i64 (a0.size : Int)] v fun e v' => e = .returned (.string (mk (num (cl a0.size)))) ∧ Below v.heap.size v v') := fun v => num_nat a0.size (by omega) v
  have hf' : i < (li (mk (frame (li a0)))).length := by rw [li_len]; exact hf
  have cv := Lib.hid (fun v => conv_mut (mk (frame (li a0))) (by omega) v i hf')
  have hz : ((li (mk (frame (li a0)))).set i ((li (mk (frame (li a0))))[i] ^^^ y)).length ≤ 400 := by rw [List.length_set, li_len]; exact hF
  have c3 := Lib.hid (fun v => getFrame_any (mk ((li (mk (frame (li a0)))).set i ((li (mk (frame (li a0))))[i] ^^^ y))) (by rw [size_li, li_mk']; omega) v)
  have e3 : fR (li (mk ((li (mk (frame (li a0)))).set i ((li (mk (frame (li a0))))[i] ^^^ y)))) = .tuple #[.string em, .string em, .bool false] := by
    rw [li_mk']
    simp only [li_mk']
    exact torn a0 h0 i hi (by rw [li_mk'] at hf'; exact hf') _ (xor_ne _ _ hy)
  rw [e3] at c3
  have hx := xor8 ((li (mk (frame (li a0))))[i]) y
  clear e3 hz hy hi
  revert c1 c2 c3 cv t2 t3 hF hf hx hf'
  generalize mk (num (cl a0.size)) = Nm
  generalize mk (frame (li a0)) = F
  intro hf t2 t3 hF c1 c2 hf' cv c3 hx
  have hiF : (i : Int) < (F.size : Int) := by omega
  go_enter Try.func7, Try.ntmps7
  go_wp2_with fail
  refine (works_any _).mono ?_
  rintro e v1 ⟨rfl, b1⟩
  have B1 := Lib.hid b1
  clear b1
  go_wp2_with fail
  refine (c1.out _).mono ?_
  rintro e v2 ⟨rfl, b2⟩
  have B2 := Lib.hid (below_on B1.out b2)
  clear b2 B1
  go_wp2_with fail
  refine (c2.out _).mono ?_
  rintro e v3 ⟨rfl, b3⟩
  have B3 := Lib.hid (below_on B2.out b3)
  clear b3 B2
  obtain ⟨C, W, hcv, q1, q2, hback, hB⟩ := cv.out v3
  have hb := hback.out ((li F)[i] ^^^ y)
  have hB' := Lib.hid (hB.out (.int .u8 (((li F)[i] ^^^ y).toNat : Int)))
  clear hback hB cv
  revert q1 hx hb hB' c3
  generalize mk ((li F).set i ((li F)[i] ^^^ y)) = G
  generalize (li F)[i] ^^^ y = x
  generalize (li F)[i] = f
  intro c3 hx q1 hb hB'
  go_wp2_with fail
  refine (c3.out _).mono ?_
  rintro e v4 ⟨rfl, b4⟩
  have B4 := Lib.hid (below_on (below_on B3.out hB'.out) b4)
  clear b4 B3
  go_wp2_with fail
  go_ret
  exact ⟨rfl, B4.out⟩
theorem walk (a0 : ByteArray) (a1 a2 : Int) (w0 : a0.size ≤ maxLen) (w1 : (Lit.int .i64 a1).wf = true) (w2 : (Lit.int .u8 a2).wf = true) (z0 : a0.size ≤ reachBytes) (w : World) :
    Calls Try.prog 7 #[.string a0, .int .i64 a1, .int .u8 a2] w fun e w' => e = .returned (.bool true) ∧ Below w.heap.size w w' := by
  have hb := bounds_u8 w2
  by_cases h : a0.size ≤ 300 ∧ ((mk (num (cl a0.size))).size : Int) ≤ a1 ∧ a1 < ((mk (frame (li a0))).size : Int) ∧ a2 ≠ 0
  · obtain ⟨h1, h2, h3, h4⟩ := h
    obtain ⟨i, rfl⟩ := Int.eq_ofNat_of_zero_le (show 0 ≤ a1 by omega)
    have e : ((UInt8.ofNat a2.toNat).toNat : Int) = a2 := by rw [UInt8.toNat_ofNat']; omega
    have := walkSmall a0 h1 i (UInt8.ofNat a2.toNat) (by intro k; rw [k] at e; exact h4 (by rw [← e]; rfl)) (by omega) (by omega) w
    rw [e] at this
    exact this
  · have m0 : a0.size ≤ 9223372036854775000 := by unfold reachBytes at z0; omega
    have c1 := Lib.hid (fun v => frame_any a0 m0 v)
    have c2 : Hid (∀ v, Calls Try.prog 14 #[.int .i64 (a0.size : Int)] v fun e v' => e = .returned (.string (mk (num (cl a0.size)))) ∧ Below v.heap.size v v') := fun v => num_nat a0.size (by omega) v
    have key : ∀ (b1 b2 b3 b4 : Bool), decide ((300 : Int) < (a0.size : Int)) = b1 → decide (a1 < ((mk (num (cl a0.size))).size : Int)) = b2 → decide (((mk (frame (li a0))).size : Int) ≤ a1) = b3 → (a2 == 0) = b4 → (b1 || b2 || b3 || b4) = true →
        Calls Try.prog 7 #[.string a0, .int .i64 a1, .int .u8 a2] w fun e w' => e = .returned (.bool true) ∧ Below w.heap.size w w' := by
      intro b1 b2 b3 b4 t1 t2 t3 t4 hor
      clear h w0 w1 w2 z0 hb m0
      revert c1 c2 t2 t3
      generalize mk (num (cl a0.size)) = Nm
      generalize mk (frame (li a0)) = F
      intro c1 c2 t2 t3
      cases b1
      · cases b2
        · cases b3
          · cases b4
            · cases hor
            · clear hor
              go_enter Try.func7, Try.ntmps7
              go_wp2_with fail
              refine (works_any _).mono ?_
              rintro e v1 ⟨rfl, b1⟩
              go_wp2_with fail
              refine (c1.out _).mono ?_
              rintro e v2 ⟨rfl, b2⟩
              go_wp2_with fail
              refine (c2.out _).mono ?_
              rintro e v3 ⟨rfl, b3⟩
              go_wp2_with fail
              go_ret
              exact ⟨rfl, below_on (below_on b1 b2) b3⟩
          · clear hor t4
            go_enter Try.func7, Try.ntmps7
            go_wp2_with fail
            refine (works_any _).mono ?_
            rintro e v1 ⟨rfl, b1⟩
            go_wp2_with fail
            refine (c1.out _).mono ?_
            rintro e v2 ⟨rfl, b2⟩
            go_wp2_with fail
            refine (c2.out _).mono ?_
            rintro e v3 ⟨rfl, b3⟩
            go_wp2_with fail
            go_ret
            exact ⟨rfl, below_on (below_on b1 b2) b3⟩
        · clear hor t4 t3
          go_enter Try.func7, Try.ntmps7
          go_wp2_with fail
          refine (works_any _).mono ?_
          rintro e v1 ⟨rfl, b1⟩
          go_wp2_with fail
          refine (c1.out _).mono ?_
          rintro e v2 ⟨rfl, b2⟩
          go_wp2_with fail
          refine (c2.out _).mono ?_
          rintro e v3 ⟨rfl, b3⟩
          go_wp2_with fail
          go_ret
          exact ⟨rfl, below_on (below_on b1 b2) b3⟩
      · clear hor t4 t3 t2
        go_enter Try.func7, Try.ntmps7
        go_wp2_with fail
        refine (works_any _).mono ?_
        rintro e v1 ⟨rfl, b1⟩
        go_wp2_with fail
        refine (c1.out _).mono ?_
        rintro e v2 ⟨rfl, b2⟩
        go_wp2_with fail
        refine (c2.out _).mono ?_
        rintro e v3 ⟨rfl, b3⟩
        go_wp2_with fail
        go_ret
        exact ⟨rfl, below_on (below_on b1 b2) b3⟩
    refine key _ _ _ _ rfl rfl rfl rfl ?_
    simp only [Bool.or_eq_true, decide_eq_true_eq, beq_iff_eq]
    omega

set_option maxRecDepth 100000 in
theorem lifted (os : Os) (started : os.Started) (H : Type) (enc : TypeId × Value → H) :
    ReturnsInHanded {} Try.checked os 7 .any (Rows.wireTornSpec.pre6 enc Try.prog Try.f7 Rows.wireTornRow.domain false) (Rows.wireTornSpec.post enc Try.prog Try.f7 false true false false) := by
  refine returnsInHanded_of_change_sized (C := Try.checked) own started (by kernel_rfl) Try.func7
    (ChangeSpec.witness6 (enc := enc) (C := Try.checked) false ⟨#[], #[.string ByteArray.empty, .int .i64 0, .int .u8 0], []⟩ 8 (by kernel_rfl) (by kernel_rfl) (by kernel_rfl) (by kernel_rfl)) ?_
  intro W base args ds gs before hval0 hW hcnd hsz _
  have hval : ∀ (j : Nat) t v, Try.f7.params[j]? = some t → args[j]? = some v → Value.okWide Try.prog W .any base t v := hval0
  have hW' := hW
  obtain ⟨p, q, hA0, hV, rfl, hfz, hnd⟩ := hW
  have hA : DataW.TrodAll enc Try.prog W 0 (fun _ => true) true Try.f7.params.toList args.toList ds p := hA0
  rw [Try.params7] at hA hval
  obtain ⟨v0, vs0, d0, ds0, p0, q0, hargs, rfl, rfl, h0, r0⟩ := trodAll_cons hA
  obtain ⟨v1, vs1, d1, ds1, p1, q1, rfl, rfl, rfl, h1, r1⟩ := trodAll_cons r0
  obtain ⟨v2, vs2, d2, ds2, p2, q2, rfl, rfl, rfl, h2, r2⟩ := trodAll_cons r1
  obtain ⟨rfl, rfl, rfl⟩ := trodAll_nil r2
  obtain rfl : args = #[v0, v1, v2] := by cases args; simp_all
  obtain ⟨rfl, rfl⟩ := trodVars_none hV
  obtain ⟨a0, rfl, rfl, rfl, w0⟩ := open_string Try.underlying9 (hval 0 9 v0 rfl rfl) h0
  obtain ⟨a1, rfl, rfl, rfl, w1⟩ := open_int Try.underlying3 (hval 1 3 v1 rfl rfl) h1
  obtain ⟨a2, rfl, rfl, rfl, w2⟩ := open_int Try.underlying5 (hval 2 5 v2 rfl rfl) h2
  have z0 : a0.size ≤ reachBytes := by have := sized_string (j := 0) (t := 9) hsz rfl rfl; simpa [toList_li, li_len] using this
  clear hA0 hval0
  simp only [List.append_nil] at hW'
  refine (walk a0 a1 a2 w0 w1 w2 z0 W).mono fun e W' ⟨he, bel⟩ => ?_
  subst he
  exact ⟨_, rfl, _, _, _, [], [], [], hW', (trodAll_cons_mk (shut_bool Try.underlying4 _) trodAll_mk0), (trodAll_cons_mk (shut_string Try.underlying9 w0) (trodAll_cons_mk (shut_int Try.underlying3 w1) (trodAll_cons_mk (shut_int Try.underlying5 w2) trodAll_mk0))), rfl, bel.frame _, fun h => by cases h⟩

theorem over : Rows.wireTornRow.holds Try.pinned (OpenSpec.ofChange Rows.wireTornSpec) :=
  OpenClaim.holds_of_wide 7 Try.f7 rfl rfl rfl rfl rfl rfl rfl ⟨rfl, rfl, rfl, rfl, rfl⟩ rfl rfl rfl rfl rfl (by kernel_rfl) Try.func7 (by kernel_rfl)
    (of_decide_eq_true (by kernel_rfl)) (by unfold Func.isWrapper; first | (rw [if_pos (by decide +kernel)]; kernel_rfl) | (rw [if_neg (by decide +kernel)]; exact ⟨rfl, rfl⟩))
    (fun os started H enc _ => lifted os started H enc)

/-- The given statement. -/
theorem wireTorn_proved : Rows.WireTornSaid :=
  over
#print axioms wireTorn_proved
end Go.Proofs.Ytgaggncepknafaa.wireTorn
