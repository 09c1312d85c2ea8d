/-
  For every digest and two texts ShaLinks returns true: a link is a digest of the head and what stands behind it, in whatever parts.
  Conditions: none beyond the given statement's own.
-/
import Derived.Test.YtfebhemlbnpmhaaRows
import Derived.Test.YtfebhemlbnpmhaaWorks
import Derived.Test.YtfebhemlbnpmhaaGuarded
import Derived.Test.YtfebhemlbnpmhaaDigest
import Derived.WalkKit
import Derived.ProofKit
import Derived.OpenShut
import Derived.ShutString
import Derived.ChangeOld
import Derived.Below
namespace Go.Proofs.Ytfebhemlbnpmhaa.shaLinks
open Go.ChangeShapes Go.WideShapes Go.ChangeAt Go.RowKit
open Go.ChangeMaps (open_string shut_string)
set_option linter.unusedVariables false

theorem own : ownKnob Try.prog.godebug = none := by kernel_rfl

/-- The digest that came in, in a block of the call's own. -/
structure Lw (w : World) (d : List UInt8) (v : World) : Prop where
  bel : Below w.heap.size w v
  one : v.heap[w.heap.size]? = some (.cells (row d) 23)
theorem Lw.past {w v v' : World} {d : List UInt8} (h : Lw w d v) (hb : Below v.heap.size v v') : Lw w d v' :=
  ⟨h.bel.trans (hb.mono h.bel.size), (hb.block _ (lt_of_some h.one)).trans h.one⟩
theorem info23 (l : List UInt8) (hl : l.length = 32) : Hid ((Try.prog.info? 23).map (·.size) = some (row l).size) := by show _ = _; rw [row_size, hl]; kernel_rfl
theorem app_list (a b : ByteArray) : (a ++ b).data.toList = a.data.toList ++ b.data.toList := by rw [ByteArray.data_append]; simp

set_option maxHeartbeats 1000000 in
set_option maxRecDepth 100000 in
theorem walkSmall (a0 : List UInt8) (a1 a2 : ByteArray) (w0 : a0.length = 32) (hl1 : a1.size ≤ 300) (hl2 : a2.size ≤ 300) (w : World) :
    Calls Try.prog 8 #[.agg (row a0), .string a1, .string a2] w fun e w' => e = .returned (.bool true) ∧ Below w.heap.size w w' := by
  have hl1' : decide ((300 : Int) < (a1.size : Int)) = false := by simp; omega
  have hl2' : decide ((300 : Int) < (a2.size : Int)) = false := by simp; omega
  have i0 := info23 a0 w0
  obtain ⟨X, hX⟩ : ∃ X, sha (a0 ++ (a1.data.toList ++ a2.data.toList)) = X := ⟨_, rfl⟩
  have lX : X.length = 32 := by rw [← hX, sha_length]
  have eqd : ∀ v, (Op.equalIn 10000 23 (.agg (row X)) (.agg (row X))).run Try.prog v = .ok true v := fun v => by rw [eql_dig _ _ lX lX]; simp
  have lnk : Hid (∀ v, Calls Try.prog 16 #[.agg (row a0), .string (a1 ++ a2)] v fun e v' => e = .returned (.agg (row X)) ∧ Below v.heap.size v v') := fun v => by
    have := link_any a0 w0 (a1 ++ a2) (by rw [ByteArray.size_append]; omega) v
    rw [app_list, hX] at this
    exact this
  have ofs : Hid (∀ s : ByteArray, s.data.toList = a0 → ∀ v, Calls Try.prog 10 #[.string (s ++ a1 ++ a2)] v fun e v' => e = .returned (.agg (row X)) ∧ Below v.heap.size v v') := fun s hs v => by
    have hz : s.size = 32 := by rw [← size_list, hs, w0]
    have := of_any (s ++ a1 ++ a2) (by rw [ByteArray.size_append, ByteArray.size_append]; omega) v
    rw [app_list, app_list, hs, List.append_assoc, hX] at this
    exact this
  have w0' := Lib.hid w0
  clear w0 hX lX
  go_enter Try.func8, Try.ntmps8
  go_wp2_with fail
  refine (works_any _).mono ?_
  rintro e v1 ⟨rfl, h1⟩
  have hL : Lw w a0 v1 := (Lw.mk ((Below.refl _ _).alloc (Nat.le_refl _) _) (by rw [heap_alloc_if, if_pos rfl]) : Lw w a0 (w.alloc (.cells (row a0) 23))).past h1
  have hL' := Lib.hid hL
  clear hL h1
  go_wp2_with fail
  go_loopw [8, 9] (fun s i wr => ∃ (k : Nat) (sb : ByteArray), k ≤ 32 ∧ i = .int .i64 (k : Int) ∧ s = .string sb ∧ sb.size ≤ 32 ∧ Hid (sb.data.toList = a0.take k) ∧ Hid (Lw w a0 wr)) (fun _ i _ => 32 - (intOf i).toNat)
  case atStart => exact ⟨0, ⟨#[]⟩, by omega, rfl, rfl, by decide, by show _ = _; simp, hL'.out⟩
  case round =>
    obtain ⟨k, sb, hk, rfl, rfl, hsb, hsl, hLw⟩ := hrel
    rename_i wr
    by_cases hlt : k < 32
    · have hb : (k : Int) < 32 := by omega
      have c1 : wr.cell? ⟨w.heap.size, k, none⟩ = some (.int .u8 ((a0.getD k 0).toNat : Int)) := by
        rw [cell_of_row wr _ k _ _ _ hLw.out.one, row_at _ _ (by rw [w0'.out]; exact hlt)]
      have hts := Lib.hid (take_snocD 0 a0 k (by rw [w0'.out]; exact hlt))
      obtain ⟨x, hx⟩ : ∃ x, a0.getD k 0 = x := ⟨_, rfl⟩
      rw [hx] at c1 hts
      have hcv := conv_row (wr.alloc (.cells #[.int .u8 (x.toNat : Int)] 5)) wr.heap.size 1 5 [x] rfl (by rw [heap_alloc_if, if_pos rfl]; rfl)
      have hbl : Hid (Lw w a0 (wr.alloc (.cells #[.int .u8 (x.toNat : Int)] 5))) := hLw.out.past ((Below.refl _ _).alloc (Nat.le_refl _) _)
      have hsz : Hid (sb.size = k) := by
        show _ = _
        rw [← size_list, hsl.out, List.length_take, w0'.out]; omega
      clear hx
      go_wp2_with fail
      go_roundw
      case rel =>
        refine ⟨k + 1, sb ++ ⟨#[x]⟩, by omega, by go_num, rfl, ?_, ?_, hbl.out⟩
        · rw [ByteArray.size_append]; have := hsz.out; show sb.size + 1 ≤ 32; omega
        · show _ = _
          rw [app_list, hsl.out, hts.out]
      case measure => simp [intOf]; omega
    · obtain rfl : k = 32 := by omega
      have hfull : Hid (sb.data.toList = a0) := by
        show _ = _
        rw [hsl.out, List.take_of_length_le (by rw [w0'.out]; omega)]
      have k0 := hLw.out.one
      go_wp2_with (first
        | (with_reducible refine wpList_load_want (by with_unfolding_all rfl) 23 (.tmp 3) rfl _ rfl 23 (row a0) _ k0 Try.underlying23 rfl i0.out ?_)
        | fail)
      refine (lnk.out _).mono ?_
      rintro e v2 ⟨rfl, h2⟩
      have hL2 := hLw.out.past h2
      go_wp2_with fail
      refine (ofs.out sb hfull.out _).mono ?_
      rintro e v3 ⟨rfl, h3⟩
      have hL3 := hL2.past h3
      go_wp2_with fail
      go_ret
      exact ⟨rfl, hL3.bel⟩
theorem walk (a0 : List UInt8) (a1 a2 : ByteArray) (w0 : a0.length = 32) (w1 : a1.size ≤ maxLen) (w2 : a2.size ≤ maxLen) (w : World) :
    Calls Try.prog 8 #[.agg (row a0), .string a1, .string a2] w fun e w' => e = .returned (.bool true) ∧ Below w.heap.size w w' := by
  unfold maxLen at w1 w2
  have bW : Hid (Below w.heap.size w (w.alloc (.cells (row a0) 23))) := (Below.refl _ _).alloc (Nat.le_refl _) _
  by_cases hl : a1.size ≤ 300
  · by_cases hk : a2.size ≤ 300
    · exact walkSmall a0 a1 a2 w0 hl hk w
    · have hl' : decide ((300 : Int) < (a1.size : Int)) = false := by simp; omega
      have hk' : decide ((300 : Int) < (a2.size : Int)) = true := by simp; omega
      have w0' := Lib.hid w0
      clear w0
      go_enter Try.func8, Try.ntmps8
      go_wp2_with fail
      refine (works_any _).mono ?_
      rintro e v1 ⟨rfl, h1⟩
      go_wp2_with fail
      go_ret
      exact ⟨rfl, bW.out.trans (h1.mono bW.out.size)⟩
  · have hl' : decide ((300 : Int) < (a1.size : Int)) = true := by simp; omega
    have w0' := Lib.hid w0
    clear w0
    go_enter Try.func8, Try.ntmps8
    go_wp2_with fail
    refine (works_any _).mono ?_
    rintro e v1 ⟨rfl, h1⟩
    go_wp2_with fail
    go_ret
    exact ⟨rfl, bW.out.trans (h1.mono bW.out.size)⟩

set_option maxRecDepth 100000 in
theorem lifted (os : Os) (started : os.Started) (H : Type) (enc : TypeId × Value → H) :
    ReturnsInHanded {} Try.checked os 8 .any (Rows.shaLinksSpec.pre6 enc Try.prog Try.f8 Rows.shaLinksRow.domain false) (Rows.shaLinksSpec.post enc Try.prog Try.f8 false true false false) := by
  refine returnsInHanded_of_change (C := Try.checked) own started (by kernel_rfl) Try.func8
    (ChangeSpec.witness6 (enc := enc) (C := Try.checked) false ⟨#[], #[.agg #[.int .u8 0, .int .u8 0, .int .u8 0, .int .u8 0, .int .u8 0, .int .u8 0, .int .u8 0, .int .u8 0, .int .u8 0, .int .u8 0, .int .u8 0, .int .u8 0, .int .u8 0, .int .u8 0, .int .u8 0, .int .u8 0, .int .u8 0, .int .u8 0, .int .u8 0, .int .u8 0, .int .u8 0, .int .u8 0, .int .u8 0, .int .u8 0, .int .u8 0, .int .u8 0, .int .u8 0, .int .u8 0, .int .u8 0, .int .u8 0, .int .u8 0, .int .u8 0], .string ByteArray.empty, .string ByteArray.empty], []⟩ 8 (by kernel_rfl) (by kernel_rfl) (by kernel_rfl) (by kernel_rfl)) ?_
  intro W base args ds gs before hval0 hW hcnd _
  have hval : ∀ (j : Nat) t v, Try.f8.params[j]? = some t → args[j]? = some v → Value.okWide Try.prog W .any base t v := hval0
  have hW' := hW
  obtain ⟨p, q, hA0, hV, rfl, hfz, hnd⟩ := hW
  have hA : DataW.TrodAll enc Try.prog W 0 (fun _ => true) true Try.f8.params.toList args.toList ds p := hA0
  rw [Try.params8] at hA hval
  obtain ⟨v0, vs0, d0, ds0, p0, q0, hargs, rfl, rfl, h0, r0⟩ := trodAll_cons hA
  obtain ⟨v1, vs1, d1, ds1, p1, q1, rfl, rfl, rfl, h1, r1⟩ := trodAll_cons r0
  obtain ⟨v2, vs2, d2, ds2, p2, q2, rfl, rfl, rfl, h2, r2⟩ := trodAll_cons r1
  obtain ⟨rfl, rfl, rfl⟩ := trodAll_nil r2
  obtain rfl : args = #[v0, v1, v2] := by cases args; simp_all
  obtain ⟨rfl, rfl⟩ := trodVars_none hV
  obtain ⟨a0, rfl, rfl, rfl, w0⟩ := open_dig (hval 0 23 v0 rfl rfl) h0
  obtain ⟨a1, rfl, rfl, rfl, w1⟩ := open_string Try.underlying9 (hval 1 9 v1 rfl rfl) h1
  obtain ⟨a2, rfl, rfl, rfl, w2⟩ := open_string Try.underlying9 (hval 2 9 v2 rfl rfl) h2
  clear hA0 hval0
  simp only [List.append_nil] at hW'
  refine (walk a0 a1 a2 w0 w1 w2 W).mono fun e W' ⟨he, bel⟩ => ?_
  subst he
  exact ⟨_, rfl, _, _, _, [], [], [], hW', (trodAll_cons_mk (shut_bool Try.underlying4 _) trodAll_mk0), (trodAll_cons_mk (shut_dig w0) (trodAll_cons_mk (shut_string Try.underlying9 w1) (trodAll_cons_mk (shut_string Try.underlying9 w2) trodAll_mk0))), rfl, bel.frame _, fun h => by cases h⟩

theorem over : Rows.shaLinksRow.holds Try.pinned (OpenSpec.ofChange Rows.shaLinksSpec) :=
  OpenClaim.holds_of_wide 8 Try.f8 rfl rfl rfl rfl rfl rfl rfl ⟨rfl, rfl, rfl, rfl, rfl⟩ rfl rfl rfl rfl rfl (by kernel_rfl) Try.func8 (by kernel_rfl)
    (of_decide_eq_true (by kernel_rfl)) (by unfold Func.isWrapper; first | (rw [if_pos (by decide +kernel)]; kernel_rfl) | (rw [if_neg (by decide +kernel)]; exact ⟨rfl, rfl⟩))
    (fun os started H enc _ => lifted os started H enc)

/-- The given statement. -/
theorem shaLinks_proved : Rows.ShaLinksSaid :=
  over
#print axioms shaLinks_proved
end Go.Proofs.Ytfebhemlbnpmhaa.shaLinks
