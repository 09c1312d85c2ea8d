/-
  What broken, digit, escaped, place, and Count of the program return: for every argument.
-/
import Derived.Test.YtphbkbjgjicncaaRows
import Derived.Test.YtphbkbjgjicncaaNBridge
import Derived.Test.YtphbkbjgjicncaaShelf
import Derived.WalkKit
import Derived.WalkSpells
import Derived.WalkLawsBesides
import Derived.Handy
import Derived.Lib.Hide
import Derived.Laws.IdiomStrings
import Derived.Lib.OthersKept
import Derived.BigQuiet
import Derived.Deep.QuietTactic
import Derived.StillTailTactics
namespace Go.Proofs.Ytphbkbjgjicncaa.nm
open Go.RowKit

theorem still_of {P : Program} {f : FuncId} {args : Array Value} {w : World} {v : Value} (h : Calls P f args w fun e w' => e = .returned v ∧ w = w') : Calls P f args w fun e w' => e = .returned v ∧ w' = w :=
  h.mono fun _ _ ⟨he, hw⟩ => ⟨he, hw.symm⟩

theorem isp {l : List UInt8} : ([239, 191, 189] : List UInt8).isPrefixOf l = true ↔ ∃ r, l = enc 65533 ++ r := by
  have e : enc 65533 = [239, 191, 189] := by decide
  rw [List.isPrefixOf_iff_prefix, e]
  exact ⟨fun ⟨r, h⟩ => ⟨r, h.symm⟩, fun ⟨r, h⟩ => ⟨r, h.symm⟩⟩
theorem broken_math (l : List UInt8) (hl : l ≠ []) : ((rn (dec l).1 : Int) == 65533 && !(Lib.hasPrefix l [239, 191, 189])) = decide (1114112 ≤ (dec l).1) := by
  have hp := dec_okp l hl
  have hj := dec_take l hl
  unfold Lib.hasPrefix
  by_cases h : 1114112 ≤ (dec l).1
  · have h1 : rn (dec l).1 = 65533 := by unfold rn; rw [if_pos h]
    have h2 : ([239, 191, 189] : List UInt8).isPrefixOf l = false := by
      cases e : ([239, 191, 189] : List UInt8).isPrefixOf l
      · rfl
      · obtain ⟨r, hr⟩ := isp.1 e
        rw [hr, dec_enc 65533 okv_rep] at h
        simp only at h
        omega
    rw [h1, h2]
    simp [h]
  · have h1 : rn (dec l).1 = (dec l).1 := by unfold rn; rw [if_neg h]
    rw [h1]
    by_cases k : (dec l).1 = 65533
    · have h2 : ([239, 191, 189] : List UInt8).isPrefixOf l = true := isp.2 ⟨_, by rw [← k]; exact hj.symm⟩
      rw [h2]
      simp [h]
    · have : (((dec l).1 : Int) == 65533) = false := by rw [beq_eq_false_iff_ne]; omega
      rw [this]
      simp [h]

set_option maxHeartbeats 400000 in
theorem broken_any (s : ByteArray) (hs : li s ≠ []) (w : World) :
    Calls Try.prog 93 #[.string s, .int .i32 (rn (dec (li s)).1)] w fun e w' => e = .returned (.bool (decide (1114112 ≤ (dec (li s)).1))) ∧ w = w' := by
  have hb := Lib.hid (broken_math (li s) hs)
  revert hb
  generalize (rn (dec (li s)).1 : Int) = r
  generalize decide (1114112 ≤ (dec (li s)).1) = q
  intro hb
  go_enter Try.func93, Try.ntmps93
  by_cases hr : r = 65533
  · subst hr
    have h1 : ((65533 : Int) == 65533) = true := rfl
    go_wp2_with (go_at_call 80; refine (Try.strings_HasPrefix _ _ _).mono ?_; rintro e w' ⟨rfl, rfl⟩)
    go_ret
    have := hb.out
    exact ⟨by rw [← this]; simp, rfl⟩
  · have h1 : (r == 65533) = false := by rw [beq_eq_false_iff_ne]; exact hr
    go_wp2_with (go_at_call 80; refine (Try.strings_HasPrefix _ _ _).mono ?_; rintro e w' ⟨rfl, rfl⟩)
    go_ret
    have := hb.out
    exact ⟨by rw [← this, h1]; rfl, rfl⟩

theorem ebyte_bits (h k : Nat) (hh : h < 16 ∨ h = 255) (hk : k < 16 ∨ k = 255) : bits BinOp.or IntKind.u8 (IntKind.u8.wrap ((h : Int) * 16)) (k : Int) = (ebyte h k : Int) := by
  have key : ∀ a b : Fin 17, bits BinOp.or IntKind.u8 (IntKind.u8.wrap (((if a.val < 16 then a.val else 255 : Nat) : Int) * 16)) ((if b.val < 16 then b.val else 255 : Nat) : Int) = (ebyte (if a.val < 16 then a.val else 255) (if b.val < 16 then b.val else 255) : Int) := by decide +kernel
  have h1 : ∃ a : Fin 17, h = if a.val < 16 then a.val else 255 := by
    rcases hh with hh | hh
    · exact ⟨⟨h, by omega⟩, by simp [hh]⟩
    · exact ⟨⟨16, by omega⟩, by simp [hh]⟩
  have k1 : ∃ a : Fin 17, k = if a.val < 16 then a.val else 255 := by
    rcases hk with hk | hk
    · exact ⟨⟨k, by omega⟩, by simp [hk]⟩
    · exact ⟨⟨16, by omega⟩, by simp [hk]⟩
  obtain ⟨a, ha⟩ := h1
  obtain ⟨b, hb⟩ := k1
  rw [ha, hb]
  exact key a b

theorem byt8 (s : ByteArray) (i : Nat) (h : i < s.size) : ∃ c : UInt8, s[i]'h = c ∧ byt (li s) i = c.toNat := ⟨_, rfl, (byt_at s i h).symm⟩

theorem below_iter (w : World) (s : ByteArray) (p : Nat) : Below w.heap.size w (w.iter s p) := (Below.refl _ _).alloc (Nat.le_refl _) _

/-- What 'next' tells of a text at a place. -/
theorem next_at (w : World) (s : ByteArray) (pos : Nat) (h : pos < s.size) (ty : TypeId) :
    (Instr.next (.pointer (some ⟨w.heap.size, 0, none⟩)) true ty).run Try.prog (w.iter s pos) = .ok (.tuple #[.bool true, .int .i64 pos, .int .i32 (rn (dec ((li s).drop pos)).1 : Nat)]) (w.iter s (pos + (dec ((li s).drop pos)).2)) := by
  rw [run_next_any w s pos ty h, decode_eq]

/-- The place of a text's first rune. -/
def pz (l : List UInt8) : Int := if l = [] then -1 else ((dec l).1 : Int)

set_option maxHeartbeats 1000000 in
theorem place_any (s : ByteArray) (w : World) :
    Calls Try.prog 76 #[.string s] w fun e w' => e = .returned (.int .i32 (pz (li s))) ∧ Below w.heap.size w w' := by
  by_cases hs : s.size = 0
  · have hz : Hid (pz (li s) = -1) := by show _ = _; unfold pz; rw [if_pos (List.length_eq_zero_iff.mp (by rw [li_len]; exact hs))]
    have hnx := fun ty => run_next_end (P := Try.prog) w s 0 ty (by omega)
    go_enter Try.func76, Try.ntmps76
    go_wp2_with fail
    refine wp_loop_rounds 1 ?_
    rw [rounds_succ]
    go_wp2_with fail
    go_ret
    exact ⟨by rw [hz.out]; rfl, below_iter _ _ _⟩
  · have hl : li s ≠ [] := fun e => hs (by rw [← li_len, e]; rfl)
    have hz : Hid (pz (li s) = ((dec (li s)).1 : Int)) := by show _ = _; unfold pz; rw [if_neg hl]
    have hnx := fun ty => next_at w s 0 (by omega) ty
    rw [List.drop_zero] at hnx
    have hbr := Lib.hid (fun v => broken_any s hl v)
    have hp := Lib.hid (dec_okp (li s) hl)
    have h0 : 0 < s.size := by omega
    have hx : Hid (1114112 ≤ (dec (li s)).1 → (1114112 : Int) + ((s[0]'h0).toNat : Int) = ((dec (li s)).1 : Int)) := by
      intro k
      rw [byt_at s 0 h0]
      rcases dec_ways _ hl with ⟨a, t, e0, h1, e⟩ | ⟨a, b, t, e0, h1, h2, h3, h4, e⟩ | ⟨a, b, c, t, e0, h1, h2, h3, h4, h5, h6, h7, h8, e⟩ | ⟨a, b, c, d, t, e0, h1, h2, h3, h4, h5, h6, h7, h8, h9, h10, e⟩ | ⟨a, t, e0, h1, e⟩
      all_goals (rw [e] at k ⊢; try (simp only at k; omega))
      rw [e0]
      show (1114112 : Int) + (a.toNat : Int) = _
      simp only; omega
    have hr : Hid (¬ 1114112 ≤ (dec (li s)).1 → rn (dec (li s)).1 = (dec (li s)).1) := fun k => by unfold rn; rw [if_neg k]
    revert hnx hz hbr hx hr hp
    generalize (dec (li s)).1 = p
    generalize (dec (li s)).2 = n
    intro hz hnx hbr hp hx hr
    go_enter Try.func76, Try.ntmps76
    go_wp2_with fail
    refine wp_loop_rounds 1 ?_
    rw [rounds_succ]
    by_cases k : 1114112 ≤ p
    · have kd : decide (1114112 ≤ p) = true := by simp [k]
      rw [kd] at hbr
      have hx' := hx.out k
      have hb : (s[0]'h0).toNat < 256 := (s[0]'h0).toNat_lt
      clear hx hr
      go_wp2_with (go_at_call 93; refine (hbr.out _).mono ?_; rintro e w' ⟨rfl, rfl⟩)
      go_ret
      exact ⟨by rw [hz.out]; rfl, below_iter _ _ _⟩
    · have kd : decide (1114112 ≤ p) = false := by simp [k]
      rw [kd] at hbr
      have hr' := Lib.hid (hr.out k)
      clear hx hr
      go_wp2_with (go_at_call 93; refine (hbr.out _).mono ?_; rintro e w' ⟨rfl, rfl⟩)
      go_ret
      exact ⟨by rw [hz.out]; exact congrArg (fun n : Nat => Ending.returned (Value.int .i32 (n : Int))) hr'.out, below_iter _ _ _⟩

end Go.Proofs.Ytphbkbjgjicncaa.nm
