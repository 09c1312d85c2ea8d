/-
  What Count and Less of the program return: for every argument of a bounded length.
-/
import Derived.Test.YtphbkbjgjicncaaGreatNLeafs
import Derived.Test.YtphbkbjgjicncaaGreatNQuiet
namespace Go.Proofs.YtphbkbjgjicncaaGreat.nm
open Go.RowKit

theorem drop_ne {s : ByteArray} {pos : Nat} (h : pos < s.size) : (li s).drop pos ≠ [] := by
  intro e
  have := congrArg List.length e
  rw [List.length_drop, li_len] at this
  simp at this
  omega
theorem drop_end {s : ByteArray} {pos : Nat} (h : ¬ pos < s.size) : (li s).drop pos = [] := List.drop_eq_nil_of_le (by rw [li_len]; omega)
theorem drop_width {s : ByteArray} {pos : Nat} (h : pos < s.size) : 1 ≤ (dec ((li s).drop pos)).2 ∧ pos + (dec ((li s).drop pos)).2 ≤ s.size := by
  have := dec_width _ (drop_ne h)
  rw [List.length_drop, li_len] at this
  omega
theorem pl_at {s : ByteArray} {pos : Nat} (h : pos < s.size) : pl ((li s).drop pos) = (dec ((li s).drop pos)).1 :: pl ((li s).drop (pos + (dec ((li s).drop pos)).2)) := by
  rw [pl_cons _ (drop_ne h), List.drop_drop]

theorem pz_nil : pz [] = -1 := rfl
theorem pz_cons {l : List UInt8} (h : l ≠ []) : pz l = ((dec l).1 : Int) := by unfold pz; rw [if_neg h]

/-- What a round of Less knows. -/
structure Same (a b : List UInt8) (pos : Nat) : Prop where
  le : pos ≤ b.length
  lt : lxl (pl (a.drop pos)) (pl (b.drop pos)) = lxl (pl a) (pl b)

theorem same_zero (a b : List UInt8) : Same a b 0 := ⟨by omega, rfl⟩
/-- Where the places are the same, both go on. -/
theorem same_next {a b : List UInt8} {pos : Nat} (h : Same a b pos) (ha : a.drop pos ≠ []) (e : pz (a.drop pos) = pz (b.drop pos)) : Same a b (pos + (dec (a.drop pos)).2) := by
  have hb : b.drop pos ≠ [] := by
    intro hb
    rw [hb, pz_nil, pz_cons ha] at e
    omega
  rw [pz_cons ha, pz_cons hb] at e
  have e' : (dec (a.drop pos)).1 = (dec (b.drop pos)).1 := by omega
  have w1 := dec_len _ ha
  have w2 := dec_len _ hb
  have w3 := (dec_width _ hb).2.1
  rw [List.length_drop] at w3
  have hw : (dec (a.drop pos)).2 = (dec (b.drop pos)).2 := by rw [w1, w2, e']
  refine ⟨by have := h.le; omega, ?_⟩
  rw [← h.lt, pl_cons _ ha, pl_cons _ hb, e', lxl_same, List.drop_drop, List.drop_drop, hw]
/-- Where they are not, the answer stands. -/
theorem same_ne {a b : List UInt8} {pos : Nat} (h : Same a b pos) (ha : a.drop pos ≠ []) (e : pz (a.drop pos) ≠ pz (b.drop pos)) : decide (pz (a.drop pos) < pz (b.drop pos)) = lxl (pl a) (pl b) := by
  rw [← h.lt]
  by_cases hb : b.drop pos = []
  · rw [hb, pz_nil, pl_nil, lxl_nil, pz_cons ha]
    simp
  · rw [pl_cons _ ha, pl_cons _ hb]
    rw [pz_cons ha, pz_cons hb] at *
    rw [lxl_ne _ _ _ _ (by omega)]
    simp
theorem same_end {a b : List UInt8} {pos : Nat} (h : Same a b pos) (hp : pos = a.length) : decide (a.length < b.length) = lxl (pl a) (pl b) := by
  rw [← h.lt, List.drop_eq_nil_of_le (by omega : a.length ≤ pos), pl_nil]
  by_cases hb : b.drop pos = []
  · have := congrArg List.length hb
    rw [List.length_drop] at this
    simp at this
    rw [hb, pl_nil]
    simp [lxl]
    omega
  · rw [pl_cons _ hb, lxl_first]
    have : 0 < (b.drop pos).length := List.length_pos_iff.mpr hb
    rw [List.length_drop] at this
    simp
    omega

/-- The worlds of a round of Less. -/
structure LessW (w : World) (a : ByteArray) (pos : Nat) (v : World) : Prop where
  bel : Below w.heap.size w v
  it : v.heap[w.heap.size]? = some (.stringIter a pos)
theorem LessW.next {w v v' : World} {a : ByteArray} {pos : Nat} (h : LessW w a pos v) (b : Below v.heap.size v v') : LessW w a pos v' :=
  have hlt : w.heap.size < v.heap.size := (Array.getElem?_eq_some_iff.1 h.it).1
  ⟨h.bel.trans (b.mono (by omega)), (b.block _ hlt).trans h.it⟩
theorem ent30 : ∀ args w, (callFunc 30 args).run Tryz.prog w = .ok (.enter 30 args) w := enters_of Tryz.func30 (by kernel_rfl) rfl

set_option maxHeartbeats 1000000 in
theorem less_any (a b : ByteArray) (_ha : a.size ≤ 1099511627776) (_hb : b.size ≤ 1099511627776) (w : World) :
    Calls Tryz.prog 25 #[.string a, .string b] w fun e w' => e = .returned (.bool (lxl (pl (li a)) (pl (li b)))) ∧ Below w.heap.size w w' := by
  go_enter Tryz.func25, Tryz.ntmps25
  go_wp2_with fail
  go_loopw [] (fun wr => ∃ (pos : Nat), wr.heap[w.heap.size]? = some (.stringIter a pos) ∧ Below w.heap.size w wr ∧ pos ≤ a.size ∧ Same (li a) (li b) pos) (fun wr => a.size - wr.iterPos w.heap.size)
  case atStart => exact ⟨0, World.iter_heap _ _ _, below_iter _ _ _, by omega, same_zero _ _⟩
  case round =>
    obtain ⟨pos, hit, hbel, hp, hS⟩ := hrel
    rename_i wr
    by_cases hlt : pos < a.size
    · have hnx : ∀ ty, (Instr.next (.pointer (some ⟨w.heap.size, 0, none⟩)) true ty).run Tryz.prog wr = _ := fun ty => Lib.run_next_any_at wr w.heap.size a pos ty hit hlt
      rw [decode_eq] at hnx
      have hw := drop_width hlt
      have hit2 := Lib.hid (Lib.iterAt_heap wr w.heap.size a pos (pos + (dec ((li a).drop pos)).2) hit)
      have hbel2 := Lib.hid (Lib.below_iterAt hbel (k := w.heap.size) (by omega) a (pos + (dec ((li a).drop pos)).2))
      have hle : pos ≤ b.size := by have := hS.le; rw [li_len] at this; exact this
      have pa := Lib.hid (fun v => place_any (a.extract pos a.size) v)
      have pb := Lib.hid (fun v => place_any (b.extract pos b.size) v)
      rw [li_extract] at pa pb
      have hyes : Hid (pz ((li a).drop pos) = pz ((li b).drop pos) → Same (li a) (li b) (pos + (dec ((li a).drop pos)).2)) := fun e => same_next hS (drop_ne hlt) e
      have hno : Hid (pz ((li a).drop pos) ≠ pz ((li b).drop pos) → decide (pz ((li a).drop pos) < pz ((li b).drop pos)) = lxl (pl (li a)) (pl (li b))) := fun e => same_ne hS (drop_ne hlt) e
      have hlea : (pos : Int) ≤ (a.size : Int) := by omega
      have hleb : (pos : Int) ≤ (b.size : Int) := by omega
      revert hnx hit2 hbel2 pa pb hyes hno hw
      generalize pz ((li a).drop pos) = x
      generalize pz ((li b).drop pos) = y
      generalize rn (dec ((li a).drop pos)).1 = r
      generalize (dec ((li a).drop pos)).2 = n
      generalize wr.iterAt w.heap.size a (pos + n) = W
      intro hnx hw hit2 hbel2 pa pb hyes hno
      have hip : Hid (wr.iterPos w.heap.size = pos) := by show _ = _; simp [World.iterPos, hit]
      clear hit hS
      go_wp2_with fail
      have hC : LessW w a (pos + n) W.drew := ⟨hbel2.out.drew, hit2.out⟩
      refine wp_region_class (LessW w a (pos + n)) (by kernel_rfl) (by kernel_rfl) hC ?_
      refine wpQuiet_move (by rfl) _ (.inl rfl) (.string a) rfl ?_
      refine wpQuiet_move (by rfl) _ (.inl rfl) (.int .i64 (pos : Int)) rfl ?_
      simp only [Act.put, List.setIfInBounds_toArray, List.set_cons_zero, List.set_cons_succ]
      refine wpQuiet_from (by rfl) 9 (.tmp 13) (.tmp 14) rfl a pos rfl rfl (by omega) Tryz.underlying9 ?_
      refine wpQuiet_call1 (by rfl) 30 (.tmp 15) _ rfl ent30 (.string (a.extract pos a.size)) rfl (.int .i32 x) (fun v hv => (pa.out v).mono fun e v' ⟨he, hb⟩ => ⟨he, hv.next hb⟩) ?_
      simp only [Act.put, List.setIfInBounds_toArray, List.set_cons_zero, List.set_cons_succ]
      refine wpQuiet_move (by rfl) _ (.inl rfl) (.string b) rfl ?_
      refine wpQuiet_move (by rfl) _ (.inl rfl) (.int .i64 (pos : Int)) rfl ?_
      simp only [Act.put, List.setIfInBounds_toArray, List.set_cons_zero, List.set_cons_succ]
      refine wpQuiet_from (by rfl) 9 (.tmp 17) (.tmp 18) rfl b pos rfl rfl (by omega) Tryz.underlying9 ?_
      refine wpQuiet_call1 (by rfl) 30 (.tmp 19) _ rfl ent30 (.string (b.extract pos b.size)) rfl (.int .i32 y) (fun v hv => (pb.out v).mono fun e v' ⟨he, hb⟩ => ⟨he, hv.next hb⟩) ?_
      simp only [Act.put, List.setIfInBounds_toArray, List.set_cons_zero, List.set_cons_succ]
      refine wpQuiet_move (by rfl) _ (.inr rfl) (.int .i32 x) rfl ?_
      refine wpQuiet_move (by rfl) _ (.inr rfl) (.int .i32 y) rfl ?_
      simp only [Act.put, List.setIfInBounds_toArray, List.set_cons_zero, List.set_cons_succ]
      refine wpQuiet_nil ?_
      intro u hu
      by_cases e : x = y
      · have hS2 := hyes.out e
        have e1 : (x != y) = false := by simp [e]
        clear hyes hno
        go_wp2_with fail
        go_roundw
        case rel => exact ⟨pos + n, hu.it, hu.bel, by omega, hS2⟩
        case measure => rw [hip.out]; simp only [World.iterPos, hu.it]; omega
      · have hr := Lib.hid (hno.out e)
        have e1 : (x != y) = true := by simp [e]
        clear hyes hno e
        go_wp2_with fail
        go_ret
        exact ⟨by rw [← hr.out]; rfl, hu.bel⟩
    · have hnx : ∀ ty, (Instr.next (.pointer (some ⟨w.heap.size, 0, none⟩)) true ty).run Tryz.prog wr = _ := fun ty => Lib.run_next_end_at wr w.heap.size a pos ty hit hlt
      have hr := Lib.hid (same_end hS (by rw [li_len]; omega))
      rw [li_len, li_len] at hr
      clear hS hit
      go_wp2_with fail
      go_ret
      exact ⟨by rw [← hr.out]; rfl, hbel⟩

end Go.Proofs.YtphbkbjgjicncaaGreat.nm
