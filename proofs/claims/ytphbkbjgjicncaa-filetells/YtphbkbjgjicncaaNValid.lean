/-
  What Valid of the program returns: for every argument of a bounded length.
-/
import Derived.Test.YtphbkbjgjicncaaNLess
namespace Go.Proofs.Ytphbkbjgjicncaa.nm
open Go.RowKit

set_option maxHeartbeats 1000000 in
theorem odd_any (c p b : Nat) (w : World) (hc : w.cell? ⟨b, 0, none⟩ = some (.int .i64 (c : Int))) (_hp : okp p) :
    Calls Try.prog 61 #[.int .i32 (rn p : Nat), .pointer (some ⟨b, 0, none⟩)] w fun e w' => e = .returned (.bool (odd c p)) ∧ w = w' := by
  obtain ⟨r, hr⟩ : ∃ r, rn p = r := ⟨_, rfl⟩
  have hpr : r = 65533 ∨ p = r := by unfold rn at hr; split at hr <;> omega
  rw [hr]
  by_cases h1 : r = 47
  · have e : Hid (odd c p = true) := by show _ = _; unfold odd; rw [if_pos (by omega)]
    have t1 : ((r : Int) == 47) = true := by rw [h1]; rfl
    clear h1 hr hpr
    go_enter Try.func61, Try.ntmps61
    go_wp2_with fail
    go_ret
    exact ⟨by rw [e.out]; rfl, rfl⟩
  have t1 : ((r : Int) == 47) = false := by rw [beq_eq_false_iff_ne]; omega
  by_cases h2 : r = 65533
  · have e : Hid (odd c p = true) := by show _ = _; unfold odd; rw [if_pos (by omega)]
    have t2 : ((r : Int) == 65533) = true := by rw [h2]; rfl
    clear h1 h2 hr hpr
    go_enter Try.func61, Try.ntmps61
    go_wp2_with fail
    go_ret
    exact ⟨by rw [e.out]; rfl, rfl⟩
  have t2 : ((r : Int) == 65533) = false := by rw [beq_eq_false_iff_ne]; omega
  have hpr' : p = r := by omega
  subst hpr'
  by_cases h3 : p = 32
  · have e : Hid (odd c p = ((c : Int) == 0)) := by
      show _ = _; unfold odd; rw [if_neg (by omega), if_pos h3]
      by_cases k : c = 0
      · subst k; rfl
      · simp [k]
    have t3 : ((p : Int) == 32) = true := by rw [h3]; rfl
    clear h1 h2 hr hpr h3
    go_enter Try.func61, Try.ntmps61
    go_wp2_with fail
    go_ret
    exact ⟨by rw [e.out]; rfl, rfl⟩
  have t3 : ((p : Int) == 32) = false := by rw [beq_eq_false_iff_ne]; omega
  have e : Hid (odd c p = decide (p < 32 ∨ (127 ≤ p ∧ p ≤ 159))) := by
    show _ = _; unfold odd; rw [if_neg (by omega), if_neg h3]
  by_cases h4 : p < 32
  · have t4 : decide ((p : Int) < 32) = true := by simp; omega
    have e2 : Hid (odd c p = true) := by show _ = _; rw [e.out]; simp [h4]
    clear h1 h2 hr hpr h3 h4 e
    go_enter Try.func61, Try.ntmps61
    go_wp2_with fail
    go_ret
    exact ⟨by rw [e2.out]; rfl, rfl⟩
  have t4 : decide ((p : Int) < 32) = false := by simp; omega
  by_cases h5 : 127 ≤ p
  · have t5 : decide ((127 : Int) ≤ (p : Int)) = true := by simp; omega
    have e2 : Hid (odd c p = decide ((p : Int) ≤ 159)) := by
      rw [e.out]
      show decide (p < 32 ∨ (127 ≤ p ∧ p ≤ 159)) = decide ((p : Int) ≤ 159)
      rw [decide_eq_decide]; omega
    clear h1 h2 hr hpr h3 h4 h5 e
    go_enter Try.func61, Try.ntmps61
    go_wp2_with fail
    go_ret
    exact ⟨by rw [e2.out]; rfl, rfl⟩
  · have t5 : decide ((127 : Int) ≤ (p : Int)) = false := by simp; omega
    have e2 : Hid (odd c p = false) := by
      rw [e.out]
      show decide (p < 32 ∨ (127 ≤ p ∧ p ≤ 159)) = false
      simp; omega
    clear h1 h2 hr hpr h3 h4 h5 e
    go_enter Try.func61, Try.ntmps61
    go_wp2_with fail
    go_ret
    exact ⟨by rw [e2.out]; rfl, rfl⟩

def vw (w : World) (s : ByteArray) (c pos : Nat) : World := (w.alloc (.cells #[.int .i64 (c : Int)] 3)).iter s pos
theorem vw_size (w : World) (s : ByteArray) (c pos : Nat) : (vw w s c pos).heap.size = w.heap.size + 2 := by
  show ((w.heap.push _).push _).size = _
  simp
theorem vw_cell (w : World) (s : ByteArray) (c pos : Nat) : (vw w s c pos).cell? ⟨w.heap.size, 0, none⟩ = some (.int .i64 (c : Int)) := by
  have h : (vw w s c pos).heap[w.heap.size]? = some (.cells #[.int .i64 (c : Int)] 3) := by
    show ((w.heap.push _).push _)[w.heap.size]? = _
    rw [Array.getElem?_push, if_neg (by simp), Array.getElem?_push, if_pos rfl]
  rw [Lib.cell_of_heap h]; rfl
theorem vw_frozen (w : World) (s : ByteArray) (c pos : Nat) : (vw w s c pos).frozen? ⟨w.heap.size, 0, none⟩ = false := by
  have h : (vw w s c pos).heap[w.heap.size]? = some (.cells #[.int .i64 (c : Int)] 3) := by
    show ((w.heap.push _).push _)[w.heap.size]? = _
    rw [Array.getElem?_push, if_neg (by simp), Array.getElem?_push, if_pos rfl]
  simp [World.frozen?, h]
theorem vw_below (w : World) (s : ByteArray) (c pos : Nat) : Below w.heap.size w (vw w s c pos) :=
  ((Below.refl _ _).alloc (Nat.le_refl _) _).alloc (by simp) _
theorem vw_next (w : World) (s : ByteArray) (c pos : Nat) (h : pos < s.size) (ty : TypeId) :
    (Instr.next (.pointer (some ⟨w.heap.size + 1, 0, none⟩)) true ty).run Try.prog (vw w s c pos) = .ok (.tuple #[.bool true, .int .i64 pos, .int .i32 (rn (dec ((li s).drop pos)).1 : Nat)]) (vw w s c (pos + (dec ((li s).drop pos)).2)) := by
  have := next_at (w.alloc (.cells #[.int .i64 (c : Int)] 3)) s pos h ty
  simpa [vw] using this
theorem vw_end (w : World) (s : ByteArray) (c pos : Nat) (h : ¬ pos < s.size) (ty : TypeId) :
    (Instr.next (.pointer (some ⟨w.heap.size + 1, 0, none⟩)) true ty).run Try.prog (vw w s c pos) = .ok (.tuple #[.bool false]) (vw w s c pos) := by
  have := run_next_end (P := Try.prog) (w.alloc (.cells #[.int .i64 (c : Int)] 3)) s pos ty h
  simpa [vw] using this
theorem vw_pos (w : World) (s : ByteArray) (c pos : Nat) : (vw w s c pos).iterPos (w.heap.size + 1) = pos := by
  have := World.iterPos_iter (w.alloc (.cells #[.int .i64 (c : Int)] 3)) s pos
  simpa [vw] using this
theorem vw_set (w : World) (s : ByteArray) (c pos : Nat) : (vw w s c pos).setCell ⟨w.heap.size, 0, none⟩ (.int .i64 ((c : Int) + 1)) = vw w s (c + 1) pos := by
  simp only [vw, World.iter, World.alloc, World.setCell]
  congr 1
  apply Array.ext_getElem?
  intro i
  rw [Array.getElem?_modify, Array.getElem?_push, Array.getElem?_push, Array.getElem?_push, Array.getElem?_push]
  simp only [Array.size_push]
  by_cases h : w.heap.size = i
  · subst h
    simp
  · rw [if_neg h]
    by_cases k : i = w.heap.size + 1
    · rw [if_pos k, if_pos k]
    · rw [if_neg k, if_neg k, if_neg (by omega), if_neg (by omega)]

set_option maxHeartbeats 1000000 in
theorem valid_any (s : ByteArray) (hs : s.size ≤ 1099511627776) (w : World) :
    Calls Try.prog 39 #[.string s] w fun e w' => e = .returned (.bool (vld (li s))) ∧ Below w.heap.size w w' := by
  go_enter Try.func39, Try.ntmps39
  go_wp2_with fail
  go_loopw [4] (fun v wr => ∃ (pos c L : Nat), v = .int .i32 (L : Int) ∧ wr = vw w s c pos ∧ pos ≤ s.size ∧ c ≤ 24 ∧ Hid (vgo (pl ((li s).drop pos)) c L = vld (li s))) (fun _ wr => s.size - wr.iterPos (w.heap.size + 1))
  case atStart => exact ⟨0, 0, 32, rfl, rfl, by omega, by omega, rfl⟩
  case round =>
    obtain ⟨pos, c, L, rfl, rfl, hp, hc, hn⟩ := hrel
    by_cases hlt : pos < s.size
    · have hnx := fun ty => vw_next w s c pos hlt ty
      have hw := drop_width hlt
      have hok := Lib.hid (dec_okp _ (drop_ne hlt))
      have hn2 : Hid (vld (li s) = if c = 24 ∨ odd c (dec ((li s).drop pos)).1 = true then false else vgo (pl ((li s).drop (pos + (dec ((li s).drop pos)).2))) (c + 1) (rn (dec ((li s).drop pos)).1)) := by
        show _ = _
        rw [← hn.out, pl_at hlt]; rfl
      revert hnx hw hn2 hok
      generalize (dec ((li s).drop pos)).2 = n
      generalize (dec ((li s).drop pos)).1 = p
      intro hnx hw hok hn2
      have hcell := vw_cell w s c (pos + n)
      by_cases h24 : c = 24
      · have e : Hid (vld (li s) = false) := by show _ = _; rw [hn2.out, if_pos (.inl h24)]
        have t1 : ((c : Int) == 24) = true := by rw [h24]; rfl
        clear h24 hn2 hn
        go_wp2_with fail
        go_ret
        exact ⟨by rw [e.out]; rfl, vw_below _ _ _ _⟩
      · have t1 : ((c : Int) == 24) = false := by rw [beq_eq_false_iff_ne]; omega
        have hodd := Lib.hid (odd_any c p w.heap.size (vw w s c (pos + n)) hcell hok.out)
        cases ho : odd c p
        · rw [ho] at hodd
          have e : Hid (vgo (pl ((li s).drop (pos + n))) (c + 1) (rn p) = vld (li s)) := by show _ = _; rw [hn2.out, if_neg (by rw [ho]; simp; omega)]
          have hset := vw_set w s c (pos + n)
          have hfr := vw_frozen w s c (pos + n)
          have hpos := Lib.hid (And.intro (vw_pos w s c pos) (vw_pos w s (c + 1) (pos + n)))
          clear hn2 hn ho
          go_wp2_with fail
          refine hodd.out.mono ?_
          rintro e w' ⟨rfl, rfl⟩
          go_wp2_with fail
          go_roundw
          case rel => exact ⟨pos + n, c + 1, rn p, rfl, rfl, by omega, by omega, e⟩
          case measure => rw [hpos.out.1, hpos.out.2]; omega
        · rw [ho] at hodd
          have e : Hid (vld (li s) = false) := by show _ = _; rw [hn2.out, if_pos (.inr ho)]
          clear hn2 hn ho
          go_wp2_with fail
          refine hodd.out.mono ?_
          rintro e w' ⟨rfl, rfl⟩
          go_wp2_with fail
          go_ret
          exact ⟨by rw [e.out]; rfl, vw_below _ _ _ _⟩
    · have hnx := fun ty => vw_end w s c pos hlt ty
      have e : Hid (vld (li s) = ((L : Int) != 32)) := by
        show _ = _
        rw [← hn.out, drop_end hlt]
        show decide (L ≠ 32) = _
        by_cases k : L = 32
        · subst k; rfl
        · have : ((L : Int) == 32) = false := by rw [beq_eq_false_iff_ne]; omega
          simp [k, bne, this]
      go_wp2_with fail
      go_ret
      exact ⟨by rw [e.out]; rfl, vw_below _ _ _ _⟩

end Go.Proofs.Ytphbkbjgjicncaa.nm
