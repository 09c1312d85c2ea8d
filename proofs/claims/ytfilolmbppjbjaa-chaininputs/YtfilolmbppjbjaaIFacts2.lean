/-
  What the inputs of the heads are.
-/
import Derived.Test.YtfilolmbppjbjaaIFacts
import Derived.Test.YtfilolmbppjbjaaQuiets
namespace Go.Proofs.Ytfilolmbppjbjaa
open Go Go.RowKit
set_option linter.unusedVariables false

theorem putE_pos (e : Ev) : 1 ≤ (putE e).length := by
  have key : ∀ n (r : List Pt), 1 ≤ (putL (.kind n :: r)).length := fun n r => by
    have h := (num_len (clI n)).1
    have h3 : putL (.kind n :: r) = num (clI n) ++ putL r := by simp [putL, putP]
    rw [h3, List.length_append]
    omega
  unfold putE partsOf
  repeat' split
  all_goals exact key _ _
theorem slice_mid (b o : Nat) (w : World) : (Instr.sliceAt 26 (.pointer (some ⟨b, o, none⟩)) none none none).run Try.prog w = .ok (.slice (some ⟨b, o, none⟩) 32 32) w := by
  have ht : Try.prog.underlying 26 = some (.array (Try.prog.arrayLen 26) (Try.prog.elem 26)) := by kernel_rfl
  have e1 : Try.prog.elem 26 = 5 := by kernel_rfl
  have e2 : Try.prog.arrayLen 26 = 32 := by kernel_rfl
  rw [run_sliceAt_array_all (P := Try.prog) w 26 ⟨b, o, none⟩ ht, e1, e2, Try.sizeOf5]
  simp [Result.andThen, slicedAt, Addr.add]
theorem conv_mid (v : World) (g o : Nat) (t : TypeId) (cur : Array Value) (l : List UInt8) (hn : l.length = 32) (h : v.heap[g]? = some (.cells cur t)) (hc : ∀ j, j < 32 → cur[o + j]? = (row l)[j]?) :
    (convert 44 9 (.slice (some ⟨g, o, none⟩) 32 32)).run Try.prog v = .ok (.string ⟨l.toArray⟩) v := by
  have key : (convert 44 9 (.slice (some ⟨g, o, none⟩) l.length 32)).run Try.prog v = .ok (.string ⟨l.toArray⟩) v := by
    refine run_convert_bytes_back (P := Try.prog) v 44 9 5 ⟨g, o, none⟩ _ l Try.underlying44 Try.underlying5 Try.underlying9 (fun j hj => ?_)
    rw [Addr.add_mid, cell_of_row v _ _ _ _ _ h, hc j (by omega), row_at _ _ hj, List.getD_eq_getElem?_getD, List.getElem?_eq_getElem hj]; rfl
  rw [hn] at key
  exact key
theorem own_cells {n₀ : Nat} {w : World} {v : Value} {T : List (List UInt8 × List UInt8)} (hT : ∀ x ∈ T, x.2.length = 32) (h : w.ownsRow n₀ 26 32 v T.length (digs T)) : (v = .slice none 0 0 ∧ T = []) ∨ ∃ g cap cur, v = .slice (some ⟨g, 0, none⟩) T.length cap ∧ n₀ ≤ g ∧ w.heap[g]? = some (.cells cur 26) ∧ ∀ k (hk : k < T.length), (∀ u : World, u.heap[g]? = some (.cells cur 26) → (Instr.loadAt 26 (.pointer (some ⟨g, k * 32, none⟩))).run Try.prog u = .ok (.agg (row T[k].2)) u) ∧ ∀ j, j < 32 → cur[k * 32 + j]? = (row T[k].2)[j]? := by
  rcases h.2 with ⟨h1, h0⟩ | ⟨g, cap, cur, h1, h2, h3, h4, h5, h6, h7⟩
  · exact .inl ⟨h1, List.eq_nil_of_length_eq_zero h0⟩
  · refine .inr ⟨g, cap, cur, h1, h2, h3, fun k hk => ?_⟩
    have key : ∀ (T : List (List UInt8 × List UInt8)), (∀ x ∈ T, x.2.length = 32) → ∀ k (hk : k < T.length) j, j < 32 → (digs T)[k * 32 + j]? = (row T[k].2).toList[j]? := by
      intro T
      induction T with
      | nil => intro _ k hk; simp at hk
      | cons x T ih =>
        intro hT k hk j hj
        have hx : (row x.2).toList.length = 32 := by rw [Array.length_toList, row_size, hT x (by simp)]
        have hd : digs (x :: T) = (row x.2).toList ++ digs T := by simp [digs]
        cases k with
        | zero => rw [hd, Nat.zero_mul, Nat.zero_add, List.getElem?_append_left (by omega)]; rfl
        | succ k =>
          rw [hd, List.getElem?_append_right (by omega), hx, show (k + 1) * 32 + j - 32 = k * 32 + j by omega]
          exact ih (fun y hy => hT y (by simp [hy])) k (by simpa using hk) j hj
    have hl : (T[k].2).length = 32 := hT _ (List.getElem_mem hk)
    have cell : ∀ j, j < 32 → cur[k * 32 + j]? = (row T[k].2)[j]? := fun j hj => by
      rw [← Array.getElem?_toList]
      have h8 : (cur.toList.take (T.length * 32))[k * 32 + j]? = (digs T)[k * 32 + j]? := by rw [h7]
      rw [List.getElem?_take_of_lt (by omega)] at h8
      rw [h8, key T hT k hk j hj, Array.getElem?_toList]
    refine ⟨fun u hu => ?_, cell⟩
    have := run_loadAt_mid (P := Try.prog) u g (k * 32) 26 (row T[k].2).toList _ (fun j x hx => by
      have hj : j < 32 := by
        have := (List.getElem?_eq_some_iff.1 hx).1
        rw [Array.length_toList, row_size, hl] at this; exact this
      rw [cell_of_row u g _ _ _ _ hu, cell j hj, ← Array.getElem?_toList]
      exact hx) Try.underlying26 rfl (by rw [Array.length_toList, row_size, hl]; exact info28)
    simpa using this
theorem x_isub {P : Program} {o : Oper} {a : Act} {w : World} (t t' : TypeId) (x y : Operand) (ho : o.op = .binOp .sub t x y t') (m n : Int) (hx : a.eval x = .int .i64 m) (hy : a.eval y = .int .i64 n) (hb : -9223372036854775808 ≤ m - n ∧ m - n ≤ 9223372036854775807) : (execOp a.eval o).run P w = .ok (.value (.int .i64 (m - n))) w := by
  unfold execOp
  simp only [ho, hx, hy]
  have e : IntKind.i64.wrap (m - n) = m - n := by
    simp [IntKind.wrap, IntKind.signed, IntKind.bits]
    omega
  simp [eqGuard, binOp, go_sem, e]
theorem wpQuiet_isub {P : Program} {ops : Array Oper} {rest : List Oper} {o : Oper} {a : Act} {C : World → Prop} {Q : Act → Prop} (hw : Region.wanted o (yielded ops a.tmps) = true) (t t' : TypeId) (x y : Operand) (ho : o.op = .binOp .sub t x y t') (m n : Int) (hx : a.eval x = .int .i64 m) (hy : a.eval y = .int .i64 n) (hb : -9223372036854775808 ≤ m - n ∧ m - n ≤ 9223372036854775807)
    (h : wpQuiet P ops C Q rest (a.put o.dst (.int .i64 (m - n)))) : wpQuiet P ops C Q (o :: rest) a := wpQuiet_val hw _ (fun _ _ => x_isub t t' x y ho m n hx hy hb) h
end Go.Proofs.Ytfilolmbppjbjaa
