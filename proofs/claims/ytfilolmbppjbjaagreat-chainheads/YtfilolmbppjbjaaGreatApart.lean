/-
  What 'apart' returns: two rows of texts, gone through from behind.
-/
import Derived.Test.YtfilolmbppjbjaaGreatGather
import Derived.WalkMore
import Derived.ScopeJumps
namespace Go.Proofs.YtfilolmbppjbjaaGreat
open Go Go.RowKit

def aptR : List (List UInt8) → List (List UInt8) → Option (List UInt8 × List UInt8)
  | x :: xs, y :: ys => if x = y then aptR xs ys else some (x, y)
  | _, _ => none
theorem aptR_nil (x : List (List UInt8)) : aptR x [] = none := by cases x <;> rfl
/-- What it answers. -/
def apR (a b : List (List UInt8)) : Value := match aptR a.reverse b.reverse with
  | some (x, y) => .tuple #[.string ⟨x.toArray⟩, .string ⟨y.toArray⟩, .bool true]
  | none => .tuple #[.string ⟨#[]⟩, .string ⟨#[]⟩, .bool false]
theorem apR_none {a b : List (List UInt8)} (h : aptR a.reverse b.reverse = none) : apR a b = .tuple #[.string ⟨#[]⟩, .string ⟨#[]⟩, .bool false] := by unfold apR; rw [h]
theorem apR_some {a b : List (List UInt8)} {x y : List UInt8} (h : aptR a.reverse b.reverse = some (x, y)) : apR a b = .tuple #[.string ⟨x.toArray⟩, .string ⟨y.toArray⟩, .bool true] := by unfold apR; rw [h]

/-- A slice that begins at p holds these texts, and lies below B. -/
def TxAt (B : Nat) (w : World) (p : Option Addr) (l : List (List UInt8)) : Prop :=
  l = [] ∨ ∃ g, p = some ⟨g, 0, none⟩ ∧ g < B ∧ ∀ k (h : k < l.length), w.cell? ⟨g, k, none⟩ = some (.string ⟨l[k].toArray⟩)
theorem TxAt.at {B : Nat} {w : World} {p : Option Addr} {l : List (List UInt8)} (h : TxAt B w p l) (k : Nat) (hk : k < l.length) : ∃ g, p = some ⟨g, 0, none⟩ ∧ ∀ v, Below B w v → v.cell? ⟨g, k, none⟩ = some (.string ⟨l[k].toArray⟩) := by
  rcases h with h | ⟨g, hp, hg, hc⟩
  · subst h; simp at hk
  · exact ⟨g, hp, fun v hb => by rw [hb.cell (p := ⟨g, k, none⟩) hg]; exact hc k hk⟩
theorem index78 (g n c k : Nat) (hk : k < n) (v : World) : (Instr.indexAt 82 (.slice (some ⟨g, 0, none⟩) n c) (.int .i64 (k : Int))).run Tryz.prog v = .ok (.pointer (some ⟨g, k, none⟩)) v := by
  rw [run_indexAt_slice (P := Tryz.prog) v 82 ⟨g, 0, none⟩ n c .i64 (k : Int) (by kernel_rfl)]
  have e1 : Tryz.prog.elem 82 = 9 := by kernel_rfl
  simp [e1, Tryz.sizeOf9, hk, Addr.add_mid]
section
variable {P : Program} {ops : Array Oper} {C : World → Prop} {Q : Act → Prop} {a : Act} {o : Oper} {rest : List Oper}
theorem wpQuiet_index (hw : Region.wanted o (yielded ops a.tmps) = true) (t : TypeId) (x y : Operand) (ho : o.op = .indexAddr t x y) (u i : Value) (hx : a.eval x = u) (hy : a.eval y = i) (v : Value) (hv : ∀ w, (Instr.indexAt t u i).run P w = .ok v w)
    (h : wpQuiet P ops C Q rest (a.put o.dst v)) : wpQuiet P ops C Q (o :: rest) a :=
  wpQuiet_val hw v (fun w _ => by unfold execOp; simp only [ho, hx, hy, Sem.run_bind, hv, Result.andThen_ok, Sem.run_pure]) h
end

set_option maxRecDepth 100000 in
set_option maxHeartbeats 1000000 in
theorem apart_any (a b : List (List UInt8)) (hal : a.length ≤ 2000) (hbl : b.length ≤ 2000) (pa pb : Option Addr) (ca cb : Nat) (w : World) (ha : Hid (TxAt w.heap.size w pa a)) (hb : Hid (TxAt w.heap.size w pb b)) :
    Calls Tryz.prog 48 #[.slice pa a.length ca, .slice pb b.length cb] w fun r w' => r = .returned (apR a b) ∧ Below w.heap.size w w' := by
  go_enter Tryz.func48, Tryz.ntmps48
  go_wp2_with fail
  refine wp_scope_jumps 0 (fun a' w' => KW w.heap.size w [] w' ∧ ∃ (m k : Nat) (u9 u10 u11 u12 u13 u14 u15 u16 u17 u18 u19 u20 u21 u22 u23 u24 u25 u26 u27 u28 u29 u30 u31 u32 u33 u34 u35 u36 u37 u38 u39 u40 u41 : Value), a' = { tmps := #[.slice pa a.length ca, .slice pb b.length cb, undef, undef, .string ⟨#[]⟩, .string ⟨#[]⟩, .bool false, .int .i64 ((m : Int) - 1), .int .i64 ((k : Int) - 1), u9, u10, u11, u12, u13, u14, u15, u16, u17, u18, u19, u20, u21, u22, u23, u24, u25, u26, u27, u28, u29, u30, u31, u32, u33, u34, u35, u36, u37, u38, u39, u40, u41], defers := [] } ∧ m ≤ a.length ∧ k ≤ b.length ∧ Hid (aptR (a.take m).reverse (b.take k).reverse = aptR a.reverse b.reverse)) (fun a' _ => (intOf (a'.tmps.getD 7 undef) + 1).toNat) rfl ?_ ?_
  · go_wp2_with fail
    go_step3
    have hm : a.length ≤ a.length := Nat.le_refl _
    have hk : b.length ≤ b.length := Nat.le_refl _
    have hap : Hid (aptR (a.take a.length).reverse (b.take b.length).reverse = aptR a.reverse b.reverse) := Lib.hid (by rw [List.take_length, List.take_length])
    have hW := Lib.hid (KW.start w)
    by_cases hm0 : a.length = 0
    · have em : (a.length : Int) - 1 = -1 := by omega
      have hres : Hid (aptR a.reverse b.reverse = none) := Lib.hid (by rw [← hap.out, hm0]; simp [aptR])
      simp only [em]
      clear em
      go_wp2_with fail
      simp only [Exit.jump]
      go_ret3
      exact ⟨by rw [apR_none hres.out]; rfl, hW.out.bel⟩
    · obtain ⟨m, hm1⟩ : ∃ m, a.length = m + 1 := ⟨a.length - 1, by omega⟩
      have em : (a.length : Int) - 1 = (m : Int) := by omega
      by_cases hk0 : b.length = 0
      · have ek : (b.length : Int) - 1 = -1 := by omega
        have hres : Hid (aptR a.reverse b.reverse = none) := Lib.hid (by rw [← hap.out, hk0]; simp [aptR_nil])
        have t1 : ¬ ((m : Int) < 0) := by omega
        simp only [em, ek]
        clear em ek
        go_wp2_with fail
        simp only [Exit.jump]
        go_ret3
        exact ⟨by rw [apR_none hres.out]; rfl, hW.out.bel⟩
      · obtain ⟨k, hk1⟩ : ∃ k, b.length = k + 1 := ⟨b.length - 1, by omega⟩
        have ek : (b.length : Int) - 1 = (k : Int) := by omega
        have t1 : ¬ ((m : Int) < 0) := by omega
        have t2 : ¬ ((k : Int) < 0) := by omega
        rw [hm1, hk1] at hap
        simp only [em, ek]
        clear em ek
        have hma : m < a.length := by omega
        have hkb : k < b.length := by omega
        obtain ⟨ga, rfl, hga⟩ := ha.out.at m hma
        obtain ⟨gb, rfl, hgb⟩ := hb.out.at k hkb
        have hra : Hid ((a.take (m + 1)).reverse = a[m] :: (a.take m).reverse) := Lib.hid (by rw [List.take_succ_eq_append_getElem hma]; simp)
        have hrb : Hid ((b.take (k + 1)).reverse = b[k] :: (b.take k).reverse) := Lib.hid (by rw [List.take_succ_eq_append_getElem hkb]; simp)
        rw [hra.out, hrb.out] at hap
        have hWd := Lib.hid hW.out.drew
        have hga' := Lib.hid hga
        have hgb' := Lib.hid hgb
        have hiA : Hid (∀ v, (Instr.indexAt 82 (.slice (some ⟨ga, 0, none⟩) a.length ca) (.int .i64 (m : Int))).run Tryz.prog v = .ok (.pointer (some ⟨ga, m, none⟩)) v) := Lib.hid (fun v => index78 ga a.length ca m hma v)
        have hiB : Hid (∀ v, (Instr.indexAt 82 (.slice (some ⟨gb, 0, none⟩) b.length cb) (.int .i64 (k : Int))).run Tryz.prog v = .ok (.pointer (some ⟨gb, k, none⟩)) v) := Lib.hid (fun v => index78 gb b.length cb k hkb v)
        clear hra hrb hga hgb
        generalize a[m] = A at *
        generalize b[k] = B at *
        go_wp2_with (refine park_region (fun Pk hX => ?_))
        refine hX.out ?_
        refine wp_region_class (KW w.heap.size w []) (by kernel_rfl) (by kernel_rfl) hWd.out ?_
        refine wpQuiet_move (by rfl) _ (.inl rfl) (.slice (some ⟨ga, 0, none⟩) a.length ca) rfl ?_
        refine wpQuiet_move (by rfl) _ (.inl rfl) (.int .i64 (m : Int)) rfl ?_
        refine wpQuiet_index (by rfl) 82 _ _ rfl _ _ rfl rfl _ hiA.out ?_
        refine wpQuiet_cell (by rfl) 9 _ rfl ga m rfl Tryz.isAgg9 (.string ⟨A.toArray⟩) (fun v hv => hga'.out v hv.bel) ?_
        simp only [Act.put, List.setIfInBounds_toArray, List.set_cons_zero, List.set_cons_succ]
        refine wpQuiet_move (by rfl) _ (.inl rfl) (.slice (some ⟨gb, 0, none⟩) b.length cb) rfl ?_
        refine wpQuiet_move (by rfl) _ (.inl rfl) (.int .i64 (k : Int)) rfl ?_
        refine wpQuiet_index (by rfl) 82 _ _ rfl _ _ rfl rfl _ hiB.out ?_
        refine wpQuiet_cell (by rfl) 9 _ rfl gb k rfl Tryz.isAgg9 (.string ⟨B.toArray⟩) (fun v hv => hgb'.out v hv.bel) ?_
        simp only [Act.put, List.setIfInBounds_toArray, List.set_cons_zero, List.set_cons_succ]
        by_cases he : A = B
        · subst he
          refine wpQuiet_sne (by rfl) _ _ _ _ rfl ⟨A.toArray⟩ ⟨A.toArray⟩ rfl rfl false (by simp) ?_
          simp only [Act.put, List.setIfInBounds_toArray, List.set_cons_zero, List.set_cons_succ]
          refine wpQuiet_nil ?_
          intro v hv
          have hv' := Lib.hid hv
          clear hv
          go_wp2_with fail
          go_step3
          refine ⟨rfl, hv'.out, m, k, _, _, _, _, _, _, _, _, _, _, _, _, _, _, _, _, _, _, _, _, _, _, _, _, _, _, _, _, _, _, _, _, _, rfl, by omega, by omega, Lib.hid (by rw [← hap.out]; simp [aptR])⟩
        · refine wpQuiet_sne (by rfl) _ _ _ _ rfl ⟨A.toArray⟩ ⟨B.toArray⟩ rfl rfl true (by rw [name_beq]; simpa using he) ?_
          simp only [Act.put, List.setIfInBounds_toArray, List.set_cons_zero, List.set_cons_succ]
          refine wpQuiet_nil ?_
          intro v hv
          have hvd := Lib.hid hv.drew
          have hres : Hid (aptR a.reverse b.reverse = some (A, B)) := Lib.hid (by rw [← hap.out]; unfold aptR; rw [if_neg he])
          clear hv
          go_wp2_with (refine park_region (fun Pk hX => ?_))
          refine hX.out ?_
          refine wp_region_class (KW w.heap.size w []) (by kernel_rfl) (by kernel_rfl) hvd.out ?_
          refine wpQuiet_move (by rfl) _ (.inl rfl) (.slice (some ⟨ga, 0, none⟩) a.length ca) rfl ?_
          refine wpQuiet_move (by rfl) _ (.inl rfl) (.int .i64 (m : Int)) rfl ?_
          refine wpQuiet_index (by rfl) 82 _ _ rfl _ _ rfl rfl _ hiA.out ?_
          refine wpQuiet_cell (by rfl) 9 _ rfl ga m rfl Tryz.isAgg9 (.string ⟨A.toArray⟩) (fun v hv => hga'.out v hv.bel) ?_
          simp only [Act.put, List.setIfInBounds_toArray, List.set_cons_zero, List.set_cons_succ]
          refine wpQuiet_move (by rfl) _ (.inl rfl) (.slice (some ⟨gb, 0, none⟩) b.length cb) rfl ?_
          refine wpQuiet_move (by rfl) _ (.inl rfl) (.int .i64 (k : Int)) rfl ?_
          refine wpQuiet_index (by rfl) 82 _ _ rfl _ _ rfl rfl _ hiB.out ?_
          refine wpQuiet_cell (by rfl) 9 _ rfl gb k rfl Tryz.isAgg9 (.string ⟨B.toArray⟩) (fun v hv => hgb'.out v hv.bel) ?_
          simp only [Act.put, List.setIfInBounds_toArray, List.set_cons_zero, List.set_cons_succ]
          refine wpQuiet_move (by rfl) _ (.inr rfl) (.string ⟨A.toArray⟩) rfl ?_
          refine wpQuiet_move (by rfl) _ (.inr rfl) (.string ⟨B.toArray⟩) rfl ?_
          refine wpQuiet_move (by rfl) _ (.inr rfl) (.bool true) rfl ?_
          simp only [Act.put, List.setIfInBounds_toArray, List.set_cons_zero, List.set_cons_succ]
          refine wpQuiet_nil ?_
          intro v2 hv2
          have hv2' := Lib.hid hv2
          clear hv2
          go_wp2_with fail
          simp only [Exit.jump]
          go_ret3
          exact ⟨by rw [apR_some hres.out]; rfl, hv2'.out.bel⟩
  · rintro a' wv ⟨hW, m0, k0, u9, u10, u11, u12, u13, u14, u15, u16, u17, u18, u19, u20, u21, u22, u23, u24, u25, u26, u27, u28, u29, u30, u31, u32, u33, u34, u35, u36, u37, u38, u39, u40, u41, rfl, hm, hk, hap⟩
    have hW := Lib.hid hW
    by_cases hm0 : m0 = 0
    · have em : (m0 : Int) - 1 = -1 := by omega
      have hres : Hid (aptR a.reverse b.reverse = none) := Lib.hid (by rw [← hap.out, hm0]; simp [aptR])
      simp only [em]
      clear em
      go_wp2_with fail
      simp only [Exit.jump]
      go_ret3
      exact ⟨by rw [apR_none hres.out]; rfl, hW.out.bel⟩
    · obtain ⟨m, hm1⟩ : ∃ m, m0 = m + 1 := ⟨m0 - 1, by omega⟩
      have em : (m0 : Int) - 1 = (m : Int) := by omega
      by_cases hk0 : k0 = 0
      · have ek : (k0 : Int) - 1 = -1 := by omega
        have hres : Hid (aptR a.reverse b.reverse = none) := Lib.hid (by rw [← hap.out, hk0]; simp [aptR_nil])
        have t1 : ¬ ((m : Int) < 0) := by omega
        simp only [em, ek]
        clear em ek
        go_wp2_with fail
        simp only [Exit.jump]
        go_ret3
        exact ⟨by rw [apR_none hres.out]; rfl, hW.out.bel⟩
      · obtain ⟨k, hk1⟩ : ∃ k, k0 = k + 1 := ⟨k0 - 1, by omega⟩
        have ek : (k0 : Int) - 1 = (k : Int) := by omega
        have t1 : ¬ ((m : Int) < 0) := by omega
        have t2 : ¬ ((k : Int) < 0) := by omega
        rw [hm1, hk1] at hap
        simp only [em, ek]
        clear em ek
        have hma : m < a.length := by omega
        have hkb : k < b.length := by omega
        obtain ⟨ga, rfl, hga⟩ := ha.out.at m hma
        obtain ⟨gb, rfl, hgb⟩ := hb.out.at k hkb
        have hra : Hid ((a.take (m + 1)).reverse = a[m] :: (a.take m).reverse) := Lib.hid (by rw [List.take_succ_eq_append_getElem hma]; simp)
        have hrb : Hid ((b.take (k + 1)).reverse = b[k] :: (b.take k).reverse) := Lib.hid (by rw [List.take_succ_eq_append_getElem hkb]; simp)
        rw [hra.out, hrb.out] at hap
        have hWd := Lib.hid hW.out.drew
        have hga' := Lib.hid hga
        have hgb' := Lib.hid hgb
        have hiA : Hid (∀ v, (Instr.indexAt 82 (.slice (some ⟨ga, 0, none⟩) a.length ca) (.int .i64 (m : Int))).run Tryz.prog v = .ok (.pointer (some ⟨ga, m, none⟩)) v) := Lib.hid (fun v => index78 ga a.length ca m hma v)
        have hiB : Hid (∀ v, (Instr.indexAt 82 (.slice (some ⟨gb, 0, none⟩) b.length cb) (.int .i64 (k : Int))).run Tryz.prog v = .ok (.pointer (some ⟨gb, k, none⟩)) v) := Lib.hid (fun v => index78 gb b.length cb k hkb v)
        clear hra hrb hga hgb
        generalize a[m] = A at *
        generalize b[k] = B at *
        go_wp2_with (refine park_region (fun Pk hX => ?_))
        refine hX.out ?_
        refine wp_region_class (KW w.heap.size w []) (by kernel_rfl) (by kernel_rfl) hWd.out ?_
        refine wpQuiet_move (by rfl) _ (.inl rfl) (.slice (some ⟨ga, 0, none⟩) a.length ca) rfl ?_
        refine wpQuiet_move (by rfl) _ (.inl rfl) (.int .i64 (m : Int)) rfl ?_
        refine wpQuiet_index (by rfl) 82 _ _ rfl _ _ rfl rfl _ hiA.out ?_
        refine wpQuiet_cell (by rfl) 9 _ rfl ga m rfl Tryz.isAgg9 (.string ⟨A.toArray⟩) (fun v hv => hga'.out v hv.bel) ?_
        simp only [Act.put, List.setIfInBounds_toArray, List.set_cons_zero, List.set_cons_succ]
        refine wpQuiet_move (by rfl) _ (.inl rfl) (.slice (some ⟨gb, 0, none⟩) b.length cb) rfl ?_
        refine wpQuiet_move (by rfl) _ (.inl rfl) (.int .i64 (k : Int)) rfl ?_
        refine wpQuiet_index (by rfl) 82 _ _ rfl _ _ rfl rfl _ hiB.out ?_
        refine wpQuiet_cell (by rfl) 9 _ rfl gb k rfl Tryz.isAgg9 (.string ⟨B.toArray⟩) (fun v hv => hgb'.out v hv.bel) ?_
        simp only [Act.put, List.setIfInBounds_toArray, List.set_cons_zero, List.set_cons_succ]
        by_cases he : A = B
        · subst he
          refine wpQuiet_sne (by rfl) _ _ _ _ rfl ⟨A.toArray⟩ ⟨A.toArray⟩ rfl rfl false (by simp) ?_
          simp only [Act.put, List.setIfInBounds_toArray, List.set_cons_zero, List.set_cons_succ]
          refine wpQuiet_nil ?_
          intro v hv
          have hv' := Lib.hid hv
          clear hv
          go_wp2_with fail
          go_step3
          refine ⟨rfl, ⟨hv'.out, m, k, _, _, _, _, _, _, _, _, _, _, _, _, _, _, _, _, _, _, _, _, _, _, _, _, _, _, _, _, _, _, _, _, _, rfl, by omega, by omega, Lib.hid (by rw [← hap.out]; simp [aptR])⟩, by simp [intOf]⟩
        · refine wpQuiet_sne (by rfl) _ _ _ _ rfl ⟨A.toArray⟩ ⟨B.toArray⟩ rfl rfl true (by rw [name_beq]; simpa using he) ?_
          simp only [Act.put, List.setIfInBounds_toArray, List.set_cons_zero, List.set_cons_succ]
          refine wpQuiet_nil ?_
          intro v hv
          have hvd := Lib.hid hv.drew
          have hres : Hid (aptR a.reverse b.reverse = some (A, B)) := Lib.hid (by rw [← hap.out]; unfold aptR; rw [if_neg he])
          clear hv
          go_wp2_with (refine park_region (fun Pk hX => ?_))
          refine hX.out ?_
          refine wp_region_class (KW w.heap.size w []) (by kernel_rfl) (by kernel_rfl) hvd.out ?_
          refine wpQuiet_move (by rfl) _ (.inl rfl) (.slice (some ⟨ga, 0, none⟩) a.length ca) rfl ?_
          refine wpQuiet_move (by rfl) _ (.inl rfl) (.int .i64 (m : Int)) rfl ?_
          refine wpQuiet_index (by rfl) 82 _ _ rfl _ _ rfl rfl _ hiA.out ?_
          refine wpQuiet_cell (by rfl) 9 _ rfl ga m rfl Tryz.isAgg9 (.string ⟨A.toArray⟩) (fun v hv => hga'.out v hv.bel) ?_
          simp only [Act.put, List.setIfInBounds_toArray, List.set_cons_zero, List.set_cons_succ]
          refine wpQuiet_move (by rfl) _ (.inl rfl) (.slice (some ⟨gb, 0, none⟩) b.length cb) rfl ?_
          refine wpQuiet_move (by rfl) _ (.inl rfl) (.int .i64 (k : Int)) rfl ?_
          refine wpQuiet_index (by rfl) 82 _ _ rfl _ _ rfl rfl _ hiB.out ?_
          refine wpQuiet_cell (by rfl) 9 _ rfl gb k rfl Tryz.isAgg9 (.string ⟨B.toArray⟩) (fun v hv => hgb'.out v hv.bel) ?_
          simp only [Act.put, List.setIfInBounds_toArray, List.set_cons_zero, List.set_cons_succ]
          refine wpQuiet_move (by rfl) _ (.inr rfl) (.string ⟨A.toArray⟩) rfl ?_
          refine wpQuiet_move (by rfl) _ (.inr rfl) (.string ⟨B.toArray⟩) rfl ?_
          refine wpQuiet_move (by rfl) _ (.inr rfl) (.bool true) rfl ?_
          simp only [Act.put, List.setIfInBounds_toArray, List.set_cons_zero, List.set_cons_succ]
          refine wpQuiet_nil ?_
          intro v2 hv2
          have hv2' := Lib.hid hv2
          clear hv2
          go_wp2_with fail
          simp only [Exit.jump]
          go_ret3
          exact ⟨by rw [apR_some hres.out]; rfl, hv2'.out.bel⟩
end Go.Proofs.YtfilolmbppjbjaaGreat
