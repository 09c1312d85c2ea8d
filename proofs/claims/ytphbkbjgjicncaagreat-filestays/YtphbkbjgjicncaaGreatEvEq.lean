/-
  Two events that are compared.
-/
import Derived.Test.YtphbkbjgjicncaaGreatEv0
import Derived.ChangeKeysEq
import Derived.Laws.StructEq
namespace Go.Proofs.YtphbkbjgjicncaaGreat
open Go Go.RowKit
open sh (row_at)

set_option maxRecDepth 100000 in
theorem part5 (x : List UInt8) (i : Nat) (h : i < x.length) (w : World) : (part 5 (row x) i).run Tryz.prog w = .ok (.int .u8 ((x.getD i 0).toNat : Int)) w := by
  unfold part
  simp only [Sem.run_bind, Tryz.isAgg5, Result.andThen_ok]
  rw [row_at x i h]; rfl
set_option maxRecDepth 100000 in
theorem items5 (d : Nat) (x y : List UInt8) (w : World) : ∀ is : List Nat, (∀ i ∈ is, i < x.length ∧ i < y.length) → (Op.eqItems (d + 1) 5 1 (row x) (row y) is).run Tryz.prog w = .ok (is.all fun i => x.getD i 0 == y.getD i 0) w
  | [], _ => rfl
  | i :: is, h => by
    have ih := items5 d x y w is (fun j hj => h j (List.mem_cons_of_mem _ hj))
    obtain ⟨h1, h2⟩ := h i List.mem_cons_self
    have he := run_equalIn_int (P := Tryz.prog) w d 5 .u8 .u8 ((x.getD i 0).toNat : Int) ((y.getD i 0).toNat : Int) Tryz.underlying5
    simp only [Op.eqItems, Sem.run_bind, Nat.mul_one, part5 x i h1, part5 y i h2, Result.andThen_ok, he]
    by_cases e : x.getD i 0 = y.getD i 0
    · have e1 : (((x.getD i 0).toNat : Int) == ((y.getD i 0).toNat : Int)) = true := by rw [e]; simp
      rw [e1, List.all_cons, e]
      simpa using ih
    · have e1 : (((x.getD i 0).toNat : Int) == ((y.getD i 0).toNat : Int)) = false := by
        rw [beq_eq_false_iff_ne]; intro h; exact e (UInt8.toNat_inj.mp (by omega))
      have e2 : (x.getD i 0 == y.getD i 0) = false := by rw [beq_eq_false_iff_ne]; exact e
      rw [e1, List.all_cons, e2]
      rfl
set_option maxRecDepth 100000 in
theorem all_eq (x y : List UInt8) (hx : x.length = 32) (hy : y.length = 32) : ((List.range 32).all fun i => x.getD i 0 == y.getD i 0) = (x == y) := by
  rw [Bool.eq_iff_iff, List.all_eq_true, beq_iff_eq]
  constructor
  · intro h
    apply List.ext_getElem (by omega)
    intro i h1 h2
    have := h i (List.mem_range.2 (by omega))
    rw [beq_iff_eq, List.getD_eq_getElem?_getD, List.getD_eq_getElem?_getD, List.getElem?_eq_getElem h1, List.getElem?_eq_getElem h2] at this
    exact this
  · intro h i _; rw [h]; simp
theorem eql_digd (d : Nat) (x y : List UInt8) (hx : x.length = 32) (hy : y.length = 32) (w : World) : (Op.equalIn (d + 2) 33 (.agg (row x)) (.agg (row y))).run Tryz.prog w = .ok (x == y) w := by
  obtain ⟨i, hi⟩ := info_of_underlying (P := Tryz.prog) Tryz.underlying5
  rw [run_equalIn_array (P := Tryz.prog) w (d + 1) (row x) (row y) Tryz.underlying33 hi]
  have e : Tryz.prog.cellsOf 5 = 1 := by kernel_rfl
  rw [e, items5 d x y w _ (fun i hi => by have := List.mem_range.1 hi; omega), all_eq x y hx hy]
def evB (a b : Ev) : Bool := a.kind == b.kind && (a.id == b.id && (a.name == b.name && (a.time == b.time && (a.len == b.len && a.sum == b.sum))))
theorem evB_iff (a b : Ev) : evB a b = true ↔ a = b := by
  cases a; cases b
  simp [evB]
theorem fields33 : (Tryz.prog.fieldsOf 35).toList.map (fun f => (f.name != "_", f.type, f.offset)) = [(true, 29, 0), (true, 3, 1), (true, 9, 2), (true, 3, 3), (true, 3, 4), (true, 33, 5)] := by kernel_rfl
theorem part_one (t : TypeId) (c : Array Value) (i : Nat) (v : Value) (ha : ∀ w, (isAgg t).run Tryz.prog w = .ok false w) (h : c[i]? = some v) (w : World) : (part t c i).run Tryz.prog w = .ok v w := by
  unfold part
  simp only [Sem.run_bind, ha, Result.andThen_ok]
  rw [h]; rfl
theorem eqf_step {P : Program} {d : Nat} {xs ys : Array Value} {f : Field} {fs : List Field} {a b : Value} {r q : Bool} {w : World} (hn : (f.name != "_") = true) (ha : (part f.type xs f.offset).run P w = .ok a w) (hb : (part f.type ys f.offset).run P w = .ok b w)
    (hr : (Op.equalIn d f.type a b).run P w = .ok r w) (hq : (Op.eqFields d xs ys fs).run P w = .ok q w) : (Op.eqFields d xs ys (f :: fs)).run P w = .ok (r && q) w := by
  have hn' : f.name ≠ "_" := by simpa using hn
  unfold Op.eqFields
  rw [if_pos hn']
  simp only [Sem.run_bind, ha, hb, hr, Result.andThen_ok]
  cases r
  · rfl
  · simpa using hq
theorem part_sum (e : Ev) (hs : e.sum.length = 32) (w : World) : (part 33 (evr e) 5).run Tryz.prog w = .ok (.agg (row e.sum)) w := by
  unfold part
  have h1 : (isAgg 33).run Tryz.prog w = .ok true w := Tryz.isAgg33 w
  have h2 : (sizeOf 33).run Tryz.prog w = .ok 32 w := Tryz.sizeOf33 w
  simp only [Sem.run_bind, h1, Result.andThen_ok, if_true, h2, Sem.run_pure]
  have : (evr e).extract 5 (5 + 32) = row e.sum := by
    apply Array.toList_inj.1
    unfold evr
    simp [sh.row, hs, List.take_of_length_le]
  rw [this]
theorem name_beq (a b : List UInt8) : ((⟨a.toArray⟩ : ByteArray).toList == (⟨b.toArray⟩ : ByteArray).toList) = (a == b) := by rw [ByteArray.toList_eq, ByteArray.toList_eq]
theorem eql_ev (a b : Ev) (ha : a.sum.length = 32) (hb : b.sum.length = 32) (w : World) : (Op.equalIn 10000 35 (.agg (evr a)) (.agg (evr b))).run Tryz.prog w = .ok (evB a b) w := by
  rw [run_equalIn_struct (P := Tryz.prog) w 9999 35 (evr a) (evr b) (by kernel_rfl) (by kernel_rfl)]
  have hF := fields33
  generalize (Tryz.prog.fieldsOf 35).toList = L at hF ⊢
  rcases L with _ | ⟨f0, _ | ⟨f1, _ | ⟨f2, _ | ⟨f3, _ | ⟨f4, _ | ⟨f5, _ | ⟨f6, L⟩⟩⟩⟩⟩⟩⟩
  rotate_left 6
  · simp only [List.map_cons, List.map_nil, List.cons.injEq, Prod.mk.injEq, and_true] at hF
    obtain ⟨⟨n0, t0, o0⟩, ⟨n1, t1, o1⟩, ⟨n2, t2, o2⟩, ⟨n3, t3, o3⟩, ⟨n4, t4, o4⟩, ⟨n5, t5, o5⟩⟩ := hF
    unfold evB
    refine eqf_step n0 (a := .int .i64 a.kind) (b := .int .i64 b.kind) (by rw [t0, o0]; exact part_one 29 _ 0 _ Tryz.isAgg29 (evr0 a) w) (by rw [t0, o0]; exact part_one 29 _ 0 _ Tryz.isAgg29 (evr0 b) w) (by rw [t0]; exact run_equalIn_int (P := Tryz.prog) w 9998 29 .i64 _ _ _ Tryz.underlying29) ?_
    refine eqf_step n1 (a := .int .i64 a.id) (b := .int .i64 b.id) (by rw [t1, o1]; exact part_one 3 _ 1 _ Tryz.isAgg3 (evr1 a) w) (by rw [t1, o1]; exact part_one 3 _ 1 _ Tryz.isAgg3 (evr1 b) w) (by rw [t1]; exact run_equalIn_int (P := Tryz.prog) w 9998 3 .i64 _ _ _ Tryz.underlying3) ?_
    refine eqf_step n2 (a := .string ⟨a.name.toArray⟩) (b := .string ⟨b.name.toArray⟩) (by rw [t2, o2]; exact part_one 9 _ 2 _ Tryz.isAgg9 (evr2 a) w) (by rw [t2, o2]; exact part_one 9 _ 2 _ Tryz.isAgg9 (evr2 b) w) (by rw [t2, run_equalIn_string (P := Tryz.prog) w 9998 9 _ _ Tryz.underlying9, name_beq]) ?_
    refine eqf_step n3 (a := .int .i64 a.time) (b := .int .i64 b.time) (by rw [t3, o3]; exact part_one 3 _ 3 _ Tryz.isAgg3 (evr3 a) w) (by rw [t3, o3]; exact part_one 3 _ 3 _ Tryz.isAgg3 (evr3 b) w) (by rw [t3]; exact run_equalIn_int (P := Tryz.prog) w 9998 3 .i64 _ _ _ Tryz.underlying3) ?_
    refine eqf_step n4 (a := .int .i64 a.len) (b := .int .i64 b.len) (by rw [t4, o4]; exact part_one 3 _ 4 _ Tryz.isAgg3 (evr4 a) w) (by rw [t4, o4]; exact part_one 3 _ 4 _ Tryz.isAgg3 (evr4 b) w) (by rw [t4]; exact run_equalIn_int (P := Tryz.prog) w 9998 3 .i64 _ _ _ Tryz.underlying3) ?_
    have hd := eql_digd 9997 a.sum b.sum ha hb w
    have := eqf_step (P := Tryz.prog) (fs := []) (q := true) n5 (by rw [t5, o5]; exact part_sum a ha w) (by rw [t5, o5]; exact part_sum b hb w) (by rw [t5]; exact hd) rfl
    rw [Bool.and_true] at this
    exact this
  all_goals simp at hF
end Go.Proofs.YtphbkbjgjicncaaGreat
