/-
  What Same and Link of the program return; two digests compared.
-/
import Derived.Test.YtfebhemlbnpmhaaOf
import Derived.ChangeKeysEq
import Derived.Laws.StructEq
namespace Go.Proofs.Ytfebhemlbnpmhaa
open Go.RowKit

theorem part5 (x : List UInt8) (i : Nat) (h : i < x.length) (w : World) : (part 5 (row x) i).run Try.prog w = .ok (.int .u8 ((x.getD i 0).toNat : Int)) w := by
  unfold part
  simp only [Sem.run_bind, Try.isAgg5, Result.andThen_ok]
  rw [row_at x i h]; rfl
theorem items5 (d : Nat) (x y : List UInt8) (w : World) : ∀ is : List Nat, (∀ i ∈ is, i < x.length ∧ i < y.length) → (Op.eqItems (d + 1) 5 1 (row x) (row y) is).run Try.prog w = .ok (is.all fun i => x.getD i 0 == y.getD i 0) w
  | [], _ => rfl
  | i :: is, h => by
    have ih := items5 d x y w is (fun j hj => h j (List.mem_cons_of_mem _ hj))
    obtain ⟨h1, h2⟩ := h i List.mem_cons_self
    have he := run_equalIn_int (P := Try.prog) w d 5 .u8 .u8 ((x.getD i 0).toNat : Int) ((y.getD i 0).toNat : Int) Try.underlying5
    simp only [Op.eqItems, Sem.run_bind, Nat.mul_one, part5 x i h1, part5 y i h2, Result.andThen_ok, he]
    by_cases e : x.getD i 0 = y.getD i 0
    · have e1 : (((x.getD i 0).toNat : Int) == ((y.getD i 0).toNat : Int)) = true := by rw [e]; simp
      rw [e1, List.all_cons, e]
      simpa using ih
    · have e1 : (((x.getD i 0).toNat : Int) == ((y.getD i 0).toNat : Int)) = false := by
        rw [beq_eq_false_iff_ne]; intro h; exact e (UInt8.toNat_inj.mp (by omega))
      have e2 : (x.getD i 0 == y.getD i 0) = false := by rw [beq_eq_false_iff_ne]; exact e
      rw [e1, List.all_cons, e2]
      rfl
theorem all_eq (x y : List UInt8) (hx : x.length = 32) (hy : y.length = 32) : ((List.range 32).all fun i => x.getD i 0 == y.getD i 0) = (x == y) := by
  rw [Bool.eq_iff_iff, List.all_eq_true, beq_iff_eq]
  constructor
  · intro h
    apply List.ext_getElem (by omega)
    intro i h1 h2
    have := h i (List.mem_range.2 (by omega))
    rw [beq_iff_eq, List.getD_eq_getElem?_getD, List.getD_eq_getElem?_getD, List.getElem?_eq_getElem h1, List.getElem?_eq_getElem h2] at this
    exact this
  · intro h i _; rw [h]; simp
theorem eql_dig (x y : List UInt8) (hx : x.length = 32) (hy : y.length = 32) (w : World) : (Op.equalIn 10000 23 (.agg (row x)) (.agg (row y))).run Try.prog w = .ok (x == y) w := by
  obtain ⟨i, hi⟩ := info_of_underlying (P := Try.prog) Try.underlying5
  have := run_equalIn_array (P := Try.prog) w 9999 (row x) (row y) Try.underlying23 hi
  rw [this]
  have e : Try.prog.cellsOf 5 = 1 := by kernel_rfl
  rw [e, items5 9998 x y w _ (fun i hi => by have := List.mem_range.1 hi; omega), all_eq x y hx hy]

/-- Two texts that are not the same, and have one digest. -/
def smB (a b : List UInt8) : Bool := !(a == b) && (sha a == sha b)
theorem toList_data (a : ByteArray) : a.toList = a.data.toList := by
  have : a = ⟨a.data.toList.toArray⟩ := by simp
  rw [this]; exact ByteArray.toList_mk _

set_option maxHeartbeats 400000 in
theorem same_any (a b : ByteArray) (ha : a.size ≤ 4000) (hb : b.size ≤ 4000) (w : World) :
    Calls Try.prog 18 #[.string a, .string b] w fun e w' => e = .returned (.bool (smB a.data.toList b.data.toList)) ∧ Below w.heap.size w w' := by
  by_cases h : a.toList = b.toList
  · have h1 : (a.toList == b.toList) = true := by rw [h]; simp
    have h2 : Hid (smB a.data.toList b.data.toList = false) := by
      show _ = _
      unfold smB; rw [← toList_data, ← toList_data, h1]; rfl
    clear h
    go_enter Try.func18, Try.ntmps18
    go_wp2_with fail
    go_ret
    exact ⟨by rw [h2.out]; rfl, Below.refl _ _⟩
  · have h1 : (a.toList == b.toList) = false := by rw [beq_eq_false_iff_ne]; exact h
    have h2 : Hid (smB a.data.toList b.data.toList = (sha a.data.toList == sha b.data.toList)) := by
      show _ = _
      unfold smB; rw [← toList_data, ← toList_data, h1]; rfl
    have h3 := fun v => eql_dig (sha a.data.toList) (sha b.data.toList) (sha_length _) (sha_length _) v
    clear h
    go_enter Try.func18, Try.ntmps18
    go_wp2_with fail
    refine (of_any a ha _).mono ?_
    rintro e v1 ⟨rfl, b1⟩
    go_wp2_with fail
    refine (of_any b hb _).mono ?_
    rintro e v2 ⟨rfl, b2⟩
    go_wp2_with fail
    go_ret
    exact ⟨by rw [h2.out]; rfl, b1.trans (b2.mono b1.size)⟩

set_option maxHeartbeats 400000 in
set_option maxRecDepth 100000 in
theorem link_any (d : List UInt8) (hd : d.length = 32) (b : ByteArray) (hb : b.size ≤ 3900) (w : World) :
    Calls Try.prog 16 #[.agg (row d), .string b] w fun e w' => e = .returned (.agg (row (sha (d ++ b.data.toList)))) ∧ Below w.heap.size w w' := by
  have hB0 : ((w.alloc (.cells (row d) 23)).alloc (.cells d0 23)).heap[w.heap.size]? = some (.cells (row d) 23) := by rw [heap_alloc_if, if_neg (by simp), heap_alloc_if, if_pos rfl]
  have hB1 : ((w.alloc (.cells (row d) 23)).alloc (.cells d0 23)).heap[w.heap.size + 1]? = some (.cells d0 23) := by rw [heap_alloc_if, if_pos (by simp)]
  have hc := conv_row _ w.heap.size 32 23 d hd hB0
  have hj : Hid ((ByteArray.mk d.toArray ++ b).data.toList = d ++ b.data.toList) := by show _ = _; simp [ByteArray.data_append]
  have hs : (ByteArray.mk d.toArray).size = 32 := by show d.toArray.size = 32; simpa using hd
  have hs2 : (ByteArray.mk d.toArray ++ b).size ≤ 4000 := by rw [ByteArray.size_append]; omega
  have hs1 : (ByteArray.mk d.toArray).size ≤ 32 := by omega
  have hi2 : Hid ((Try.prog.info? 23).map (·.size) = some (row (sha (d ++ b.data.toList))).size) := by show _ = _; rw [row_size, sha_length]; kernel_rfl
  have ho2 : Hid (d0.size = (row (sha (d ++ b.data.toList))).size) := by show _ = _; rw [row_size, sha_length]; kernel_rfl
  revert hc hj hs2 hs1
  generalize ByteArray.mk d.toArray = X
  intro hc hj hs2 hs1
  have hH := Lib.hid (And.intro hB0 hB1)
  clear hs hd hB0 hB1
  go_enter Try.func16, Try.ntmps16
  rw [d0_zero] at hc
  go_wp2_with fail
  rw [← d0_zero]
  refine (of_any _ hs2 _).mono ?_
  rintro e v1 ⟨rfl, b1⟩
  rw [hj.out]
  have hr := (b1.block _ (by simp)).trans hH.out.2
  go_wp2_with (with_reducible refine wpList_store_row rfl 23 (.tmp 4) (.tmp 9) rfl _ (row (sha (d ++ b.data.toList))) rfl rfl 23 d0 hr hi2.out ho2.out (row_one _) ?_)
  exact bodyPost_row 4 23 rfl _ rfl 23 (row (sha (d ++ b.data.toList))) _ (setRow_heap _ _ _ _ _ _ hr) Try.underlying23 rfl hi2.out rfl ⟨rfl, below_setRow ((((Below.refl _ _).alloc (Nat.le_refl _) _).alloc (by simp) _).trans (b1.mono (by simp <;> omega))) (by simp) _⟩
end Go.Proofs.Ytfebhemlbnpmhaa
