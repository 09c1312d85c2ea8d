/-
  What CutPrefix of the library, and past and told of what was read, return.
-/
import Derived.Test.YtgaggncepknafaaBase
import Derived.Test.YtgaggncepknafaaCrc
namespace Go.Proofs.Ytgaggncepknafaa
open Go.RowKit

theorem size_li (s : ByteArray) : s.size = (li s).length := (li_len s).symm
theorem li_ext (s : ByteArray) (a b : Nat) : li (s.extract a b) = ((li s).take b).drop a := by
  unfold li
  simp [ByteArray.data_extract, List.extract_eq_take_drop, List.drop_take]
set_option maxHeartbeats 400000 in
theorem has_hit (s p r : ByteArray) (h : li s = li p ++ li r) (w : World) :
    Calls Try.prog 46 #[.string s, .string p] w fun e w' => e = .returned (.bool true) ∧ w = w' := by
  have hs : p.size ≤ s.size := by rw [size_li, size_li, h]; simp
  have h1 : decide ((p.size : Int) ≤ (s.size : Int)) = true := by simp; omega
  have h2 : ((s.extract 0 p.size).toList == p.toList) = true := by
    rw [toList_li, toList_li, li_ext, h, size_li p]; simp
  clear h
  go_enter Try.func46, Try.ntmps46
  go_wp2_with fail
  go_ret
  exact ⟨rfl, rfl⟩
set_option maxHeartbeats 400000 in
theorem has_miss (s p : ByteArray) (h : (li p).isPrefixOf (li s) = false) (w : World) :
    Calls Try.prog 46 #[.string s, .string p] w fun e w' => e = .returned (.bool false) ∧ w = w' := by
  by_cases hs : p.size ≤ s.size
  · have h1 : decide ((p.size : Int) ≤ (s.size : Int)) = true := by simp; omega
    have h2 : ((s.extract 0 p.size).toList == p.toList) = false := by
      rw [toList_li, toList_li, li_ext, beq_eq_false_iff_ne]
      intro e
      rw [List.drop_zero] at e
      have : (li p).isPrefixOf (li s) = true := by rw [List.isPrefixOf_iff_prefix, ← e]; exact List.take_prefix _ _
      rw [this] at h; cases h
    clear h
    go_enter Try.func46, Try.ntmps46
    go_wp2_with fail
    go_ret
    exact ⟨rfl, rfl⟩
  · have h1 : decide ((p.size : Int) ≤ (s.size : Int)) = false := by simp; omega
    clear h
    go_enter Try.func46, Try.ntmps46
    go_wp2_with fail
    go_ret
    exact ⟨rfl, rfl⟩

theorem ext_hit (s p r : ByteArray) (h : li s = li p ++ li r) : s.extract p.size s.size = r := by
  apply li_inj
  rw [li_ext, size_li, size_li, List.take_of_length_le (Nat.le_refl _), h, List.drop_left]
set_option maxHeartbeats 400000 in
theorem cut_hit0 (s p r : ByteArray) (h : li s = li p ++ li r) (w : World) :
    Calls Try.prog 43 #[.string s, .string p] w fun e w' => e = .returned (.tuple #[.string r, .bool true]) ∧ w = w' := by
  have hs : p.size ≤ s.size := by rw [size_li, size_li, h]; simp
  have hi : (p.size : Int) ≤ (s.size : Int) := by omega
  have he := Lib.hid (ext_hit s p r h)
  have hh := Lib.hid (fun v => has_hit s p r h v)
  clear h
  go_enter Try.func43, Try.ntmps43
  go_wp2_with fail
  refine (hh.out _).mono ?_
  rintro e w' ⟨rfl, rfl⟩
  go_wp2_with fail
  go_ret2
  rw [he.out]
  exact ⟨rfl, rfl⟩
set_option maxHeartbeats 400000 in
theorem cut_miss0 (s p : ByteArray) (h : (li p).isPrefixOf (li s) = false) (w : World) :
    Calls Try.prog 43 #[.string s, .string p] w fun e w' => e = .returned (.tuple #[.string s, .bool false]) ∧ w = w' := by
  have hh := Lib.hid (fun v => has_miss s p h v)
  clear h
  go_enter Try.func43, Try.ntmps43
  go_wp2_with fail
  refine (hh.out _).mono ?_
  rintro e w' ⟨rfl, rfl⟩
  go_wp2_with fail
  go_ret2
  exact ⟨rfl, rfl⟩
set_option maxHeartbeats 400000 in
theorem cut_hit (s p r : ByteArray) (h : li s = li p ++ li r) (w : World) :
    Calls Try.prog 40 #[.string s, .string p] w fun e w' => e = .returned (.tuple #[.string r, .bool true]) ∧ w = w' := by
  have hh := Lib.hid (fun v => cut_hit0 s p r h v)
  clear h
  go_enter Try.func40, Try.ntmps40
  go_wp2_with fail
  refine (hh.out _).mono ?_
  rintro e w' ⟨rfl, rfl⟩
  go_wp2_with fail
  go_ret2
  exact ⟨rfl, rfl⟩
set_option maxHeartbeats 400000 in
theorem cut_miss (s p : ByteArray) (h : (li p).isPrefixOf (li s) = false) (w : World) :
    Calls Try.prog 40 #[.string s, .string p] w fun e w' => e = .returned (.tuple #[.string s, .bool false]) ∧ w = w' := by
  have hh := Lib.hid (fun v => cut_miss0 s p h v)
  clear h
  go_enter Try.func40, Try.ntmps40
  go_wp2_with fail
  refine (hh.out _).mono ?_
  rintro e w' ⟨rfl, rfl⟩
  go_wp2_with fail
  go_ret2
  exact ⟨rfl, rfl⟩

/-- What was read: a number, a text, a digest. -/
def rn (n : Int) (r : ByteArray) (ok : Bool) : Value := .agg #[.int .i64 n, .string r, .bool ok]
def rt (t r : ByteArray) (ok : Bool) : Value := .agg #[.string t, .string r, .bool ok]
def em : ByteArray := ⟨#[]⟩

set_option maxHeartbeats 400000 in
theorem pastn_hit (n : Int) (s p r : ByteArray) (h : li s = li p ++ li r) (w : World) :
    Calls Try.prog 39 #[rn n s true, .string p] w fun e w' => e = .returned (rn n r true) ∧ Below w.heap.size w w' := by
  have hh := Lib.hid (fun v => cut_hit s p r h v)
  clear h
  unfold rn
  go_enter Try.func39, Try.ntmps39
  go_wp2_with fail
  refine (hh.out _).mono ?_
  rintro e w' ⟨rfl, rfl⟩
  go_wp2_with fail
  go_returns
  exact ⟨rfl, by go_grown⟩
set_option maxHeartbeats 400000 in
theorem pastn_miss (n : Int) (s p : ByteArray) (h : (li p).isPrefixOf (li s) = false) (w : World) :
    Calls Try.prog 39 #[rn n s true, .string p] w fun e w' => e = .returned (rn 0 em false) ∧ Below w.heap.size w w' := by
  have hh := Lib.hid (fun v => cut_miss s p h v)
  clear h
  unfold rn
  go_enter Try.func39, Try.ntmps39
  go_wp2_with fail
  refine (hh.out _).mono ?_
  rintro e w' ⟨rfl, rfl⟩
  go_wp2_with fail
  go_returns
  exact ⟨rfl, by go_grown⟩
set_option maxHeartbeats 400000 in
theorem pastt_hit (t s p r : ByteArray) (h : li s = li p ++ li r) (w : World) :
    Calls Try.prog 34 #[rt t s true, .string p] w fun e w' => e = .returned (rt t r true) ∧ Below w.heap.size w w' := by
  have hh := Lib.hid (fun v => cut_hit s p r h v)
  clear h
  unfold rt
  go_enter Try.func34, Try.ntmps34
  go_wp2_with fail
  refine (hh.out _).mono ?_
  rintro e w' ⟨rfl, rfl⟩
  go_wp2_with fail
  go_returns
  exact ⟨rfl, by go_grown⟩
set_option maxHeartbeats 400000 in
theorem pastt_miss (t s p : ByteArray) (h : (li p).isPrefixOf (li s) = false) (ok : Bool) (w : World) :
    Calls Try.prog 34 #[rt t s ok, .string p] w fun e w' => e = .returned (rt em em false) ∧ Below w.heap.size w w' := by
  have hh := Lib.hid (fun v => cut_miss s p h v)
  clear h
  unfold rt
  cases ok with
  | true =>
    go_enter Try.func34, Try.ntmps34
    go_wp2_with fail
    refine (hh.out _).mono ?_
    rintro e w' ⟨rfl, rfl⟩
    go_wp2_with fail
    go_returns
    exact ⟨rfl, by go_grown⟩
  | false =>
    go_enter Try.func34, Try.ntmps34
    go_wp2_with fail
    refine (hh.out _).mono ?_
    rintro e w' ⟨rfl, rfl⟩
    go_wp2_with fail
    go_returns
    exact ⟨rfl, by go_grown⟩
set_option maxHeartbeats 400000 in
theorem toldn_any (n : Int) (r : ByteArray) (ok : Bool) (w : World) :
    Calls Try.prog 29 #[rn n r ok] w fun e w' => e = .returned (.tuple #[.int .i64 n, .string r, .bool ok]) ∧ Below w.heap.size w w' := by
  unfold rn
  go_enter Try.func29, Try.ntmps29
  go_wp2_with fail
  go_quiet (fail)
  go_wp2_with fail
  go_returns
  exact ⟨rfl, below_drewN ((Below.refl _ _).alloc (Nat.le_refl _) _) _⟩
set_option maxHeartbeats 400000 in
theorem toldt_any (t r : ByteArray) (ok : Bool) (w : World) :
    Calls Try.prog 31 #[rt t r ok] w fun e w' => e = .returned (.tuple #[.string t, .string r, .bool ok]) ∧ Below w.heap.size w w' := by
  unfold rt
  go_enter Try.func31, Try.ntmps31
  go_wp2_with fail
  go_quiet (fail)
  go_wp2_with fail
  go_returns
  exact ⟨rfl, below_drewN ((Below.refl _ _).alloc (Nat.le_refl _) _) _⟩
end Go.Proofs.Ytgaggncepknafaa
