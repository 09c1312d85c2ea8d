/-
  For every two texts CrcTurns returns true: checks are linear: texts of one length, turned by each other, have checks that are.
  Conditions: none beyond the given statement's own.
-/
import Derived.Test.YtcfifhanhkjdmaaRows
import Derived.Test.YtcfifhanhkjdmaaWorks
import Derived.Deep.OwnRows
import Derived.Deep.RegionHeld3
import Derived.WalkKit
import Derived.ProofKit
import Derived.OpenShut
import Derived.ShutString
import Derived.ChangeOld
import Derived.Below
namespace Go.Proofs.Ytcfifhanhkjdmaa.crcTurns
open Go.ChangeShapes Go.WideShapes Go.ChangeAt Go.RowKit
open Go.ChangeMaps (open_string shut_string)
set_option linter.unusedVariables false

theorem own : ownKnob Try.prog.godebug = none := by kernel_rfl

/-- Bytes as the cells of a row. -/
def row (l : List UInt8) : Array Value := (l.map fun b => Value.int .u8 (b.toNat : Int)).toArray
theorem row_size (l : List UInt8) : (row l).size = l.length := by simp [row]
theorem row_at (l : List UInt8) (j : Nat) (h : j < l.length) : (row l)[j]? = some (.int .u8 (l[j].toNat : Int)) := by
  unfold row; simp [h]
theorem row_set (l : List UInt8) (k : Nat) (b : UInt8) : (row l).setIfInBounds k (.int .u8 (b.toNat : Int)) = row (l.set k b) := by
  unfold row
  simp [List.map_set]
theorem made_row (n : Nat) : madeCells #[.int .u8 0] n = row (List.replicate n 0) := by
  apply Array.ext_getElem?
  intro i
  unfold madeCells row
  by_cases h : i < n
  · simp [h, Nat.mod_one]
  · simp [h]

/-- The first so many bytes, turned by each other. -/
def turned (a b : ByteArray) (k : Nat) : List UInt8 := (List.range a.size).map fun j => if j < k then a.data.toList.getD j 0 ^^^ b.data.toList.getD j 0 else 0
theorem turned_length (a b : ByteArray) (k : Nat) : (turned a b k).length = a.size := by simp [turned]
theorem turned_zero (a b : ByteArray) : turned a b 0 = List.replicate a.size 0 := by
  unfold turned
  apply List.ext_getElem?
  intro i
  by_cases h : i < a.size <;> simp [h]
theorem turned_set (a b : ByteArray) (k : Nat) (ha : k < a.size) (hb : k < b.size) : (turned a b k).set k (a[k] ^^^ b[k]) = turned a b (k + 1) := by
  have e1 : a.data.toList.getD k 0 = a[k] := by
    rw [List.getD_eq_getElem?_getD, List.getElem?_eq_getElem (by simpa using ha)]; rfl
  have e2 : b.data.toList.getD k 0 = b[k] := by
    rw [List.getD_eq_getElem?_getD, List.getElem?_eq_getElem (by simpa using hb)]; rfl
  apply List.ext_getElem?
  intro i
  rw [List.getElem?_set, turned_length]
  unfold turned
  by_cases h : i < a.size
  · by_cases hi : k = i
    · subst hi
      rw [if_pos rfl, if_pos h, List.getElem?_map, List.getElem?_range h]
      show some _ = some (if k < k + 1 then _ else _)
      rw [if_pos (by omega), e1, e2]
    · rw [if_neg hi, List.getElem?_map, List.getElem?_map, List.getElem?_range h]
      by_cases h3 : i < k
      · simp [h3, show i < k + 1 by omega]
      · simp [h3, show ¬ i < k + 1 by omega]
  · have : ¬ k = i := by omega
    rw [if_neg this]
    simp [h]
theorem xor8 (a b : UInt8) : bits .xor .u8 (a.toNat : Int) (b.toNat : Int) = ((a ^^^ b).toNat : Int) := by
  rw [u8_xor_nat _ _ a.toNat_lt b.toNat_lt, UInt8.toNat_xor]
theorem info5 : (Try.prog.info? 5).map (fun i => (i.zero, i.size, i.bytes)) = some (some (.int .u8 0), 1, 1) := by kernel_rfl

/-- Two rows of the call's own, one behind the other. -/
structure Rows2 (v : World) (a b : List UInt8) (wr : World) : Prop where
  bel : Below v.heap.size v wr
  one : wr.heap[v.heap.size]? = some (.cells (row a) 5)
  two : wr.heap[v.heap.size + 1]? = some (.cells (row b) 5)
theorem Rows2.cell {v wr : World} {a b : List UInt8} (h : Rows2 v a b wr) (k : Nat) (hk : k < b.length) : wr.cell? ⟨v.heap.size + 1, k, none⟩ = some (.int .u8 (b[k].toNat : Int)) := by
  rw [cell_of_row wr _ k _ _ _ h.two, row_at _ _ hk]
theorem Rows2.frozen {v wr : World} {a b : List UInt8} (h : Rows2 v a b wr) (k : Nat) : wr.frozen? ⟨v.heap.size + 1, k, none⟩ = false :=
  frozen_of_row wr _ k _ _ h.two
theorem Rows2.set {v wr : World} {a b : List UInt8} (h : Rows2 v a b wr) (k : Nat) (x : UInt8) : Rows2 v a (b.set k x) (wr.setCell ⟨v.heap.size + 1, k, none⟩ (.int .u8 (x.toNat : Int))) := {
  bel := h.bel.setCell (by simp) _
  one := by rw [heap_setCell_other _ _ _ _ (by simp)]; exact h.one
  two := by rw [heap_setCell_same _ _ _ _ _ _ h.two, row_set] }
theorem Rows2.drew {v wr : World} {a b : List UInt8} (h : Rows2 v a b wr) : Rows2 v a b wr.drew := ⟨h.bel.drew, h.one, h.two⟩

theorem mk_size (l : List UInt8) : (ByteArray.mk l.toArray).size = l.length := by
  show l.toArray.size = _
  simp
theorem conv_row (v : World) (b n : Nat) (l : List UInt8) (hn : l.length = n) (h : v.heap[b]? = some (.cells (row l) 5)) :
    (convert 33 9 (.slice (some ⟨b, 0, none⟩) n n)).run Try.prog v = .ok (.string ⟨l.toArray⟩) v := by
  subst hn
  refine run_convert_bytes_back (P := Try.prog) v 33 9 5 ⟨b, 0, none⟩ _ l Try.underlying33 Try.underlying5 Try.underlying9 (fun j hj => ?_)
  have e : (⟨b, 0, none⟩ : Addr).add j = ⟨b, j, none⟩ := by unfold Addr.add; split <;> simp_all
  rw [e, cell_of_row v _ j _ _ _ h, row_at _ _ hj]
theorem Rows2.conv1 {v wr : World} {a b : List UInt8} (h : Rows2 v a b wr) {n : Nat} (hn : a.length = n) :
    (convert 33 9 (.slice (some ⟨v.heap.size, 0, none⟩) n n)).run Try.prog wr = .ok (.string ⟨a.toArray⟩) wr := conv_row _ _ _ _ hn h.one
theorem Rows2.conv2 {v wr : World} {a b : List UInt8} (h : Rows2 v a b wr) {n : Nat} (hn : b.length = n) :
    (convert 33 9 (.slice (some ⟨v.heap.size + 1, 0, none⟩) n n)).run Try.prog wr = .ok (.string ⟨b.toArray⟩) wr := conv_row _ _ _ _ hn h.two
theorem Rows2.past {v wr w2 : World} {a b : List UInt8} (h : Rows2 v a b wr) (hb : Below wr.heap.size wr w2) : Rows2 v a b w2 := {
  bel := h.bel.trans (hb.mono h.bel.size)
  one := (hb.block _ (Array.getElem?_eq_some_iff.1 h.one).1).trans h.one
  two := (hb.block _ (Array.getElem?_eq_some_iff.1 h.two).1).trans h.two }

/-- Of, asked beside the two rows: they stay. -/
theorem of_in {v1 : World} {z t : List UInt8} {n : Nat} (hz : z.length = n) (ht : t.length = n) (s : ByteArray) (hs : s.size ≤ 4000) (v : World) (hv : Rows2 v1 z t v) :
    Calls Try.prog 11 #[.string s] v fun e v' => e = .returned (.int .u32 (V (more 0#32 s.data.toList))) ∧ Rows2 v1 z t v' ∧
      (convert 33 9 (.slice (some ⟨v1.heap.size, 0, none⟩) n n)).run Try.prog v' = .ok (.string ⟨z.toArray⟩) v' ∧
      (convert 33 9 (.slice (some ⟨v1.heap.size + 1, 0, none⟩) n n)).run Try.prog v' = .ok (.string ⟨t.toArray⟩) v' :=
  (of_any s hs v).mono fun _ _ ⟨he, hb⟩ => ⟨he, hv.past hb, (hv.past hb).conv1 hz, (hv.past hb).conv2 ht⟩

theorem byte_xor (a b : UInt8) : byte (a ^^^ b) = byte a ^^^ byte b := by
  apply BitVec.eq_of_toNat_eq
  have ha := a.toNat_lt; have hb := b.toNat_lt; have hab := (a ^^^ b).toNat_lt
  unfold byte
  rw [BitVec.toNat_xor, BitVec.toNat_ofNat, BitVec.toNat_ofNat, BitVec.toNat_ofNat, Nat.mod_eq_of_lt (by omega), Nat.mod_eq_of_lt (by omega), Nat.mod_eq_of_lt (by omega), UInt8.toNat_xor]
theorem swap4 (a b c d : BitVec 32) : (a ^^^ b) ^^^ (c ^^^ d) = (a ^^^ c) ^^^ (b ^^^ d) := by
  apply BitVec.eq_of_getLsbD_eq; intro i hi; simp only [BitVec.getLsbD_xor]; cases a.getLsbD i <;> cases b.getLsbD i <;> cases c.getLsbD i <;> cases d.getLsbD i <;> rfl
theorem run_xor (l m : List UInt8) (h : l.length = m.length) (c d : BitVec 32) : run (c ^^^ d) (List.zipWith (· ^^^ ·) l m) = run c l ^^^ run d m := by
  induction l generalizing m c d with
  | nil => cases m with
    | nil => rfl
    | cons y m => simp at h
  | cons x l ih => cases m with
    | nil => simp at h
    | cons y m =>
      have := ih m (by simpa using h) (stp c x) (stp d y)
      show run (stp (c ^^^ d) (x ^^^ y)) (List.zipWith (· ^^^ ·) l m) = _
      have e : stp (c ^^^ d) (x ^^^ y) = stp c x ^^^ stp d y := by
        unfold stp; rw [byte_xor, swap4, hv_xor]
      rw [e]
      exact this
theorem zip_zero (l : List UInt8) : List.zipWith (· ^^^ ·) l (List.replicate l.length (0 : UInt8)) = l := by
  induction l with
  | nil => rfl
  | cons x l ih =>
    show (x ^^^ 0) :: List.zipWith (· ^^^ ·) l (List.replicate l.length 0) = _
    rw [ih]; simp
theorem turned_zip (a b : ByteArray) (h : a.size = b.size) : turned a b a.size = List.zipWith (· ^^^ ·) a.data.toList b.data.toList := by
  apply List.ext_getElem?
  intro i
  unfold turned
  by_cases hi : i < a.size
  · have h1 : a.data.toList[i]? = some a.data.toList[i] := List.getElem?_eq_getElem (by simpa using hi)
    have h2 : b.data.toList[i]? = some (b.data.toList[i]'(by simp; omega)) := List.getElem?_eq_getElem (by simp; omega)
    rw [List.getElem?_map, List.getElem?_range hi, List.getElem?_zipWith, h1, h2]
    show some (if i < a.size then _ else _) = some _
    rw [if_pos hi, List.getD_eq_getElem?_getD, List.getD_eq_getElem?_getD, h1, h2]
    rfl
  · rw [List.getElem?_eq_none (by simp; omega), List.getElem?_eq_none (by simp; omega)]
theorem not3 (a b c d : BitVec 32) (h : a ^^^ d = b ^^^ c) : ~~~a = ~~~b ^^^ ~~~c ^^^ ~~~d := by
  apply BitVec.eq_of_getLsbD_eq; intro i hi
  have := congrArg (fun v => BitVec.getLsbD v i) h
  simp only [BitVec.getLsbD_xor] at this
  simp only [BitVec.getLsbD_xor, BitVec.getLsbD_not, hi, decide_true, Bool.true_and]
  revert this
  cases a.getLsbD i <;> cases b.getLsbD i <;> cases c.getLsbD i <;> cases d.getLsbD i <;> simp
theorem turns (a b : ByteArray) (h : a.size = b.size) : more 0#32 (turned a b a.size) = more 0#32 a.data.toList ^^^ more 0#32 b.data.toList ^^^ more 0#32 (List.replicate a.size 0) := by
  unfold more
  apply not3
  have hl : (turned a b a.size).length = a.size := turned_length _ _ _
  have e1 := run_xor (turned a b a.size) (List.replicate a.size 0) (by simp [hl]) (~~~0#32) (~~~0#32)
  have e2 := run_xor a.data.toList b.data.toList (by simp; omega) (~~~0#32) (~~~0#32)
  rw [← turned_zip a b h] at e2
  have e3 := zip_zero (turned a b a.size)
  rw [hl] at e3
  rw [e3] at e1
  rw [← e1, e2]
theorem turns_fin (a b : ByteArray) (h : a.size = b.size) :
    (V (more 0#32 (ByteArray.mk (turned a b a.size).toArray).data.toList) == bits .xor .u32 (bits .xor .u32 (V (more 0#32 a.data.toList)) (V (more 0#32 b.data.toList))) (V (more 0#32 (ByteArray.mk (List.replicate a.size 0).toArray).data.toList))) = true := by
  rw [xorV, xorV, beq_iff_eq]
  exact congrArg V (turns a b h)

set_option maxHeartbeats 1000000 in
theorem walkSmall (a0 : ByteArray) (a1 : ByteArray) (hl : a0.size ≤ 600) (he0 : a0.size = a1.size) (w : World) :
    Calls Try.prog 7 #[.string a0, .string a1] w fun e w' => e = .returned (.bool true) ∧ Below w.heap.size w w' := by
  have hl' : decide ((600 : Int) < (a0.size : Int)) = false := by simp; omega
  have hne : ((a0.size : Int) != (a1.size : Int)) = false := by rw [he0]; simp
  have he := Lib.hid he0
  clear he0
  have hmk : ∀ v : World, (Instr.makeSlice 33 (.int .i64 (a0.size : Int)) (.int .i64 (a0.size : Int))).run Try.prog v = .ok (.slice (some ⟨v.heap.size, 0, none⟩) a0.size a0.size) (v.alloc (.cells (row (List.replicate a0.size 0)) 5)) := fun v => by
    have := run_make_row' (P := Try.prog) 33 5 (.int .u8 0) 1 Try.underlying33 info5 rfl .i64 .i64 a0.size (by omega) (by omega) v
    rw [made_row] at this
    exact this
  go_enter Try.func7, Try.ntmps7
  go_wp2_with fail
  refine (works_any _).mono ?_
  rintro e v1 ⟨rfl, h1⟩
  go_wp2_with fail
  have hz0 := turned_zero a0 a1
  have hB1 := heap_alloc2_new v1 (.cells (row (List.replicate a0.size 0)) 5) (.cells (row (List.replicate a0.size 0)) 5)
  have hB0 := heap_alloc2_old v1 (.cells (row (List.replicate a0.size 0)) 5) (.cells (row (List.replicate a0.size 0)) 5)
  have hB1' : Hid (((v1.alloc (.cells (row (List.replicate a0.size 0)) 5)).alloc (.cells (row (List.replicate a0.size 0)) 5)).heap[v1.heap.size + 1]? = some (.cells (row (turned a0 a1 0)) 5)) := by rw [Hid, hz0]; exact hB1
  have hB0' := Lib.hid hB0
  clear hz0 hB1 hB0 hmk
  go_loopw [8] (fun i wr => ∃ k : Nat, k ≤ a0.size ∧ i = .int .i64 k ∧ Rows2 v1 (List.replicate a0.size 0) (turned a0 a1 k) wr) (fun i _ => a0.size - (intOf i).toNat)
  case atStart => exact ⟨0, by omega, rfl, ⟨((Below.refl _ _).alloc (Nat.le_refl _) _).alloc (by simp) _, hB0'.out, hB1'.out⟩⟩
  case round =>
    obtain ⟨k, hk, rfl, hrow⟩ := hrel
    rename_i wr
    by_cases hlt : k < a0.size
    · have hlt1 : k < a1.size := by rw [← he.out]; exact hlt
      have hcell := hrow.cell k (by rw [turned_length]; exact hlt)
      have hfz := hrow.frozen k
      have hx := xor8 a0[k] a1[k]
      have hset := Lib.hid (turned_set a0 a1 k hlt hlt1)
      have hr' := Lib.hid hrow
      clear hrow hB1' hB0'
      go_wp2_with fail
      go_region
      go_wp2_with fail
      go_roundw
      case rel => 
        refine ⟨k + 1, by omega, by go_num, ?_⟩
        rw [← hset.out]
        exact (hr'.out.set k (a0[k] ^^^ a1[k])).drew
      case measure => simp [intOf]; omega
    · obtain rfl : k = a0.size := by omega
      go_wp2_with fail
      have hZ := hrow.drew.conv1 (n := a0.size) (by simp)
      have hX := hrow.drew.conv2 (n := a0.size) (turned_length _ _ _)
      have hfin := Lib.hid (turns_fin a0 a1 he.out)
      have hsz : Hid ((ByteArray.mk (List.replicate a0.size 0).toArray).size ≤ 4000) := by rw [Hid, mk_size]; simp; omega
      have hsx : Hid ((ByteArray.mk (turned a0 a1 a0.size).toArray).size ≤ 4000) := by rw [Hid, mk_size, turned_length]; omega
      have hof := Lib.hid (fun s hs v hv => of_in (v1 := v1) (z := List.replicate a0.size 0) (t := turned a0 a1 a0.size) (n := a0.size) (by simp) (turned_length _ _ _) s hs v hv)
      have hs0 : a0.size ≤ 4000 := by omega
      have hs1 : Hid (a1.size ≤ 4000) := by rw [Hid, ← he.out]; omega
      revert hZ hX hfin hsz hsx hof
      generalize ByteArray.mk (List.replicate a0.size 0).toArray = Z
      generalize ByteArray.mk (turned a0 a1 a0.size).toArray = X
      generalize Value.slice (some ⟨v1.heap.size, 0, none⟩) a0.size a0.size = sZ
      generalize Value.slice (some ⟨v1.heap.size + 1, 0, none⟩) a0.size a0.size = sX
      intro hZ hX hfin hsz hsx hof
      have hr' := Lib.hid hrow
      clear hrow hB1' hB0'
      go_region_held3 (fun w' => (convert 33 9 sX).run Try.prog w' = .ok (.string X) w' ∧ (convert 33 9 sZ).run Try.prog w' = .ok (.string Z) w' ∧ Rows2 v1 (List.replicate a0.size 0) (turned a0 a1 a0.size) w')
        (first | exact ⟨hX, hZ, hr'.out.drew⟩ | exact ⟨hxX, hzX, hkX⟩ | exact ⟨hxA, hzA, hkA⟩ | exact ⟨hxB, hzB, hkB⟩ | exact ⟨hxZ, hzZ, hkZ⟩)
        (first
        | (go_at_call_of 11 (Value.string X); refine (hof.out X hsx.out _ ?_).mono ?_; exact hr'.out.drew; rintro e vX ⟨rfl, hkX, hzX, hxX⟩)
        | (go_at_call_of 11 (Value.string a0); refine (hof.out a0 hs0 _ ?_).mono ?_; exact hkX; rintro e vA ⟨rfl, hkA, hzA, hxA⟩)
        | (go_at_call_of 11 (Value.string a1); refine (hof.out a1 hs1.out _ ?_).mono ?_; exact hkA; rintro e vB ⟨rfl, hkB, hzB, hxB⟩)
        | (go_at_call_of 11 (Value.string Z); refine (hof.out Z hsz.out _ ?_).mono ?_; exact hkB; rintro e vZ ⟨rfl, hkZ, hzZ, hxZ⟩))
      have hf := hfin.out
      go_wp2_with fail
      go_ret
      exact ⟨by simp [hf], h1.trans (hkZ.bel.mono h1.size)⟩
theorem walk (a0 : ByteArray) (a1 : ByteArray) (w0 : a0.size ≤ maxLen) (w1 : a1.size ≤ maxLen) (w : World) :
    Calls Try.prog 7 #[.string a0, .string a1] w fun e w' => e = .returned (.bool true) ∧ Below w.heap.size w w' := by
  unfold maxLen at w0 w1
  by_cases he : a0.size = a1.size
  · by_cases hl : a0.size ≤ 600
    · exact walkSmall a0 a1 hl he w
    · have hl' : decide ((600 : Int) < (a0.size : Int)) = true := by simp; omega
      have hne : ((a0.size : Int) != (a1.size : Int)) = false := by rw [he]; simp
      have he' := Lib.hid he
      clear he
      go_enter Try.func7, Try.ntmps7
      go_wp2_with fail
      refine (works_any _).mono ?_
      rintro e v1 ⟨rfl, h1⟩
      go_wp2_with fail
      go_ret
      exact ⟨rfl, h1⟩
  · have hne : ((a0.size : Int) != (a1.size : Int)) = true := by rw [bne_iff_ne]; omega
    go_enter Try.func7, Try.ntmps7
    go_wp2_with fail
    refine (works_any _).mono ?_
    rintro e v1 ⟨rfl, h1⟩
    go_wp2_with fail
    go_ret
    exact ⟨rfl, h1⟩

set_option maxRecDepth 100000 in
theorem lifted (os : Os) (started : os.Started) (H : Type) (enc : TypeId × Value → H) :
    ReturnsInHanded {} Try.checked os 7 .any (Rows.crcTurnsSpec.pre6 enc Try.prog Try.f7 Rows.crcTurnsRow.domain false) (Rows.crcTurnsSpec.post enc Try.prog Try.f7 false true false false) := by
  refine returnsInHanded_of_change (C := Try.checked) own started (by kernel_rfl) Try.func7
    (ChangeSpec.witness6 (enc := enc) (C := Try.checked) false ⟨#[], #[.string ByteArray.empty, .string ByteArray.empty], []⟩ 8 (by kernel_rfl) (by kernel_rfl) (by kernel_rfl) (by kernel_rfl)) ?_
  intro W base args ds gs before hval0 hW hcnd _
  have hval : ∀ (j : Nat) t v, Try.f7.params[j]? = some t → args[j]? = some v → Value.okWide Try.prog W .any base t v := hval0
  have hW' := hW
  obtain ⟨p, q, hA0, hV, rfl, hfz, hnd⟩ := hW
  have hA : DataW.TrodAll enc Try.prog W 0 (fun _ => true) true Try.f7.params.toList args.toList ds p := hA0
  rw [Try.params7] at hA hval
  obtain ⟨v0, vs0, d0, ds0, p0, q0, hargs, rfl, rfl, h0, r0⟩ := trodAll_cons hA
  obtain ⟨v1, vs1, d1, ds1, p1, q1, rfl, rfl, rfl, h1, r1⟩ := trodAll_cons r0
  obtain ⟨rfl, rfl, rfl⟩ := trodAll_nil r1
  obtain rfl : args = #[v0, v1] := by cases args; simp_all
  obtain ⟨rfl, rfl⟩ := trodVars_none hV
  obtain ⟨a0, rfl, rfl, rfl, w0⟩ := open_string Try.underlying9 (hval 0 9 v0 rfl rfl) h0
  obtain ⟨a1, rfl, rfl, rfl, w1⟩ := open_string Try.underlying9 (hval 1 9 v1 rfl rfl) h1
  clear hA0 hval0
  simp only [List.append_nil] at hW'
  refine (walk a0 a1 w0 w1 W).mono fun e W' ⟨he, bel⟩ => ?_
  subst he
  exact ⟨_, rfl, _, _, _, [], [], [], hW', (trodAll_cons_mk (shut_bool Try.underlying4 _) trodAll_mk0), (trodAll_cons_mk (shut_string Try.underlying9 w0) (trodAll_cons_mk (shut_string Try.underlying9 w1) trodAll_mk0)), rfl, bel.frame _, fun h => by cases h⟩

theorem over : Rows.crcTurnsRow.holds Try.pinned (OpenSpec.ofChange Rows.crcTurnsSpec) :=
  OpenClaim.holds_of_wide 7 Try.f7 rfl rfl rfl rfl rfl rfl rfl ⟨rfl, rfl, rfl, rfl, rfl⟩ rfl rfl rfl rfl rfl (by kernel_rfl) Try.func7 (by kernel_rfl)
    (of_decide_eq_true (by kernel_rfl)) (by unfold Func.isWrapper; first | (rw [if_pos (by decide +kernel)]; kernel_rfl) | (rw [if_neg (by decide +kernel)]; exact ⟨rfl, rfl⟩))
    (fun os started H enc _ => lifted os started H enc)

/-- The given statement. -/
theorem crcTurns_proved : Rows.CrcTurnsSaid :=
  over
#print axioms crcTurns_proved
end Go.Proofs.Ytcfifhanhkjdmaa.crcTurns
