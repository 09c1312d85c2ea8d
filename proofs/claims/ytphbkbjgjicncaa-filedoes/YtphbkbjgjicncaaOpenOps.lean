/-
  Operations, and rows of them, that came in, as the statements' form reads them.
-/
import Derived.Test.YtphbkbjgjicncaaOpens
import Derived.Test.YtphbkbjgjicncaaEv0
import Derived.Deep.MidRow
namespace Go.Proofs.Ytphbkbjgjicncaa
open Go Go.RowKit Go.ChangeShapes Go.WideShapes Go.ChangeAt

theorem cells26 : Try.prog.cellsOf 27 = 6 := by kernel_rfl
theorem cells25k : Try.prog.cellsOf 25 = 1 := by kernel_rfl
/-- What is known of an operation that came in. -/
structure Opv.wf (o : Opv) : Prop where
  k : i64 o.kind
  nm : o.nm.size ≤ maxLen
  tx : o.tx.size ≤ maxLen
  tm : i64 o.tm
  a : i64 o.a
  b : i64 o.b
def emptyOp : Opv := ⟨0, ByteArray.empty, ByteArray.empty, 0, 0, 0⟩
/-- Operations that lie at an address, below B. -/
def OpsAt (B : Nat) (w : World) (p : Option Addr) (l : List Opv) : Prop :=
  l = [] ∨ ∃ b o, p = some ⟨b, o, none⟩ ∧ b < B ∧ ∀ k (hk : k < l.length), w.rangeAt b (o + k * 6) (opr l[k]).toList
theorem rangeAt_past {B b o : Nat} {w v : World} {cs : List Value} (h : w.rangeAt b o cs) (hb : Below B w v) (hB : b < B) : v.rangeAt b o cs := fun j x hx => (hb.cell (p := ⟨b, o + j, none⟩) hB).trans (h j x hx)
theorem OpsAt.past {B : Nat} {w v : World} {p : Option Addr} {l : List Opv} (h : OpsAt B w p l) (hb : Below B w v) : OpsAt B v p l := by
  rcases h with h | ⟨b, o, h1, h2, h3⟩
  · exact .inl h
  · exact .inr ⟨b, o, h1, h2, fun k hk => rangeAt_past (h3 k hk) hb h2⟩
theorem load_op (b o : Nat) (f : Opv) (v : World) (hv : v.rangeAt b o (opr f).toList) : (Instr.loadAt 27 (.pointer (some ⟨b, o, none⟩))).run Try.prog v = .ok (.agg (opr f)) v := by
  have := run_loadAt_mid (P := Try.prog) v b o 27 (opr f).toList _ hv Try.underlying27 rfl (row26 f)
  simpa using this
theorem index47 (b o n c k : Nat) (h : k < n) (w : World) : (Instr.indexAt 47 (.slice (some ⟨b, o, none⟩) n c) (.int .i64 (k : Int))).run Try.prog w = .ok (.pointer (some ⟨b, o + k * 6, none⟩)) w := by
  rw [run_indexAt_slice (P := Try.prog) w 47 ⟨b, o, none⟩ n c .i64 (k : Int) (by kernel_rfl)]
  have e1 : Try.prog.elem 47 = 27 := by kernel_rfl
  simp [e1, Try.sizeOf27, h, Addr.add_mid]
theorem open_opl {H : Type} {enc : TypeId × Value → H} {w : World} {sp : Nat → Bool} {held : Bool} {fuel : Nat} {cs : List Value} {x : DataW H × List MemPlace}
    (h : DataW.trod enc Try.prog w 0 sp held fuel 27 cs = some x) : ∃ f : Opv, cs = (opr f).toList ∧ f.wf := by
  obtain ⟨xs, n, _, _, hl, hxl, hf⟩ := DataW.trod_struct Try.underlying27 h
  rw [cells26] at hl
  have get : ∀ i (hi : i < xs.length), xs[i]? = some xs[i] := fun i hi => List.getElem?_eq_getElem hi
  have hx6 : xs.length = 6 := hxl
  have f0 : DataW.trod enc Try.prog w 0 sp held n 25 ((cs.drop 0).take (Try.prog.cellsOf 25)) = xs[0]? := hf 0 _ rfl
  have f1 : DataW.trod enc Try.prog w 0 sp held n 9 ((cs.drop 1).take (Try.prog.cellsOf 9)) = xs[1]? := hf 1 _ rfl
  have f2 : DataW.trod enc Try.prog w 0 sp held n 9 ((cs.drop 2).take (Try.prog.cellsOf 9)) = xs[2]? := hf 2 _ rfl
  have f3 : DataW.trod enc Try.prog w 0 sp held n 3 ((cs.drop 3).take (Try.prog.cellsOf 3)) = xs[3]? := hf 3 _ rfl
  have f4 : DataW.trod enc Try.prog w 0 sp held n 3 ((cs.drop 4).take (Try.prog.cellsOf 3)) = xs[4]? := hf 4 _ rfl
  have f5 : DataW.trod enc Try.prog w 0 sp held n 3 ((cs.drop 5).take (Try.prog.cellsOf 3)) = xs[5]? := hf 5 _ rfl
  rw [get 0 (by omega), cells25k] at f0
  rw [get 1 (by omega), cells9] at f1
  rw [get 2 (by omega), cells9] at f2
  rw [get 3 (by omega), cells3] at f3
  rw [get 4 (by omega), cells3] at f4
  rw [get 5 (by omega), cells3] at f5
  obtain ⟨k, c0, _, w0⟩ := DataW.trod_int Try.underlying25 f0
  obtain ⟨nm, c1, _, w1⟩ := DataW.trod_string Try.underlying9 f1
  obtain ⟨tx, c2, _, w2⟩ := DataW.trod_string Try.underlying9 f2
  obtain ⟨tm, c3, _, w3⟩ := DataW.trod_int Try.underlying3 f3
  obtain ⟨a, c4, _, w4⟩ := DataW.trod_int Try.underlying3 f4
  obtain ⟨b, c5, _, w5⟩ := DataW.trod_int Try.underlying3 f5
  refine ⟨⟨k, nm, tx, tm, a, b⟩, ?_, ⟨bounds_i64 w0, w1, w2, bounds_i64 w3, bounds_i64 w4, bounds_i64 w5⟩⟩
  have d0 := take1 _ _ _ c0
  have d1 := take1 _ _ _ c1
  have d2 := take1 _ _ _ c2
  have d3 := take1 _ _ _ c3
  have d4 := take1 _ _ _ c4
  have d5 := take1 _ _ _ c5
  apply List.ext_getElem?
  intro j
  match j with
  | 0 => simpa [opr] using d0
  | 1 => simpa [opr] using d1
  | 2 => simpa [opr] using d2
  | 3 => simpa [opr] using d3
  | 4 => simpa [opr] using d4
  | 5 => simpa [opr] using d5
  | j + 6 => rw [List.getElem?_eq_none (by omega), List.getElem?_eq_none (by simp [opr])]
set_option maxRecDepth 100000 in
theorem open_op {H : Type} {enc : TypeId × Value → H} {w : World} {sp : Nat → Bool} {held : Bool} {r : Reach} {b0 : Nat} {v : Value} {d : DataW H} {ps : List MemPlace}
    (hval : Value.okWide Try.prog w r b0 27 v) (hd : DataW.Trod enc Try.prog w 0 sp held 27 v d ps) : ∃ f : Opv, v = .agg (opr f) ∧ f.wf := by
  unfold Value.okWide at hval
  rw [Try.underlying27] at hval
  obtain ⟨cs, rfl, _⟩ := hval
  obtain ⟨fuel, hf⟩ := hd
  obtain ⟨f, he, hw⟩ := open_opl hf
  refine ⟨f, ?_, hw⟩
  have : cs.toList = (opr f).toList := he
  rw [Array.toList_inj.1 this]
theorem open_ops {H : Type} {enc : TypeId × Value → H} {w : World} {sp : Nat → Bool} {held : Bool} {fuel : Nat} {cs : List Value} {x : DataW H × List MemPlace}
    (h : DataW.trod enc Try.prog w 0 sp held fuel 47 cs = some x) : ∃ a c, ∃ l : List Opv, cs = [.slice a l.length c] ∧ OpsAt w.heap.size w a l ∧ (∀ f ∈ l, f.wf) ∧ l.length ≤ maxLen := by
  rcases DataW.trod_slice Try.underlying47 h with ⟨h0, _⟩ | ⟨ad, len, cap, elems, rest, n, _, hcs, _, hb, hl, hm, hlen, hel, _⟩
  · exact ⟨none, 0, [], h0, .inl rfl, (fun e he => by cases he), Nat.zero_le _⟩
  · have each : ∀ i, i < len → ∃ f : Opv, w.cells? 0 (ad.add (i * 6)) 6 = some (opr f).toList ∧ f.wf := fun i hi => by
      have h1 := hel i hi
      rw [List.getElem?_eq_getElem (by omega), cells26] at h1
      cases hc : w.cells? 0 (ad.add (i * 6)) 6 with
      | none => rw [hc] at h1; cases h1
      | some cs =>
        rw [hc] at h1
        obtain ⟨f, he, hw⟩ := open_opl h1
        exact ⟨f, by rw [he], hw⟩
    have hex : ∃ g : Nat → Opv, ∀ i, i < len → w.cells? 0 (ad.add (i * 6)) 6 = some (opr (g i)).toList ∧ (g i).wf :=
      ⟨fun i => if hi : i < len then Classical.choose (each i hi) else emptyOp, fun i hi => by
        simp only [dif_pos hi]
        exact Classical.choose_spec (each i hi)⟩
    obtain ⟨g, hg⟩ := hex
    refine ⟨some ad, cap, (List.range len).map g, by simp [hcs], ?_, fun e he => ?_, by simp; omega⟩
    · by_cases h0 : len = 0
      · left; rw [h0]; rfl
      · right
        have hspot : ad.spot = none := by
          have h1 := (World.cells?_some (hg 0 (by omega)).1).2.2 0 (by decide)
          rw [Nat.zero_mul] at h1
          have h2 : (ad.add 0).add 0 = ad := by simp [Addr.add]
          rw [h2] at h1
          have h3 : (opr (g 0)).toList[0]? = some (.int .i64 (g 0).kind) := rfl
          unfold World.cell? at h1
          cases hs : ad.spot with
          | none => rfl
          | some q =>
            exfalso
            rw [hs] at h1
            split at h1 <;> simp [opr] at h1
        obtain ⟨b, o, sp⟩ := ad
        obtain rfl : sp = none := hspot
        refine ⟨b, o, rfl, ?_, fun k hk j v hv => ?_⟩
        · have := World.cells?_block (hg 0 (by omega)).1 (by decide)
          rw [Nat.zero_mul, Addr.add_mid] at this
          exact this
        · have hk' : k < len := by simpa using hk
          have h1 := World.cells?_some (hg k hk').1
          have hv' : (opr (g k)).toList[j]? = some v := by simpa using hv
          have hj : j < 6 := by
            have := (List.getElem?_eq_some_iff.1 hv').1
            simpa [opr] using this
          have h4 := h1.2.2 j hj
          rw [Addr.add_mid, Addr.add_mid] at h4
          rw [h4]
          exact hv'
    · obtain ⟨i, hi, rfl⟩ := List.mem_map.1 he
      exact (hg i (List.mem_range.1 hi)).2
end Go.Proofs.Ytphbkbjgjicncaa
