/-
  Files that came in, as the statements' form reads them.
-/
import Derived.Test.YtphbkbjgjicncaaQuiet
import Derived.ChangeArms
import Derived.ChangeOld
import Derived.DataReads
import Derived.WalkKit
import Derived.ProofKit
import Derived.OpenShut
import Derived.ShutString
namespace Go.Proofs.Ytphbkbjgjicncaa
open Go Go.RowKit Go.ChangeShapes Go.WideShapes Go.ChangeAt

def i64 (n : Int) : Prop := -9223372036854775808 ≤ n ∧ n ≤ 9223372036854775807
theorem cells27 : Try.prog.cellsOf 24 = 6 := by kernel_rfl
theorem cells25 : Try.prog.cellsOf 22 = 1 := by kernel_rfl
theorem cells3 : Try.prog.cellsOf 3 = 1 := by kernel_rfl
theorem cells4 : Try.prog.cellsOf 4 = 1 := by kernel_rfl
theorem cells9 : Try.prog.cellsOf 9 = 1 := by kernel_rfl
theorem take1 (l : List Value) (i : Nat) (v : Value) (h : (l.drop i).take 1 = [v]) : l[i]? = some v := by
  have := congrArg (·[0]?) h
  simpa using this
/-- What is known of a file that came in. -/
structure Fl.wf (f : Fl) (w : World) (L : List ByteArray) : Prop where
  at_ : StrAt w.heap.size w f.ha L
  n : f.hn = L.length
  m : L.length ≤ maxLen
  s : ∀ x ∈ L, x.size ≤ maxLen
  nm : f.nm.size ≤ maxLen
  da : f.da.size ≤ maxLen
  i : i64 f.id
  u : i64 f.un
  c : f.hn ≤ f.hc
  nil : f.ha = none → f.hc = 0
theorem open_strs {H : Type} {enc : TypeId × Value → H} {w : World} {sp : Nat → Bool} {held : Bool} {fuel : Nat} {cs : List Value} {x : DataW H × List MemPlace}
    (h : DataW.trod enc Try.prog w 0 sp held fuel 22 cs = some x) : ∃ a c, ∃ L : List ByteArray, cs = [.slice a L.length c] ∧ StrAt w.heap.size w a L ∧ (∀ s ∈ L, s.size ≤ maxLen) ∧ L.length ≤ maxLen ∧ L.length ≤ c ∧ (a = none → c = 0) := by
  rcases DataW.trod_slice Try.underlying22 h with ⟨h0, _⟩ | ⟨ad, len, cap, elems, rest, n, _, hcs, _, hb, hl, hm, hlen, hel, _⟩
  · exact ⟨none, 0, [], h0, .inl rfl, (fun e he => by cases he), Nat.zero_le _, Nat.le_refl _, fun _ => rfl⟩
  · have each : ∀ i, i < len → ∃ s : ByteArray, w.cells? 0 (ad.add (i * 1)) 1 = some [.string s] ∧ s.size ≤ maxLen := fun i hi => by
      have h1 := hel i hi
      rw [List.getElem?_eq_getElem (by omega), cells9] at h1
      cases hc : w.cells? 0 (ad.add (i * 1)) 1 with
      | none => rw [hc] at h1; cases h1
      | some cs =>
        rw [hc] at h1
        obtain ⟨s, c2, _, w2⟩ := DataW.trod_string Try.underlying9 h1
        exact ⟨s, by rw [c2], w2⟩
    have hex : ∃ f : Nat → ByteArray, ∀ i, i < len → w.cells? 0 (ad.add (i * 1)) 1 = some [.string (f i)] ∧ (f i).size ≤ maxLen :=
      ⟨fun i => if hi : i < len then Classical.choose (each i hi) else ByteArray.empty, fun i hi => by simp only [dif_pos hi]; exact Classical.choose_spec (each i hi)⟩
    obtain ⟨f, hf⟩ := hex
    refine ⟨some ad, cap, (List.range len).map f, by simp [hcs], ?_, fun e he => ?_, by simp; omega, by simpa using (by omega : len ≤ cap), fun e => by cases e⟩
    · by_cases h0 : len = 0
      · left; rw [h0]; rfl
      · right
        have hat : ∀ k, k < len → w.cell? (ad.add k) = some (.string (f k)) := fun k hk => by
          have h1 := (World.cells?_some (hf k hk).1).2.2 0 (by decide)
          rw [Nat.mul_one] at h1
          have h2 : (ad.add k).add 0 = ad.add k := by simp [Addr.add]
          rw [h2] at h1
          simpa using h1
        have hspot : ad.spot = none := by
          have h1 := hat 0 (by omega)
          unfold World.cell? at h1
          cases hs : ad.spot with
          | none => rfl
          | some q =>
            exfalso
            have : (ad.add 0).spot = some q := by simp [Addr.add, hs]
            rw [this] at h1
            split at h1 <;> simp at h1
        obtain ⟨b, o, sp⟩ := ad
        obtain rfl : sp = none := hspot
        refine ⟨b, o, rfl, ?_, fun k hk => ?_⟩
        · have := World.cells?_block (hf 0 (by omega)).1 (by decide)
          rw [Nat.zero_mul, Addr.add_mid] at this
          exact this
        · have hk' : k < len := by simpa using hk
          have := hat k hk'
          rw [Addr.add_mid] at this
          simpa using this
    · obtain ⟨i, hi, rfl⟩ := List.mem_map.1 he
      exact (hf i (List.mem_range.1 hi)).2
/-- Integers that lie at an address, below B. -/
def IntAt (B : Nat) (w : World) (a : Option Addr) (L : List Int) : Prop :=
  L = [] ∨ ∃ b o, a = some ⟨b, o, none⟩ ∧ b < B ∧ ∀ k (h : k < L.length), w.cell? ⟨b, o + k, none⟩ = some (.int .i64 L[k])
theorem IntAt.past {B : Nat} {w v : World} {a : Option Addr} {L : List Int} (h : IntAt B w a L) (hb : Below B w v) : IntAt B v a L := by
  rcases h with h | ⟨b, o, h1, h2, h3⟩
  · exact .inl h
  · exact .inr ⟨b, o, h1, h2, fun k hk => (hb.cell (p := ⟨b, o + k, none⟩) h2).trans (h3 k hk)⟩
theorem open_ints {H : Type} {enc : TypeId × Value → H} {w : World} {sp : Nat → Bool} {held : Bool} {fuel : Nat} {cs : List Value} {x : DataW H × List MemPlace}
    (h : DataW.trod enc Try.prog w 0 sp held fuel 48 cs = some x) : ∃ a c, ∃ L : List Int, cs = [.slice a L.length c] ∧ IntAt w.heap.size w a L ∧ (∀ s ∈ L, i64 s) ∧ L.length ≤ maxLen := by
  rcases DataW.trod_slice Try.underlying48 h with ⟨h0, _⟩ | ⟨ad, len, cap, elems, rest, n, _, hcs, _, hb, hl, hm, hlen, hel, _⟩
  · exact ⟨none, 0, [], h0, .inl rfl, (fun e he => by cases he), Nat.zero_le _⟩
  · have each : ∀ i, i < len → ∃ s : Int, w.cells? 0 (ad.add (i * 1)) 1 = some [.int .i64 s] ∧ i64 s := fun i hi => by
      have h1 := hel i hi
      rw [List.getElem?_eq_getElem (by omega), cells3] at h1
      cases hc : w.cells? 0 (ad.add (i * 1)) 1 with
      | none => rw [hc] at h1; cases h1
      | some cs =>
        rw [hc] at h1
        obtain ⟨s, c2, _, w2⟩ := DataW.trod_int Try.underlying3 h1
        exact ⟨s, by rw [c2], bounds_i64 w2⟩
    have hex : ∃ f : Nat → Int, ∀ i, i < len → w.cells? 0 (ad.add (i * 1)) 1 = some [.int .i64 (f i)] ∧ i64 (f i) :=
      ⟨fun i => if hi : i < len then Classical.choose (each i hi) else 0, fun i hi => by simp only [dif_pos hi]; exact Classical.choose_spec (each i hi)⟩
    obtain ⟨f, hf⟩ := hex
    refine ⟨some ad, cap, (List.range len).map f, by simp [hcs], ?_, fun e he => ?_, by simp; omega⟩
    · by_cases h0 : len = 0
      · left; rw [h0]; rfl
      · right
        have hat : ∀ k, k < len → w.cell? (ad.add k) = some (.int .i64 (f k)) := fun k hk => by
          have h1 := (World.cells?_some (hf k hk).1).2.2 0 (by decide)
          rw [Nat.mul_one] at h1
          have h2 : (ad.add k).add 0 = ad.add k := by simp [Addr.add]
          rw [h2] at h1
          simpa using h1
        have hspot : ad.spot = none := by
          have h1 := hat 0 (by omega)
          unfold World.cell? at h1
          cases hs : ad.spot with
          | none => rfl
          | some q =>
            exfalso
            have : (ad.add 0).spot = some q := by simp [Addr.add, hs]
            rw [this] at h1
            split at h1 <;> simp at h1
        obtain ⟨b, o, sp⟩ := ad
        obtain rfl : sp = none := hspot
        refine ⟨b, o, rfl, ?_, fun k hk => ?_⟩
        · have := World.cells?_block (hf 0 (by omega)).1 (by decide)
          rw [Nat.zero_mul, Addr.add_mid] at this
          exact this
        · have hk' : k < len := by simpa using hk
          have := hat k hk'
          rw [Addr.add_mid] at this
          simpa using this
    · obtain ⟨i, hi, rfl⟩ := List.mem_map.1 he
      exact (hf i (List.mem_range.1 hi)).2
theorem open_fl {H : Type} {enc : TypeId × Value → H} {w : World} {sp : Nat → Bool} {held : Bool} {fuel : Nat} {cs : List Value} {x : DataW H × List MemPlace}
    (h : DataW.trod enc Try.prog w 0 sp held fuel 24 cs = some x) : ∃ f : Fl, ∃ L, cs = (flr f).toList ∧ f.wf w L := by
  obtain ⟨xs, n, _, _, hl, hxl, hf⟩ := DataW.trod_struct Try.underlying24 h
  rw [cells27] at hl
  have get : ∀ i (hi : i < xs.length), xs[i]? = some xs[i] := fun i hi => List.getElem?_eq_getElem hi
  have hx6 : xs.length = 6 := hxl
  have f0 : DataW.trod enc Try.prog w 0 sp held n 3 ((cs.drop 0).take (Try.prog.cellsOf 3)) = xs[0]? := hf 0 _ rfl
  have f1 : DataW.trod enc Try.prog w 0 sp held n 9 ((cs.drop 1).take (Try.prog.cellsOf 9)) = xs[1]? := hf 1 _ rfl
  have f2 : DataW.trod enc Try.prog w 0 sp held n 9 ((cs.drop 2).take (Try.prog.cellsOf 9)) = xs[2]? := hf 2 _ rfl
  have f3 : DataW.trod enc Try.prog w 0 sp held n 4 ((cs.drop 3).take (Try.prog.cellsOf 4)) = xs[3]? := hf 3 _ rfl
  have f4 : DataW.trod enc Try.prog w 0 sp held n 3 ((cs.drop 4).take (Try.prog.cellsOf 3)) = xs[4]? := hf 4 _ rfl
  have f5 : DataW.trod enc Try.prog w 0 sp held n 22 ((cs.drop 5).take (Try.prog.cellsOf 22)) = xs[5]? := hf 5 _ rfl
  rw [get 0 (by omega), cells3] at f0
  rw [get 1 (by omega), cells9] at f1
  rw [get 2 (by omega), cells9] at f2
  rw [get 3 (by omega), cells4] at f3
  rw [get 4 (by omega), cells3] at f4
  rw [get 5 (by omega), cells25] at f5
  obtain ⟨i, c0, _, w0⟩ := DataW.trod_int Try.underlying3 f0
  obtain ⟨nm, c1, _, w1⟩ := DataW.trod_string Try.underlying9 f1
  obtain ⟨da, c2, _, w2⟩ := DataW.trod_string Try.underlying9 f2
  obtain ⟨se, c3, _⟩ := DataW.trod_bool Try.underlying4 f3
  obtain ⟨un, c4, _, w4⟩ := DataW.trod_int Try.underlying3 f4
  obtain ⟨a, c, L, c5, hs, hz, hm, hc, hnil⟩ := open_strs f5
  refine ⟨⟨i, nm, da, se, un, a, L.length, c⟩, L, ?_, ⟨hs, rfl, hm, hz, w1, w2, bounds_i64 w0, bounds_i64 w4, hc, hnil⟩⟩
  have d0 := take1 _ _ _ c0
  have d1 := take1 _ _ _ c1
  have d2 := take1 _ _ _ c2
  have d3 := take1 _ _ _ c3
  have d4 := take1 _ _ _ c4
  have d5 := take1 _ _ _ c5
  apply List.ext_getElem?
  intro j
  match j with
  | 0 => simpa [flr] using d0
  | 1 => simpa [flr] using d1
  | 2 => simpa [flr] using d2
  | 3 => simpa [flr] using d3
  | 4 => simpa [flr] using d4
  | 5 => simpa [flr] using d5
  | j + 6 => rw [List.getElem?_eq_none (by omega), List.getElem?_eq_none (by simp [flr])]
set_option maxRecDepth 100000 in
theorem open_file {H : Type} {enc : TypeId × Value → H} {w : World} {sp : Nat → Bool} {held : Bool} {r : Reach} {b0 : Nat} {v : Value} {d : DataW H} {ps : List MemPlace}
    (hval : Value.okWide Try.prog w r b0 24 v) (hd : DataW.Trod enc Try.prog w 0 sp held 24 v d ps) : ∃ f : Fl, ∃ L, v = .agg (flr f) ∧ f.wf w L := by
  unfold Value.okWide at hval
  rw [Try.underlying24] at hval
  obtain ⟨cs, rfl, _⟩ := hval
  obtain ⟨fuel, hf⟩ := hd
  obtain ⟨f, L, he, hw⟩ := open_fl hf
  refine ⟨f, L, ?_, hw⟩
  have : cs.toList = (flr f).toList := he
  rw [Array.toList_inj.1 this]
end Go.Proofs.Ytphbkbjgjicncaa
