/-
  Files as they stand in memory: six cells, and the texts of their holds.
-/
import Derived.Test.YtphbkbjgjicncaaRows
import Derived.Test.YtphbkbjgjicncaaKw
import Derived.Lib.Hide
import Derived.Test.YtphbkbjgjicncaaShelf
namespace Go.Proofs.Ytphbkbjgjicncaa
open Go Go.RowKit

/-- A file, its holds as a slice value. -/
structure Fl where
  id : Int
  nm : ByteArray
  da : ByteArray
  se : Bool
  un : Int
  ha : Option Addr
  hn : Nat
  hc : Nat
def flr (f : Fl) : Array Value := #[.int .i64 f.id, .string f.nm, .string f.da, .bool f.se, .int .i64 f.un, .slice f.ha f.hn f.hc]
theorem flr_size (f : Fl) : (flr f).size = 6 := rfl
theorem flr_one (f : Fl) : (flr f).all (·.oneCell') = true := by
  simp [flr, Value.oneCell']
theorem info27 : (Try.prog.info? 24).map (·.size) = some 6 := by kernel_rfl
theorem row27 (f : Fl) : (Try.prog.info? 24).map (·.size) = some (flr f).size := info27
theorem flr_same (f g : Fl) : (flr f).size = (flr g).size := rfl
def fl0 : Fl := ⟨0, ⟨#[]⟩, ⟨#[]⟩, false, 0, none, 0, 0⟩
theorem zero27 (w : World) : (zeroValue 24).run Try.prog w = .ok (.agg (flr fl0)) w := (Try.zeroValue24 w).trans rfl
theorem z27 : (Try.prog.info? 24).map (·.zero) = some (some (.agg (flr fl0))) := by kernel_rfl

/-- Texts that lie at an address, below B. -/
def StrAt (B : Nat) (w : World) (a : Option Addr) (L : List ByteArray) : Prop :=
  L = [] ∨ ∃ b o, a = some ⟨b, o, none⟩ ∧ b < B ∧ ∀ k (h : k < L.length), w.cell? ⟨b, o + k, none⟩ = some (.string L[k])
theorem StrAt.past {B : Nat} {w v : World} {a : Option Addr} {L : List ByteArray} (h : StrAt B w a L) (hb : Below B w v) : StrAt B v a L := by
  rcases h with h | ⟨b, o, h1, h2, h3⟩
  · exact .inl h
  · exact .inr ⟨b, o, h1, h2, fun k hk => (hb.cell (p := ⟨b, o + k, none⟩) h2).trans (h3 k hk)⟩
theorem StrAt.mono {B B' : Nat} {w : World} {a : Option Addr} {L : List ByteArray} (h : StrAt B w a L) (hb : B ≤ B') : StrAt B' w a L := by
  rcases h with h | ⟨b, o, h1, h2, h3⟩
  · exact .inl h
  · exact .inr ⟨b, o, h1, by omega, h3⟩
theorem StrAt.on {w v : World} {a : Option Addr} {L : List ByteArray} (h : StrAt w.heap.size w a L) (hb : Below w.heap.size w v) : StrAt v.heap.size v a L := (h.past hb).mono hb.size
theorem StrAt.none (B : Nat) (w : World) (a : Option Addr) : StrAt B w a [] := .inl rfl
def strs (L : List ByteArray) : List Value := L.map Value.string
/-- A slice that owns its texts reads as them. -/
theorem strAt_own {B : Nat} {w : World} {a : Option Addr} {n c : Nat} {L : List ByteArray} (h : w.ownsRow B 9 1 (.slice a n c) n (strs L)) : StrAt w.heap.size w a L := by
  rcases h.2 with ⟨_, h0⟩ | ⟨g, cap, cur, h1, _, h3, _, _, _, h7⟩
  · left
    have := h.1
    rw [h0] at this
    simpa [strs] using this
  · injection h1 with h1 _ _
    refine .inr ⟨g, 0, h1, lt_of_some h3, fun k hk => ?_⟩
    rw [cell_of_row w g _ _ _ _ h3, Nat.zero_add]
    have h8 : (cur.toList.take (n * 1))[k]? = (strs L)[k]? := by rw [h7]
    rw [List.getElem?_take_of_lt (by have := h.1; simp [strs] at this; omega), Array.getElem?_toList] at h8
    rw [h8]; simp [strs, hk]
theorem own_len {B : Nat} {w : World} {v : Value} {n : Nat} {L : List ByteArray} (h : w.ownsRow B 9 1 v n (strs L)) : L.length = n := by
  have := h.1; simpa [strs] using this
theorem own_same {n₀ : Nat} {e : TypeId} {sz k : Nat} {xs : List Value} {W W' : World} {v : Value} (h : W.ownsRow n₀ e sz v k xs) (hs : ∀ g, v.ownBlock = some g → W'.heap[g]? = W.heap[g]?) : W'.ownsRow n₀ e sz v k xs := by
  refine ⟨h.1, ?_⟩
  rcases h.2 with h0 | ⟨g, cap, cur, rfl, h1, h2, h3⟩
  · exact .inl h0
  · exact .inr ⟨g, cap, cur, rfl, h1, (hs g rfl).trans h2, h3⟩
theorem own_at {n₀ : Nat} {e : TypeId} {sz k : Nat} {xs : List Value} {W : World} {v : Value} (h : W.ownsRow n₀ e sz v k xs) {g : Nat} (hg : v.ownBlock = some g) : ∃ c, W.heap[g]? = some (.cells c e) ∧ n₀ ≤ g := by
  rcases h.2 with ⟨rfl, _⟩ | ⟨g', cap, cur, rfl, h1, h2, _⟩
  · cases hg
  · cases hg; exact ⟨cur, h2, h1⟩
theorem own_mono {n₀ base : Nat} {e : TypeId} {sz k : Nat} {xs : List Value} {W : World} {v : Value} (h : W.ownsRow base e sz v k xs) (hn : n₀ ≤ base) : W.ownsRow n₀ e sz v k xs := by
  refine ⟨h.1, ?_⟩
  rcases h.2 with h0 | ⟨g, cap, cur, rfl, h1, h2, h3⟩
  · exact .inl h0
  · exact .inr ⟨g, cap, cur, rfl, by omega, h2, h3⟩
theorem own_past {n₀ : Nat} {e : TypeId} {sz k : Nat} {xs : List Value} {W W' : World} {v : Value} (h : W.ownsRow n₀ e sz v k xs) (hb : Below W.heap.size W W') : W'.ownsRow n₀ e sz v k xs :=
  own_same h fun g hg => by obtain ⟨c, hc, _⟩ := own_at h hg; exact hb.block _ (lt_of_some hc)
/-- A slice that owns a row is a slice. -/
theorem own_slice {n₀ : Nat} {e : TypeId} {sz k : Nat} {xs : List Value} {W : World} {v : Value} (h : W.ownsRow n₀ e sz v k xs) : ∃ a c, v = .slice a k c ∧ k ≤ c ∧ c ≤ maxLen := by
  rcases h.2 with ⟨rfl, rfl⟩ | ⟨g, cap, cur, rfl, _, _, h4, h5, _⟩
  · exact ⟨none, 0, rfl, Nat.le_refl _, Nat.zero_le _⟩
  · exact ⟨_, cap, rfl, h4, h5⟩

/-- A copy of texts. -/
theorem clone_any (a : Option Addr) (c : Nat) (L : List ByteArray) (w : World) (h : StrAt w.heap.size w a L) (hL : L.length ≤ 1000) :
    Calls Try.prog 54 #[.slice a L.length c] w fun e w' => ∃ a' c', e = .returned (.slice a' L.length c') ∧ w'.ownsRow w.heap.size 9 1 (.slice a' L.length c') L.length (strs L) ∧ Below w.heap.size w w' := by
  rcases h with rfl | ⟨b, o, rfl, _, h3⟩
  · cases a with
    | none =>
      refine (Try.slices_Clone_string_nil _ _ _).mono ?_
      rintro e w' ⟨rfl, rfl⟩
      exact ⟨none, 0, rfl, World.ownsRow_nil _ _ _ _, Below.refl _ _⟩
    | some p =>
      refine (Try.slices_Clone_string_zero p c w).mono ?_
      rintro e w' ⟨v, rfl, h1, _, h2⟩
      obtain ⟨a', c', rfl, _⟩ := own_slice h1
      exact ⟨a', c', rfl, h1, h2⟩
  · refine (Try.slices_Clone_string b o L.length c L w (Nat.le_refl _) (by omega) (fun j hj => by rw [h3 j hj, List.getD_eq_getElem?_getD, List.getElem?_eq_getElem hj]; rfl)).mono ?_
    rintro e w' ⟨v, rfl, h1, _, h2⟩
    obtain ⟨a', c', rfl, _⟩ := own_slice h1
    rw [List.take_length] at h1
    exact ⟨a', c', rfl, h1, h2⟩
/-- A slice that owns its row is not turned by what is written elsewhere. -/
theorem own_row {n₀ : Nat} {e : TypeId} {sz k : Nat} {xs : List Value} {W : World} {v : Value} (h : W.ownsRow n₀ e sz v k xs) {b : Nat} (hb : b < n₀) (c : Array Value) : (W.setRow b c).ownsRow n₀ e sz v k xs :=
  own_same h fun g hg => by obtain ⟨_, _, hge⟩ := own_at h hg; exact setRow_other _ _ _ _ (by omega)
theorem setCell_other (w : World) (b j g : Nat) (v : Value) (h : g ≠ b) : (w.setCell ⟨b, j, none⟩ v).heap[g]? = w.heap[g]? := by
  simp only [World.setCell]
  rw [Array.getElem?_modify, if_neg (fun e => h e.symm)]
theorem own_set {n₀ : Nat} {e : TypeId} {sz k : Nat} {xs : List Value} {W : World} {v : Value} (h : W.ownsRow n₀ e sz v k xs) {b : Nat} (hb : b < n₀) (j : Nat) (y : Value) : (W.setCell ⟨b, j, none⟩ y).ownsRow n₀ e sz v k xs :=
  own_same h fun g hg => by obtain ⟨_, _, hge⟩ := own_at h hg; exact setCell_other _ _ _ _ _ (by omega)
/-- Texts that lie at an address, from B on. -/
def Fr (B : Nat) (w : World) (a : Option Addr) (L : List ByteArray) : Prop :=
  L = [] ∨ ∃ b o, a = some ⟨b, o, none⟩ ∧ B ≤ b ∧ b < w.heap.size ∧ ∀ k (h : k < L.length), w.cell? ⟨b, o + k, none⟩ = some (.string L[k])
theorem Fr.str {B : Nat} {w : World} {a : Option Addr} {L : List ByteArray} (h : Fr B w a L) : StrAt w.heap.size w a L := by
  rcases h with h | ⟨b, o, h1, _, h2, h3⟩
  · exact .inl h
  · exact .inr ⟨b, o, h1, h2, h3⟩
theorem cell_same {w v : World} {b j : Nat} (h : v.heap[b]? = w.heap[b]?) : v.cell? ⟨b, j, none⟩ = w.cell? ⟨b, j, none⟩ := by
  unfold World.cell?
  rw [show (⟨b, j, none⟩ : Addr).block = b from rfl, h]
theorem Fr.keep {B : Nat} {w v : World} {a : Option Addr} {L : List ByteArray} (h : Fr B w a L) (hs : w.heap.size ≤ v.heap.size) (hk : ∀ b, B ≤ b → b < w.heap.size → v.heap[b]? = w.heap[b]?) : Fr B v a L := by
  rcases h with h | ⟨b, o, h1, h2, h3, h4⟩
  · exact .inl h
  · exact .inr ⟨b, o, h1, h2, Nat.lt_of_lt_of_le h3 hs, fun k hk' => (cell_same (hk b h2 h3)).trans (h4 k hk')⟩
theorem size_setRow (w : World) (b : Nat) (c : Array Value) : (w.setRow b c).heap.size = w.heap.size := by simp [World.setRow]
theorem size_setCell (w : World) (p : Addr) (y : Value) : (w.setCell p y).heap.size = w.heap.size := by simp [World.setCell]
theorem Fr.row {B : Nat} {w : World} {a : Option Addr} {L : List ByteArray} (h : Fr B w a L) {b : Nat} (hb : b < B) (c : Array Value) : Fr B (w.setRow b c) a L :=
  h.keep (by rw [size_setRow]; exact Nat.le_refl _) fun k hk _ => setRow_other _ _ _ _ (by omega)
theorem Fr.set {B : Nat} {w : World} {a : Option Addr} {L : List ByteArray} (h : Fr B w a L) {b : Nat} (hb : b < B) (j : Nat) (y : Value) : Fr B (w.setCell ⟨b, j, none⟩ y) a L :=
  h.keep (by rw [size_setCell]; exact Nat.le_refl _) fun k hk _ => setCell_other _ _ _ _ _ (by omega)
/-- What a call comes to that answers a file, and a number: its holds lie in a row of their own. -/
def Res (g : Fl) (code : Int) (L : List ByteArray) (w : World) (e : Ending) (w' : World) : Prop :=
  ∃ a' c', e = .returned (.tuple #[.agg (flr { g with ha := a', hn := L.length, hc := c' }), .int .i64 code]) ∧ Fr w.heap.size w' a' L ∧ Below w.heap.size w w'
theorem Fr.less {B B' : Nat} {w : World} {a : Option Addr} {L : List ByteArray} (h : Fr B w a L) (hB : B' ≤ B) : Fr B' w a L := by
  rcases h with h | ⟨b, o, h1, h2, h3⟩
  · exact .inl h
  · exact .inr ⟨b, o, h1, by omega, h3⟩
theorem fr_own {B : Nat} {w : World} {a : Option Addr} {n c : Nat} {L : List ByteArray} (h : w.ownsRow B 9 1 (.slice a n c) n (strs L)) : Fr B w a L := by
  rcases strAt_own h with h0 | ⟨b, o, h1, h2, h3⟩
  · exact .inl h0
  · refine .inr ⟨b, o, h1, ?_, h2, h3⟩
    rcases h.2 with ⟨q, _⟩ | ⟨g, cap, cur, q, hg, _⟩
    · injection q with q _ _
      rw [h1] at q; cases q
    · injection q with q _ _
      rw [h1] at q
      injection q with q
      injection q with q _ _
      omega
theorem Res.mk {g : Fl} {code : Int} {L : List ByteArray} {w w' : World} {a' : Option Addr} {c' n₀ : Nat} (ho : w'.ownsRow n₀ 9 1 (.slice a' L.length c') L.length (strs L)) (hb : Below w.heap.size w w') (hn : w.heap.size ≤ n₀ := by omega) : Res g code L w (.returned (.tuple #[.agg (flr { g with ha := a', hn := L.length, hc := c' }), .int .i64 code])) w' :=
  ⟨a', c', rfl, (fr_own ho).less hn, hb⟩
theorem Res.fr {B : Nat} {g : Fl} {code : Int} {L : List ByteArray} {w w' : World} {a' : Option Addr} {c' : Nat} (h : Fr B w' a' L) (hb : Below w.heap.size w w') (hB : w.heap.size ≤ B := by omega) : Res g code L w (.returned (.tuple #[.agg (flr { g with ha := a', hn := L.length, hc := c' }), .int .i64 code])) w' :=
  ⟨a', c', rfl, h.less hB, hb⟩
theorem KW.fse {B : Nat} {w v : World} {L : List (Nat × Obj)} (h : KW B w L v) (i : Nat) {b : Nat} {f : Fl} {t : TypeId} (hi : L[i]? = some (b, .cells (flr f) t)) (hb : B ≤ b) (y : Bool) : KW B w (L.set i (b, .cells (flr { f with se := y }) t)) (v.setCell ⟨b, 3, none⟩ (.bool y)) :=
  have e : (flr f).setIfInBounds 3 (.bool y) = flr { f with se := y } := by simp [flr]
  e ▸ h.set i hi hb 3 (.bool y)
theorem KW.fut {B : Nat} {w v : World} {L : List (Nat × Obj)} (h : KW B w L v) (i : Nat) {b : Nat} {f : Fl} {t : TypeId} (hi : L[i]? = some (b, .cells (flr f) t)) (hb : B ≤ b) (y : Int) : KW B w (L.set i (b, .cells (flr { f with un := y }) t)) (v.setCell ⟨b, 4, none⟩ (.int .i64 y)) :=
  have e : (flr f).setIfInBounds 4 (.int .i64 y) = flr { f with un := y } := by simp [flr]
  e ▸ h.set i hi hb 4 (.int .i64 y)
theorem KW.fho {B : Nat} {w v : World} {L : List (Nat × Obj)} (h : KW B w L v) (i : Nat) {b : Nat} {f : Fl} {t : TypeId} (hi : L[i]? = some (b, .cells (flr f) t)) (hb : B ≤ b) (a : Option Addr) (n c : Nat) : KW B w (L.set i (b, .cells (flr { f with ha := a, hn := n, hc := c }) t)) (v.setCell ⟨b, 5, none⟩ (.slice a n c)) :=
  have e : (flr f).setIfInBounds 5 (.slice a n c) = flr { f with ha := a, hn := n, hc := c } := by simp [flr]
  e ▸ h.set i hi hb 5 (.slice a n c)
end Go.Proofs.Ytphbkbjgjicncaa
