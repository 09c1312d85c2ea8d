/-
  What a loop that collects bears: a variable's box that holds a slice of its own, beside rows that are apart from it.
-/
import Derived.Test.YtfilolmbppjbjaaGreatLinks
import Derived.RangeFuncBox
import Derived.Maps.AppendAt
namespace Go.Proofs.YtfilolmbppjbjaaGreat
open Go Go.RowKit

theorem KW.rowOther {B : Nat} {w v : World} {L : List (Nat × Obj)} (h : KW B w L v) {b : Nat} (hb : B ≤ b) (hn : b ∉ L.map Prod.fst) (c : Array Value) : KW B w L (v.setRow b c) :=
  ⟨h.le, below_setRow h.bel hb _, fun x hx => by
    rw [setRow_other _ _ _ _ (fun e => hn (by rw [← e]; exact List.mem_map_of_mem hx))]; exact h.has x hx, h.nd⟩
theorem KW.obj {B : Nat} {w v : World} {L : List (Nat × Obj)} (h : KW B w L v) (hc : ∀ x ∈ L, x.2.isCells = true) {k : Nat} {o : Obj} (o' : Obj) (hk : B ≤ k) (hh : v.heap[k]? = some o) (ho : o.isCells = false) : KW B w L (v.putObj k o') :=
  ⟨h.le, h.bel.trans ((Below.refl B v).grown (grownBy_putObj' v k o') (by have := lt_of_some hh; omega) (fun j e => by cases e; omega)), fun x hx => by
    have h1 := h.has x hx
    have hne : x.1 ≠ k := by
      intro e
      rw [e, hh] at h1
      cases h1
      rw [hc x hx] at ho
      cases ho
    rw [heap_putObj_ne hne]; exact h1, h.nd⟩

/-- The box B, of type t, holds a slice that owns xs. -/
def SC (n₀ B : Nat) (t e : TypeId) (sz : Nat) (k : Nat) (xs : List Value) (W : World) : Prop := ∃ v, Boxed W B t v ∧ W.ownsRow n₀ e sz v k xs ∧ (k = 0 → v = .slice none 0 0)
/-- The slice of the box B lies behind b. -/
def SB (B : Nat) (t : TypeId) (b : Nat) (W : World) : Prop := b ≠ B ∧ ∃ v, Boxed W B t v ∧ b < W.heap.size ∧ ∀ g, v.ownBlock = some g → b < g
theorem own_lt {n₀ : Nat} {e : TypeId} {sz k : Nat} {xs : List Value} {W : World} {v : Value} (h : W.ownsRow n₀ e sz v k xs) {g : Nat} (hg : v.ownBlock = some g) : ∃ c, W.heap[g]? = some (.cells c e) ∧ n₀ ≤ g := by
  rcases h.2 with ⟨rfl, _⟩ | ⟨g', cap, cur, rfl, h1, h2, _⟩
  · cases hg
  · cases hg; exact ⟨cur, h2, h1⟩
theorem own_same {n₀ : Nat} {e : TypeId} {sz k : Nat} {xs : List Value} {W W' : World} {v : Value} (h : W.ownsRow n₀ e sz v k xs) (hs : ∀ g, v.ownBlock = some g → W'.heap[g]? = W.heap[g]?) : W'.ownsRow n₀ e sz v k xs := by
  refine ⟨h.1, ?_⟩
  rcases h.2 with h0 | ⟨g, cap, cur, rfl, h1, h2, h3⟩
  · exact .inl h0
  · exact .inr ⟨g, cap, cur, rfl, h1, (hs g rfl).trans h2, h3⟩
theorem own_base {n₀ : Nat} {e : TypeId} {sz k : Nat} {xs : List Value} {W : World} {v : Value} (h : W.ownsRow n₀ e sz v k xs) (hn : n₀ ≤ W.heap.size) : ∃ base, W.ownsRow base e sz v k xs ∧ n₀ ≤ base ∧ base ≤ W.heap.size ∧ ∀ b, b < W.heap.size → (∀ g, v.ownBlock = some g → b < g) → b < base := by
  rcases h.2 with ⟨rfl, h0⟩ | ⟨g, cap, cur, rfl, h1, h2, h3⟩
  · exact ⟨W.heap.size, ⟨h.1, .inl ⟨rfl, h0⟩⟩, hn, Nat.le_refl _, fun b hb _ => hb⟩
  · exact ⟨g, ⟨h.1, .inr ⟨g, cap, cur, rfl, Nat.le_refl _, h2, h3⟩⟩, h1, Nat.le_of_lt (lt_of_some h2), fun b _ hb => hb g rfl⟩
theorem own_mono {n₀ base : Nat} {e : TypeId} {sz k : Nat} {xs : List Value} {W : World} {v : Value} (h : W.ownsRow base e sz v k xs) (hn : n₀ ≤ base) : W.ownsRow n₀ e sz v k xs := by
  refine ⟨h.1, ?_⟩
  rcases h.2 with h0 | ⟨g, cap, cur, rfl, h1, h2, h3⟩
  · exact .inl h0
  · exact .inr ⟨g, cap, cur, rfl, by omega, h2, h3⟩

theorem SC.grow {n₀ B : Nat} {t e : TypeId} {sz k : Nat} {xs : List Value} {X Y : World} (h : SC n₀ B t e sz k xs X) (hb : Below X.heap.size X Y) : SC n₀ B t e sz k xs Y := by
  obtain ⟨v, h1, h2, h3⟩ := h
  exact ⟨v, (hb.block _ h1.lt).trans h1, own_same h2 (fun g hg => by obtain ⟨c, hc, _⟩ := own_lt h2 hg; exact hb.block _ (lt_of_some hc)), h3⟩
theorem SC.row {n₀ B : Nat} {t e : TypeId} {sz k : Nat} {xs : List Value} {X : World} (h : SC n₀ B t e sz k xs X) {b : Nat} (hb : SB B t b X) (c : Array Value) : SC n₀ B t e sz k xs (X.setRow b c) := by
  obtain ⟨v, h1, h2, h3⟩ := h
  obtain ⟨hne, v', h1', hl, hg'⟩ := hb
  obtain rfl : v = v' := by have := (show X.heap[B]? = _ from h1).symm.trans h1'; simpa using this
  exact ⟨v, (setRow_other _ _ _ _ (Ne.symm hne)).trans h1, own_same h2 (fun g hg => setRow_other _ _ _ _ (by have := hg' g hg; omega)), h3⟩
theorem SC.obj {n₀ B : Nat} {t e : TypeId} {sz k : Nat} {xs : List Value} {X : World} (h : SC n₀ B t e sz k xs X) {j : Nat} {o : Obj} (o' : Obj) (hh : X.heap[j]? = some o) (ho : o.isCells = false) : SC n₀ B t e sz k xs (X.putObj j o') := by
  obtain ⟨v, h1, h2, h3⟩ := h
  have hne : ∀ g c t', X.heap[g]? = some (.cells c t') → g ≠ j := by
    intro g c t' hg e
    rw [e, hh] at hg
    cases hg
    cases ho
  exact ⟨v, (heap_putObj_ne (hne B _ _ h1)).trans h1, own_same h2 (fun g hg => by obtain ⟨c, hc, _⟩ := own_lt h2 hg; exact heap_putObj_ne (hne g _ _ hc)), h3⟩
theorem SB.grow {B : Nat} {t : TypeId} {b : Nat} {X Y : World} (h : SB B t b X) (hb : Below X.heap.size X Y) : SB B t b Y := by
  obtain ⟨hne, v, h1, hl, hg⟩ := h
  exact ⟨hne, v, (hb.block _ h1.lt).trans h1, Nat.lt_of_lt_of_le hl hb.size, hg⟩
theorem SB.row {B : Nat} {t : TypeId} {b b' : Nat} {X : World} (h : SB B t b X) (h' : SB B t b' X) (c : Array Value) : SB B t b (X.setRow b' c) := by
  obtain ⟨hne, v, h1, hl, hg⟩ := h
  exact ⟨hne, v, (setRow_other _ _ _ _ (Ne.symm h'.1)).trans h1, by simpa [World.setRow] using hl, hg⟩
theorem SB.obj {B : Nat} {t : TypeId} {b j : Nat} {X : World} {o : Obj} (h : SB B t b X) (o' : Obj) (hh : X.heap[j]? = some o) (ho : o.isCells = false) : SB B t b (X.putObj j o') := by
  obtain ⟨hne, v, h1, hl, hg⟩ := h
  refine ⟨hne, v, (heap_putObj_ne ?_).trans h1, by simpa [World.putObj] using hl, hg⟩
  intro e
  have h1' : X.heap[B]? = _ := h1
  rw [e, hh] at h1'
  cases h1'
  cases ho
theorem SB.new {n₀ B : Nat} {t e : TypeId} {sz : Nat} {X : World} (h : SC n₀ B t e sz 0 [] X) (o : Obj) : SB B t X.heap.size (X.alloc o) := by
  obtain ⟨v, h1, h2, h3⟩ := h
  exact ⟨Nat.ne_of_gt h1.lt, v, h1.alloc o, by simp, fun g hg => by rw [h3 rfl] at hg; cases hg⟩

/-- Behind 'x = append(x, ..)': what a row that is apart bears. -/
theorem appended_keep {n₀ base B : Nat} {t e : TypeId} {sz k m : Nat} {xs ys : List Value} {W w1 : World} {v v' : Value} {tmp : Obj} (hv : Boxed W B t v) (hte : t ≠ e) (hrow : W.ownsRow n₀ e sz v k xs)
    (hb : ∀ b, b < W.heap.size → (∀ g, v.ownBlock = some g → b < g) → b < base) (hown : w1.ownsRow base e sz v' m ys) (hgrow : (W.alloc tmp).grownBy w1 v.ownBlock) :
    ∀ b c t', SB B t b W → W.heap[b]? = some (.cells c t') → SB B t b (w1.setCell ⟨B, 0, none⟩ v') ∧ (w1.setCell ⟨B, 0, none⟩ v').heap[b]? = some (.cells c t') := by
  rintro b c t' ⟨hne, u, h1, hl, hg⟩ hbc
  obtain rfl : v = u := by have := (show W.heap[B]? = _ from hv).symm.trans h1; simpa using this
  have hv1 : Boxed w1 B t v := (hv.alloc tmp).kept hgrow (hv.not_row hte hrow)
  have hk : w1.heap[b]? = some (.cells c t') := by
    rw [hgrow.block b (by simp; omega) (fun e' => by have := hg b e'.symm; omega), heap_alloc_if, if_neg (by omega)]
    exact hbc
  refine ⟨⟨hne, v', hv1.set v', ?_, fun g hg' => ?_⟩, by rw [Below.heap_setCell _ _ _ _ hne]; exact hk⟩
  · exact lt_of_some (show (w1.setCell ⟨B, 0, none⟩ v').heap[b]? = _ by rw [Below.heap_setCell _ _ _ _ hne]; exact hk)
  · obtain ⟨_, _, hge⟩ := own_lt hown hg'
    have := hb b hl hg
    omega
theorem SB.rowNe {B : Nat} {t : TypeId} {b b' : Nat} {X : World} (h : SB B t b X) (h' : b' ≠ B) (c : Array Value) : SB B t b (X.setRow b' c) := by
  obtain ⟨hne, v, h1, hl, hg⟩ := h
  exact ⟨hne, v, (setRow_other _ _ _ _ (Ne.symm h')).trans h1, by simpa [World.setRow] using hl, hg⟩
theorem SC.rowNe {n₀ B : Nat} {t e : TypeId} {sz k : Nat} {xs : List Value} {X : World} (h : SC n₀ B t e sz k xs X) {b : Nat} (hb : b ≠ B) {c0 : Array Value} {t' : TypeId} (hh : X.heap[b]? = some (.cells c0 t')) (ht : t' ≠ e) (c : Array Value) : SC n₀ B t e sz k xs (X.setRow b c) := by
  obtain ⟨v, h1, h2, h3⟩ := h
  refine ⟨v, (setRow_other _ _ _ _ (Ne.symm hb)).trans h1, own_same h2 (fun g hg => setRow_other _ _ _ _ ?_), h3⟩
  intro e'
  obtain ⟨cur, hc, _⟩ := own_lt h2 hg
  rw [e', hh] at hc
  cases hc
  exact ht rfl
/-- Behind 'x = append(x, ..)': a row of another type is as it was. -/
theorem appended_has {n₀ B : Nat} {e : TypeId} {sz k : Nat} {xs : List Value} {W w1 : World} {v v' : Value} {tmp : Obj} (hrow : W.ownsRow n₀ e sz v k xs) (hgrow : (W.alloc tmp).grownBy w1 v.ownBlock)
    {b : Nat} {c : Array Value} {t' : TypeId} (hb : W.heap[b]? = some (.cells c t')) (hne : b ≠ B) (ht : t' ≠ e) : (w1.setCell ⟨B, 0, none⟩ v').heap[b]? = some (.cells c t') := by
  rw [Below.heap_setCell _ _ _ _ hne, hgrow.block b (by have := lt_of_some hb; simp; omega) (fun e' => ?_), heap_alloc_if, if_neg (Nat.ne_of_lt (lt_of_some hb))]
  · exact hb
  · obtain ⟨cur, hc, _⟩ := own_lt hrow e'.symm
    rw [hb] at hc
    cases hc
    exact ht rfl
end Go.Proofs.YtfilolmbppjbjaaGreat
