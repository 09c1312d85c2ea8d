/-
  A range over a function whose iterator keeps a row of its own between the rounds: one law for the caller. No program is named here.
-/
import Derived.RangeFuncNested
import Derived.RangeFuncBound
import Derived.RangeFuncCalls
import Derived.RangeFuncLeaves
import Derived.Shelf.Abstract
import Derived.Shelf.RegionOpen
import Derived.WalkKit
import Derived.OwnWalkIn
import Derived.TacticsInMore
import Derived.LoopNIn
import Derived.LoopIn
import Derived.Laws.Tables
namespace Go.Proofs.YtfilolmbppjbjaaGreat
open Go Go.RowKit
variable {F : Fence} {n : Nat} {P : Program}

/-- What a round that goes on keeps: what lay below n₀, and each row that is apart from the body's own. -/
def Keep (n₀ : Nat) (A : Nat → World → Prop) (W W' : World) : Prop :=
  Below n₀ W W' ∧ ∀ b c t, A b W → W.heap[b]? = some (.cells c t) → A b W' ∧ W'.heap[b]? = some (.cells c t)
theorem Keep.trans {n₀ : Nat} {A : Nat → World → Prop} {X Y Z : World} (h : Keep n₀ A X Y) (k : Keep n₀ A Y Z) : Keep n₀ A X Z :=
  ⟨h.1.trans k.1, fun b c t ha hb => by
    obtain ⟨h1, h2⟩ := h.2 b c t ha hb
    exact k.2 b c t h1 h2⟩
theorem Keep.refl (n₀ : Nat) (A : Nat → World → Prop) (X : World) : Keep n₀ A X X := ⟨Below.refl _ _, fun _ _ _ ha hb => ⟨ha, hb⟩⟩

/-- What the invariant of a caller bears: new blocks; a row that is apart, written by the iterator; the loop's own book-keeping. -/
structure Bears {β : Type} (B : Nat) (A : Nat → World → Prop) (I : β → World → Prop) : Prop where
  grow : ∀ s X Y, I s X → Below X.heap.size X Y → I s Y
  row : ∀ s b X c, I s X → A b X → I s (X.setRow b c)
  obj : ∀ s k X o o', I s X → B ≤ k → X.heap[k]? = some o → o.isCells = false → I s (X.putObj k o')
/-- What it is to be apart. -/
structure Aparts {α : Type} (B : Nat) (A : Nat → World → Prop) (I : List α → World → Prop) : Prop where
  grow : ∀ b X Y, A b X → Below X.heap.size X Y → A b Y
  row : ∀ b b' X c, A b X → A b' X → A b (X.setRow b' c)
  obj : ∀ b k X o o', A b X → B ≤ k → X.heap[k]? = some o → o.isCells = false → A b (X.putObj k o')
  new : ∀ X o, I [] X → A X.heap.size (X.alloc o)

/-- The contract of an iterator that tells T, whatever loop it is told to. -/
def SeqX {α : Type} (F : Fence) (n : Nat) (P : Program) (g : Nat) (lb : Array Value) (encs : α → Array Value) (n₀ : Nat) (cb : Nat) (co : Obj) (T : List α) (w : World) : Prop :=
  ∀ (l : Nat) (J Jx : List α → World → Prop) (A : Nat → World → Prop) (W : World), Below w.heap.size w W → (A cb W ∨ cb < n₀) → W.heap[cb]? = some co →
    (∀ s X Y, J s X → Below X.heap.size X Y → J s Y) → (∀ s b X c, J s X → A b X → J s (X.setRow b c)) →
    (∀ b X Y, A b X → Below X.heap.size X Y → A b Y) → (∀ b b' X c, A b X → A b' X → A b (X.setRow b' c)) → (∀ X o, J [] X → A X.heap.size (X.alloc o)) →
    (∀ pre x W1, pre ++ [x] <+: T → J pre W1 → YieldAt F (n - 1) P l (encs x) W1 fun e W' =>
      (e = .returned (.bool true) ∧ J (pre ++ [x]) W' ∧ Keep n₀ A W1 W') ∨ (e = .returned (.bool false) ∧ Jx (pre ++ [x]) W')) →
    J [] W →
    CallsIn F n P g (#[.func (.yield l) #[] #[]] ++ lb) W fun e W' => (∃ v, e = .returned v) ∧ (J T W' ∨ ∃ pre, pre <+: T ∧ Jx pre W')

theorem heap_putObj_ne {W : World} {k b : Nat} {o : Obj} (h : b ≠ k) : (W.putObj k o).heap[b]? = W.heap[b]? := World.putObj_heap_other h

theorem keep_obj {α : Type} {B n₀ : Nat} {A : Nat → World → Prop} {I : List α → World → Prop} (hA : Aparts B A I) (hn : n₀ ≤ B) {W : World} {k : Nat} {o : Obj} (o' : Obj) (hk : B ≤ k) (h : W.heap[k]? = some o) (ho : o.isCells = false) : Keep n₀ A W (W.putObj k o') :=
  ⟨(Below.refl n₀ W).grown (grownBy_putObj' W k o') (by have := (Array.getElem?_eq_some_iff.1 h).1; omega) (fun j e => by cases e; omega), fun b c t ha hb => by
    refine ⟨hA.obj b k W o o' ha hk h ho, ?_⟩
    have hne : b ≠ k := by
      intro e
      subst e
      rw [hb] at h
      cases h
      cases ho
    rw [heap_putObj_ne hne]; exact hb⟩

/-- The caller's law. -/
theorem wpIn_rangeX {α : Type} {g : Operand} {ps : Array Tmp} {assign body : Code} {Q : Exit → Act → World → Prop} {a : Act} {w : World}
    (hro : F.round = none) (h1 : 1 ≤ n) {gf : Nat} {lb : Array Value} (hg : a.eval g = .func (.func gf) #[] lb) (hFg : F.fn gf) (eg : ∀ args w, (callFunc gf args).run P w = .ok (.enter gf args) w)
    {encs : α → Array Value} {n₀ cb : Nat} {co : Obj} {T : List α} (hseq : SeqX F (n - 1) P gf lb encs n₀ cb co T w) (hn : n₀ ≤ w.heap.size) (hps : ∀ x, (encs x).size = ps.size)
    (A : Nat → World → Prop) (I : List α → World → Prop) (Ix : Code → List α → World → Prop) (hI : Bears w.heap.size A I) (hIx : ∀ c s k X o o', Ix c s X → w.heap.size ≤ k → X.heap[k]? = some o → o.isCells = false → Ix c s (X.putObj k o')) (hA : Aparts w.heap.size A I)
    (h0 : I [] w) (hcb : A cb w ∨ cb < n₀) (hco : w.heap[cb]? = some co) (Ax : α → Act → World → Prop) (hAx : ∀ x a' k X o o', Ax x a' X → w.heap.size ≤ k → X.heap[k]? = some o → o.isCells = false → Ax x a' (X.putObj k o'))
    (hassign : ∀ (l : Nat) (pre : List α) (x : α) (W : World) (K : Act → World → Prop), pre ++ [x] <+: T → I pre W → (∀ a' W', KeepsFrom w.heap.size W W' → Keep n₀ A W W' → I pre W' → Ax x a' W' → K a' W') →
      assign.wpIn (F.inRound l) (n - 1 - 1) P (Exit.then K (fun _ _ _ => False)) { tmps := (ps.zip (encs x)).foldl (fun t (p, v) => t.setIfInBounds p v) a.tmps, defers := [] } W)
    (hbody : ∀ (l : Nat) (pre : List α) (x : α) (a' : Act) (W : World), pre ++ [x] <+: T → I pre W → Ax x a' W → body.wpIn (F.inRound l) (n - 1 - 1) P (ownPostG w.heap.size (Keep n₀ A) I Ix (pre ++ [x]) W) a' W)
    (hdone : ∀ (D : Nat) (W : World), w.heap.size ≤ D → I T W → W.heap[D]? = some (.deferred (some [])) → Q .normal { a with defers := { target := .collected D, args := #[] } :: a.defers } W)
    (hstop : ∀ (D : Nat) (c : Code) (pre : List α) (W : World), w.heap.size ≤ D → pre <+: T → Ix c pre W → W.heap[D]? = some (.deferred (some [])) → c.wpIn F n P Q { a with defers := { target := .collected D, args := #[] } :: a.defers } W) :
    (Code.rangeFunc g ps assign body).wpIn F n P Q a w := by
  refine wpIn_rangeFunc ?_
  intro fn hfn
  rw [hro]
  obtain ⟨rec, hrec⟩ : ∃ rec : LoopState → Option Code → Loop, rec = fun st pe => { state := st, pending := pe, fn, tmps := a.tmps, params := ps, assign, body, defers := w.heap.size } := ⟨_, rfl⟩
  obtain ⟨W1, hW1⟩ : ∃ W1, (w.alloc (.deferred (some []))).alloc (.loop (rec .ready none)) = W1 := ⟨_, rfl⟩
  have hL1 : W1.heap[w.heap.size + 1]? = some (.loop (rec .ready none)) := by
    rw [← hW1]; have := World.alloc_heap_new (w.alloc (.deferred (some []))) (.loop (rec .ready none)); rwa [World.size_alloc] at this
  have hK1 : W1.heap[w.heap.size]? = some (.deferred (some [])) := by
    rw [← hW1]; exact (Below.heap_alloc _ _ _ (by simp)).trans (World.alloc_heap_new w _)
  have hb1 : Below w.heap.size w W1 := by
    rw [← hW1]; exact ((Below.refl _ w).alloc (Nat.le_refl _) _).alloc (by simp) _
  have hI1 : I [] W1 := hI.grow _ _ _ h0 hb1
  have hcw : cb < w.heap.size := (Array.getElem?_eq_some_iff.1 hco).1
  refine ⟨w.heap.size + 1, [{ target := .collected w.heap.size, args := #[] }], W1, { target := .fn (.func gf) lb, args := #[.func (.yield (w.heap.size + 1)) #[] #[]] }, W1, gf,
    #[.func (.yield (w.heap.size + 1)) #[] #[]] ++ lb, W1, ?_, ?_, ?_, ?_, fun _ => h1, ?_⟩
  · rw [← hW1, hrec]; exact run_enterLoop_outer _ _ _ _ _
  · simp only [resolve, hg]
    simp [go_sem]
  · intro f' hf'; simp [Target.leads] at hf'; subst hf'; exact hFg
  · simp [invoke, go_sem, eg]
  · refine (hseq (w.heap.size + 1)
      (fun pre W => I pre W ∧ W.heap[w.heap.size + 1]? = some (.loop (rec .ready none)) ∧ W.heap[w.heap.size]? = some (.deferred (some [])))
      (fun pre W => ∃ c, Ix c pre W ∧ W.heap[w.heap.size + 1]? = some (.loop (rec .done (some c))) ∧ W.heap[w.heap.size]? = some (.deferred (some [])))
      (fun b W => A b W ∧ b ≠ w.heap.size ∧ b ≠ w.heap.size + 1)
      W1 hb1 (hcb.imp (fun h => ⟨hA.grow _ _ _ h hb1, by omega, by omega⟩) id) ((hb1.block _ hcw).trans hco)
      (fun s X Y hs hg' => ⟨hI.grow _ _ _ hs.1 hg', (hg'.block _ (Array.getElem?_eq_some_iff.1 hs.2.1).1).trans hs.2.1, (hg'.block _ (Array.getElem?_eq_some_iff.1 hs.2.2).1).trans hs.2.2⟩)
      (fun s b X c hs hb => ⟨hI.row _ _ _ _ hs.1 hb.1, by rw [setRow_other _ _ _ _ (Ne.symm hb.2.2)]; exact hs.2.1, by rw [setRow_other _ _ _ _ (Ne.symm hb.2.1)]; exact hs.2.2⟩)
      (fun b X Y hb hg' => ⟨hA.grow _ _ _ hb.1 hg', hb.2⟩)
      (fun b b' X c hb hb' => ⟨hA.row _ _ _ _ hb.1 hb'.1, hb.2⟩)
      (fun X o hs => ⟨hA.new _ _ hs.1, by have := (Array.getElem?_eq_some_iff.1 hs.2.2).1; omega, by have := (Array.getElem?_eq_some_iff.1 hs.2.1).1; omega⟩)
      ?_ ⟨hI1, hL1, hK1⟩).mono ?_
    · rintro pre x W hpx ⟨hi, hl, hk⟩
      have hy := run_yield (P := P) (args := encs x) hl (by rw [hrec]; exact hps x)
      rw [hrec] at hy
      refine ⟨fn, _, assign, body, hy, roundIn_of_wpIn hfn (hassign _ pre x W _ hpx hi ?_)⟩
      clear hy
      intro a' Wa hkfa hkpa hia hax
      replace hl := hkfa.same _ _ (by omega) hl rfl
      replace hk := hkfa.same _ _ (Nat.le_refl _) hk rfl
      have hlt : w.heap.size + 1 < Wa.heap.size := (Array.getElem?_eq_some_iff.1 hl).1
      refine ⟨_, run_beginRound hl (by rw [hrec]), ?_⟩
      have hl2 : (Wa.putObj (w.heap.size + 1) (.loop { rec .ready none with state := .busy })).heap[w.heap.size + 1]? = some (.loop { rec .ready none with state := .busy }) := World.putObj_heap_same hlt
      have hk2 : (Wa.putObj (w.heap.size + 1) (.loop { rec .ready none with state := .busy })).heap[w.heap.size]? = some (.deferred (some [])) := (World.putObj_heap_other (by omega)).trans hk
      have hw2 : Keep n₀ A Wa (Wa.putObj (w.heap.size + 1) (.loop { rec .ready none with state := .busy })) := keep_obj hA hn _ (by omega) hl rfl
      refine wpIn_mono (hbody _ pre x a' _ hpx (hI.obj _ _ _ _ _ hia (by omega) hl rfl) (hAx x a' _ _ _ _ hax (by omega) hl rfl)) ?_
      have fin : ∀ (jump : Option Code) (W3 : World), KeepsFrom w.heap.size (Wa.putObj (w.heap.size + 1) (.loop { rec .ready none with state := .busy })) W3 →
          (Instr.endRound (w.heap.size + 1) jump).run P W3 = .ok (.bool jump.isNone) (W3.putObj (w.heap.size + 1) (.loop (rec (if jump.isNone then .ready else .done) jump))) ∧
          W3.heap[w.heap.size + 1]? = some (.loop { rec .ready none with state := .busy }) ∧
          (W3.putObj (w.heap.size + 1) (.loop (rec (if jump.isNone then .ready else .done) jump))).heap[w.heap.size + 1]? = some (.loop (rec (if jump.isNone then .ready else .done) jump)) ∧
          (W3.putObj (w.heap.size + 1) (.loop (rec (if jump.isNone then .ready else .done) jump))).heap[w.heap.size]? = some (.deferred (some [])) := fun jump W3 hk3 => by
        have hl3 := hk3.same _ _ (by omega) hl2 rfl
        have := run_endRound (P := P) jump hl3
        rw [hrec] at this ⊢
        exact ⟨this, by rw [hrec] at hl3; exact hl3, World.putObj_heap_same (Array.getElem?_eq_some_iff.1 hl3).1, (World.putObj_heap_other (by omega)).trans (hk3.same _ _ (Nat.le_refl _) hk2 rfl)⟩
      have wide : ∀ {X Y : World}, Keep n₀ A X Y → Keep n₀ (fun b W => A b W ∧ b ≠ w.heap.size ∧ b ≠ w.heap.size + 1) X Y := fun h => ⟨h.1, fun b c t ha hb => by
        obtain ⟨p, q⟩ := h.2 b c t ha.1 hb
        exact ⟨⟨p, ha.2⟩, q⟩⟩
      rintro e a3 W3 hp
      cases e with
      | normal =>
        obtain ⟨hk3, hkp3, hi3⟩ := hp
        obtain ⟨hr, hl3, hl4, hk4⟩ := fin none W3 hk3
        exact ⟨_, _, hr, .inl ⟨rfl, ⟨hI.obj _ _ _ _ _ hi3 (by omega) hl3 rfl, hl4, hk4⟩, wide (hkpa.trans ((hw2.trans hkp3).trans (keep_obj hA hn _ (by omega) hl3 rfl)))⟩⟩
      | ret =>
        obtain ⟨hk3, hi3⟩ := hp
        obtain ⟨hr, hl3, hl4, hk4⟩ := fin (some .ret) W3 hk3
        exact ⟨_, _, hr, .inr ⟨rfl, .ret, hIx _ _ _ _ _ _ hi3 (by omega) hl3 rfl, hl4, hk4⟩⟩
      | exit id =>
        obtain ⟨hk3, hi3⟩ := hp
        obtain ⟨hr, hl3, hl4, hk4⟩ := fin (some (.exit id)) W3 hk3
        exact ⟨_, _, hr, .inr ⟨rfl, .exit id, hIx _ _ _ _ _ _ hi3 (by omega) hl3 rfl, hl4, hk4⟩⟩
      | goto t =>
        obtain ⟨hk3, hi3⟩ := hp
        obtain ⟨hr, hl3, hl4, hk4⟩ := fin (some (.goto t)) W3 hk3
        exact ⟨_, _, hr, .inr ⟨rfl, .goto t, hIx _ _ _ _ _ _ hi3 (by omega) hl3 rfl, hl4, hk4⟩⟩
      | panic ch => exact hp.elim
      | outgrown => exact hp.elim
    · rintro e W2 ⟨⟨v, rfl⟩, (⟨hi, hl, hk⟩ | ⟨pre, hSp, c, hi, hl, hk⟩)⟩
      · exact ⟨none, _, by have := run_endLoop (P := P) hl (by rw [hrec]; simp); rw [hrec] at this; exact this, hdone _ _ (Nat.le_refl _) (hI.obj _ _ _ _ _ hi (by omega) hl rfl) ((World.putObj_heap_other (by omega)).trans hk)⟩
      · exact ⟨some c, _, by have := run_endLoop (P := P) hl (by rw [hrec]; simp); rw [hrec] at this; exact this, hstop _ c pre _ (Nat.le_refl _) hSp (hIx _ _ _ _ _ _ hi (by omega) hl rfl) ((World.putObj_heap_other (by omega)).trans hk)⟩
end Go.Proofs.YtfilolmbppjbjaaGreat
