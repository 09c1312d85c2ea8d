/-
  What 'Input' returns.
-/
import Derived.Test.YtfilolmbppjbjaaGreatHeadsOf
namespace Go.Proofs.YtfilolmbppjbjaaGreat
open Go Go.RowKit
attribute [local go_sem] Oper.semAt_some

def inpD (l : List Ev) (i : Int) : List UInt8 := if 0 ≤ i then (((told l)[i.toNat]?).map Prod.fst).getD [] else []
theorem inp_found {l : List Ev} {i : Int} {q : List (List UInt8 × List UInt8)} {x : List UInt8 × List UInt8} (hp : q ++ [x] <+: told l) (hq : (q.length : Int) = i) : inpD l i = x.1 := by
  obtain ⟨r, hr⟩ := hp
  unfold inpD
  rw [if_pos (by omega), ← hr, show i.toNat = q.length by omega]
  simp
theorem inp_none {l : List Ev} {i : Int} (h : ∀ j : Nat, j < (told l).length → (j : Int) ≠ i) : inpD l i = [] := by
  unfold inpD
  split
  · rename_i h0
    rw [List.getElem?_eq_none (by
      apply Nat.le_of_not_lt
      intro hlt
      exact h i.toNat hlt (by omega))]
    rfl
  · rfl

theorem results_one {fn : Func} {p : Tmp} {ty : TypeId} (h : fn.results = #[.cell p ty]) (tmps : Array Value) (b : Nat) (hp : tmps.getD p undef = .pointer (some ⟨b, 0, none⟩)) (w : World) {v : Value} (hc : w.cell? ⟨b, 0, none⟩ = some v) (ha : ∀ w, (isAgg ty).run Tryz.prog w = .ok false w) :
    (results fn tmps).run Tryz.prog w = .ok v w := by
  have := loadCell ty b 0 w v ha hc
  simp only [Instr.loadAt, Instr.sureAddr, Sem.run_bind, Sem.run_pure, Result.andThen_ok] at this
  simp only [results, h]
  have hp' : tmps[p]?.getD undef = .pointer (some ⟨b, 0, none⟩) := by simpa using hp
  simp [hp', this, asAddr]

set_option maxRecDepth 100000 in
set_option maxHeartbeats 1000000 in
theorem input_any (l : List Ev) (hl : Fit l) (hn : l.length ≤ 1000) (i : Int) (p : Option Addr) (cap : Nat) (w : World) (hE : EvsAt w.heap.size w p l) :
    Calls Tryz.prog 13 #[.slice p l.length cap, .int .i64 i] w fun r w' => r = .returned (.string ⟨(inpD l i).toArray⟩) ∧ Below w.heap.size w w' := by
  refine (callsIn_wide (n := 5)).1 ?_
  have hTl := told_len l
  have hseq := Lib.hid (fun v hv he => links1 l hl hn p cap w.heap.size (w.heap.size + 1 + 1 + 1) v hv he 4 (by decide))
  clear hl
  refine callsIn_of_wp_marks Tryz.func13 rfl trivial ?_ rfl
  simp only [Tryz.ntmps13, List.size_toArray, List.length_cons, List.length_nil, Nat.reduceAdd, Nat.reduceSub, Array.replicate_succ, Array.replicate_zero, List.push_toArray, List.append_toArray, List.nil_append, List.cons_append]
  gi_wp2_with fail
  refine ⟨trivial, (callsIn_wide.2 (links_any p l.length cap _)).mono ?_⟩
  rintro e w1 ⟨rfl, rfl⟩
  gi_wp2_with fail
  have hK4 : Hid (KW w.heap.size w ((w.heap.size + 1 + 1 + 1, .cells #[.slice p l.length cap] 24) :: [(w.heap.size + 1 + 1, .cells #[.int .i64 0] 3), (w.heap.size + 1, .cells #[.string ⟨#[]⟩] 9), (w.heap.size, .cells #[.int .i64 i] 3)]) ((((w.alloc (.cells #[.int .i64 i] 3)).alloc (.cells #[.string ⟨#[]⟩] 9)).alloc (.cells #[.int .i64 0] 3)).alloc (.cells #[.slice p l.length cap] 24))) := Lib.hid (by
    have := ((((KW.start w).new (.cells #[.int .i64 i] 3)).new (.cells #[.string ⟨#[]⟩] 9)).new (.cells #[.int .i64 0] 3)).new (.cells #[.slice p l.length cap] 24)
    simpa using this)
  have hE1 := Lib.hid (hE.past hK4.out.bel)
  have hsz : ((((w.alloc (.cells #[.int .i64 i] 3)).alloc (.cells #[.string ⟨#[]⟩] 9)).alloc (.cells #[.int .i64 0] 3)).alloc (.cells #[.slice p l.length cap] 24)).heap.size = w.heap.size + 4 := by simp
  generalize ((((w.alloc (.cells #[.int .i64 i] 3)).alloc (.cells #[.string ⟨#[]⟩] 9)).alloc (.cells #[.int .i64 0] 3)).alloc (.cells #[.slice p l.length cap] 24)) = V at *
  refine wpIn_rangeX rfl (by decide) (gf := 34) (lb := #[.pointer (some ⟨w.heap.size + 1 + 1 + 1, 0, none⟩)]) rfl trivial (enters_of Tryz.func34 (by kernel_rfl) rfl)
    (hseq.out V (by omega) hE1.out) (by omega) (fun _ => rfl)
    (fun b W => w.heap.size + 3 ≤ b)
    (fun pre W => KW w.heap.size w [(w.heap.size + 1 + 1, .cells #[.int .i64 (pre.length : Int)] 3), (w.heap.size + 1, .cells #[.string ⟨#[]⟩] 9), (w.heap.size, .cells #[.int .i64 i] 3)] W ∧ ∀ j : Nat, j < pre.length → (j : Int) ≠ i)
    (fun c pre W => c = .ret ∧ ∃ q x, pre = q ++ [x] ∧ (q.length : Int) = i ∧ KW w.heap.size w [(w.heap.size + 1, .cells #[.string ⟨x.1.toArray⟩] 9)] W)
    { grow := fun s X Y h hb => ⟨h.1.past hb, h.2⟩
      row := fun s b X c h hb => ⟨h.1.rowOther (by omega) (by simp; omega) c, h.2⟩
      obj := fun s k X o o' h hk hh ho => ⟨h.1.obj (by simp [Obj.isCells]) o' (by omega) hh ho, h.2⟩ }
    (fun c s k X o o' h hk hh ho => by obtain ⟨rfl, q, x, h1, h2, h3⟩ := h; exact ⟨rfl, q, x, h1, h2, h3.obj (by simp [Obj.isCells]) o' (by omega) hh ho⟩)
    { grow := fun b X Y h hb => h
      row := fun b b' X c h h' => h
      obj := fun b k X o o' h hk hh ho => h
      new := fun X o h => by have := h.1.lt 0 rfl; omega }
    ⟨hK4.out.drop, fun j hj => by simp at hj⟩
    (.inl (by omega)) (hK4.out.at 0 rfl)
    (fun x a' W => a' = { tmps := #[.slice p l.length cap, .int .i64 i, undef, .pointer (some ⟨w.heap.size, 0, none⟩), .pointer (some ⟨w.heap.size + 1, 0, none⟩), .pointer (some ⟨w.heap.size + 1 + 1, 0, none⟩), .string ⟨x.1.toArray⟩, .slice p l.length cap, .func (.func 34) #[] #[.pointer (some ⟨w.heap.size + 1 + 1 + 1, 0, none⟩)], .string ⟨x.1.toArray⟩, .agg (row x.2), undef, undef, undef, undef, undef, undef], defers := [] })
    (fun _ _ _ _ _ _ h _ _ _ => h) ?assign ?body ?done ?stop
  case assign =>
    rintro lp pre x W K hpx hI hK
    dsimp only [encL]
    gi_wp2_with fail
    exact hK _ _ (KeepsFrom.refl _ _) (Keep.refl _ _ _) hI rfl
  case body =>
    rintro lp pre x a' W hpx ⟨hK, hj⟩ rfl
    have hpl : pre.length ≤ l.length := by have := hpx.length_le; simp at this; omega
    have c0 := hK.cell 0 rfl 0 (y := .int .i64 (pre.length : Int)) rfl
    have c2 := hK.cell 2 rfl 0 (y := .int .i64 i) rfl
    have c1 := hK.cell 1 rfl 0 (y := .string ⟨#[]⟩) rfl
    have f0 := hK.frozen 0 rfl 0
    have f1 := hK.frozen 1 rfl 0
    by_cases he : (pre.length : Int) = i
    · have hd : ((pre.length : Int) == i) = true := by simpa using he
      have hK1 := Lib.hid (hK.set 1 rfl (by omega) 0 (.string ⟨x.1.toArray⟩))
      have hK' := Lib.hid hK
      have he' := Lib.hid he
      clear he hK hj
      gi_wp2_with fail
      refine ⟨(KeepsOthers.setCell _ _ _).from _, rfl, pre, x, rfl, he'.out, ?_⟩
      exact ⟨hK'.out.le, hK1.out.bel, fun y hy => hK1.out.has y (by simp only [List.mem_cons, List.not_mem_nil, or_false] at hy; subst hy; simp), by simp⟩
    · have hd : ((pre.length : Int) == i) = false := by simpa using he
      have hK1 := Lib.hid (hK.set 0 rfl (by omega) 0 (.int .i64 ((pre.length : Int) + 1)))
      have hK' := Lib.hid hK
      have hj' := Lib.hid hj
      have he' := Lib.hid he
      have hpi : (pre.length : Int) ≤ 1000 := by omega
      clear he hK hj
      gi_wp2_with fail
      refine ⟨(KeepsOthers.setCell _ _ _).from _, ⟨(Below.refl _ _).setCell (p := ⟨w.heap.size + 1 + 1, 0, none⟩) (by show _ ≤ w.heap.size + 1 + 1; omega) _, fun b c t' ha hb => ⟨ha, by rw [heap_setCell_other _ _ _ _ (by show b ≠ w.heap.size + 1 + 1; omega)]; exact hb⟩⟩, ?_, fun j hj2 => ?_⟩
      · have := hK1.out
        simpa using this
      · by_cases hjl : j < pre.length
        · exact hj'.out j hjl
        · have : j = pre.length := by simp at hj2; omega
          rw [this]; exact he'.out
  case done =>
    rintro D W hD ⟨hK, hj⟩ hdef
    have c1 := hK.cell 1 rfl 0 (y := .string ⟨#[]⟩) rfl
    have f1 := hK.frozen 1 rfl 0
    have hdef2 := Lib.hid ((KeepsOthers.setCell W ⟨w.heap.size + 1, 0, none⟩ (.string ⟨#[]⟩)).same D _ hdef rfl)
    have hK2 := Lib.hid (hK.set 1 rfl (by omega) 0 (.string ⟨#[]⟩))
    have hj' := Lib.hid hj
    clear hK hj
    gi_wp2_with fail
    refine ⟨by simp, .inl ⟨_, _, rfl, run_takeDeferred hdef2.out, ?_⟩⟩
    have hK3 := hK2.out.obj (by simp [Obj.isCells]) (.deferred none) (by omega) hdef2.out rfl
    refine ⟨_, results_one rfl _ (w.heap.size + 1) rfl _ (hK3.cell 1 rfl 0 rfl) Tryz.isAgg9, ?_⟩
    exact ⟨by rw [inp_none hj'.out]; rfl, hK3.bel⟩
  case stop =>
    rintro D c pre W hD hpp ⟨rfl, q, x, rfl, hq, hK⟩ hdef
    have c1 := hK.cell 0 rfl 0 (y := .string ⟨x.1.toArray⟩) rfl
    gi_wp2_with fail
    refine ⟨by simp, .inl ⟨_, _, rfl, run_takeDeferred hdef, ?_⟩⟩
    have hK3 := hK.obj (by simp [Obj.isCells]) (.deferred none) (by omega) hdef rfl
    refine ⟨_, results_one rfl _ (w.heap.size + 1) rfl _ (hK3.cell 0 rfl 0 rfl) Tryz.isAgg9, ?_⟩
    exact ⟨by rw [inp_found hpp hq]; rfl, hK3.bel⟩
end Go.Proofs.YtfilolmbppjbjaaGreat
