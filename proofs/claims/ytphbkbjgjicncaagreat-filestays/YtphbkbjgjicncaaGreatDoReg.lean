/-
  Operations as they are run, their values known; Do as a region that draws its order wants it.
-/
import Derived.Test.YtphbkbjgjicncaaGreatDoes
import Derived.Test.YtphbkbjgjicncaaGreatDraw
import Derived.Test.YtphbkbjgjicncaaGreatOpenOps
import Derived.Test.YtphbkbjgjicncaaGreatWorks
namespace Go.Proofs.YtphbkbjgjicncaaGreat
open Go Go.RowKit

section
variable {P : Program} {a : Act} {w : World} {o : Oper}
theorem x_load_row (ty : TypeId) (x : Operand) (ho : o.op = .load ty x) (b : Nat) (hx : a.eval x = .pointer (some ⟨b, 0, none⟩)) (t : TypeId) (c : Array Value) (d : TypeDesc) (hg : w.heap[b]? = some (.cells c t))
    (hu : P.underlying ty = some d) (hd : (match d with | .struct _ | .array _ _ => true | _ => false) = true) (hi : (P.info? ty).map (·.size) = some c.size) : (execOp a.eval o).run P w = .ok (.value (.agg c)) w := by
  unfold execOp
  simp only [ho, hx, Instr.loadAt, Instr.sureAddr, Sem.run_bind, Sem.run_pure, Result.andThen_ok, run_loadVar_row w b t ty c (0, 0) d hg hu hd hi]
theorem x_move (x : Operand) (ho : o.op = .move x ∨ o.op = .assign x) (v : Value) (hx : a.eval x = v) : (execOp a.eval o).run P w = .ok (.value v) w := by
  unfold execOp
  rcases ho with ho | ho <;> (simp only [ho, hx]; rfl)
theorem x_load (t : TypeId) (x : Operand) (ho : o.op = .load t x) (u v : Value) (hx : a.eval x = u) (hv : (Instr.loadAt t u).run P w = .ok v w) : (execOp a.eval o).run P w = .ok (.value v) w := by
  unfold execOp
  simp only [ho, hx, Sem.run_bind, hv, Result.andThen_ok, Sem.run_pure]
theorem x_index (t : TypeId) (x y : Operand) (ho : o.op = .indexAddr t x y) (u i v : Value) (hx : a.eval x = u) (hy : a.eval y = i) (hv : (Instr.indexAt t u i).run P w = .ok v w) : (execOp a.eval o).run P w = .ok (.value v) w := by
  unfold execOp
  simp only [ho, hx, hy, Sem.run_bind, hv, Result.andThen_ok, Sem.run_pure]
end

/-- Texts that lie at an address, in blocks from lo up to hi. -/
def FrR (lo hi : Nat) (w : World) (a : Option Addr) (L : List ByteArray) : Prop :=
  L = [] ∨ ∃ b o, a = some ⟨b, o, none⟩ ∧ lo ≤ b ∧ b < hi ∧ ∀ k (h : k < L.length), w.cell? ⟨b, o + k, none⟩ = some (.string L[k])
theorem FrR.str {lo hi : Nat} {w : World} {a : Option Addr} {L : List ByteArray} (h : FrR lo hi w a L) (hh : hi ≤ w.heap.size) : StrAt w.heap.size w a L := by
  rcases h with h | ⟨b, o, h1, _, h2, h3⟩
  · exact .inl h
  · exact .inr ⟨b, o, h1, by omega, h3⟩
theorem FrR.keep {lo hi : Nat} {w v : World} {a : Option Addr} {L : List ByteArray} (h : FrR lo hi w a L) (hk : ∀ b, lo ≤ b → b < hi → v.heap[b]? = w.heap[b]?) : FrR lo hi v a L := by
  rcases h with h | ⟨b, o, h1, h2, h3, h4⟩
  · exact .inl h
  · exact .inr ⟨b, o, h1, h2, h3, fun k hk' => (cell_same (hk b h2 h3)).trans (h4 k hk')⟩
/-- What Do has answered. -/
def DoΦ (N : Nat) (R : Fl × List ByteArray × Ev × Int) (x y : Array Value) (z : Value) (lo hi : Nat) (w : World) : Prop :=
  ∃ a c, x = flr { R.1 with ha := a, hn := R.2.1.length, hc := c } ∧ y = evr R.2.2.1 ∧ z = .int .i64 R.2.2.2 ∧ FrR lo hi w a R.2.1 ∧ N ≤ lo
theorem DoΦ.keep (N : Nat) (R : Fl × List ByteArray × Ev × Int) (x y : Array Value) (z : Value) (lo hi : Nat) (w w' : World) (h : DoΦ N R x y z lo hi w) (hk : ∀ b, lo ≤ b → b < hi → w'.heap[b]? = w.heap[b]?) : DoΦ N R x y z lo hi w' := by
  obtain ⟨a, c, h1, h2, h3, h4, h5⟩ := h
  exact ⟨a, c, h1, h2, h3, h4.keep hk, h5⟩
theorem doR_len (f : Fl) (L : List ByteArray) (o : Opv) (fl : Int) : (doR f L o fl).2.2.1.sum.length = 32 := by
  unfold doR
  split
  · exact tellE_len f o
  · exact z32_len
theorem do_calls (N : Nat) (f : Fl) (o : Opv) (fl : Int) (L : List ByteArray) (w : World) (hN : N ≤ w.heap.size) (h : StrAt w.heap.size w f.ha L) (hn : f.hn = L.length) (hL : L.length ≤ 1000) (hs : ∀ y ∈ L, y.size ≤ 1099511627776) (hd : f.da.size ≤ 4000) (hx : o.tx.size ≤ 1099511627776) :
    Calls Tryz.prog 7 #[.agg (flr f), .agg (opr o), .int .i64 fl] w fun e w' => ∃ x y z, e = .returned (.tuple #[.agg x, .agg y, z]) ∧ DoΦ N (doR f L o fl) x y z w.heap.size w'.heap.size w' ∧ Below w.heap.size w w' ∧
      (Tryz.prog.info? 24).map (·.size) = some x.size ∧ (flr fl0).size = x.size ∧ x.all (·.oneCell') = true ∧ (Tryz.prog.info? 35).map (·.size) = some y.size ∧ (evr ev0).size = y.size ∧ y.all (·.oneCell') = true := by
  refine (do_any f o fl L w h hn hL hs hd hx).mono ?_
  rintro e v ⟨a, c, rfl, hf, hb⟩
  refine ⟨_, _, _, rfl, ⟨a, c, rfl, rfl, rfl, ?_, hN⟩, hb, row27 _, flr_same _ _, flr_one _, row33 _ (doR_len f L o fl), evr_same _ _ z32_len (doR_len f L o fl), evr_one _⟩
  rcases hf with h | ⟨b, o, h1, h2, h3, h4⟩
  · exact .inl h
  · exact .inr ⟨b, o, h1, h2, h3, h4⟩
theorem ent7 : ∀ args w, (callFunc 7 args).run Tryz.prog w = .ok (.enter 7 args) w := enters_of Tryz.func7 (by kernel_rfl) rfl
theorem ent6 : ∀ args w, (callFunc 6 args).run Tryz.prog w = .ok (.enter 6 args) w := enters_of Tryz.func6 (by kernel_rfl) rfl

theorem rmv_len (x : ByteArray) (L : List ByteArray) : (rmv x L).length ≤ L.length := by
  unfold rmv
  split
  · exact List.length_eraseIdx_le _ _
  · exact Nat.le_refl _
theorem hldL_len (se : Bool) (x : ByteArray) (L : List ByteArray) : (hldL se x L).length ≤ L.length + 1 := by
  unfold hldL
  split
  · unfold insAt; simp; omega
  · omega
theorem doR_rows (f : Fl) (L : List ByteArray) (o : Opv) (fl : Int) : (doR f L o fl).2.1.length ≤ L.length + 1 := by
  have h1 := rmv_len o.tx L
  have h2 := hldL_len f.se o.tx L
  unfold doR
  split
  · unfold doneR
    repeat' split
    all_goals simp
    all_goals omega
  · simp
end Go.Proofs.YtphbkbjgjicncaaGreat
