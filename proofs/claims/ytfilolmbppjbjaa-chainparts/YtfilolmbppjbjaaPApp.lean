/-
  append(x, y...) over rows of events, x being the call's own.
-/
import Derived.Test.YtfilolmbppjbjaaFWalks
import Derived.Laws.AppendOwnNone
import Derived.Maps.AppendAt
namespace Go.Proofs.Ytfilolmbppjbjaa
open Go Go.RowKit
set_option linter.unusedVariables false

def ecells (l : List Ev) : List Value := l.flatMap fun e => (evr e).toList
theorem ecells_app (a b : List Ev) : ecells (a ++ b) = ecells a ++ ecells b := by simp [ecells]
theorem ecells_len {l : List Ev} (hs : ∀ e ∈ l, e.sum.length = 32) : (ecells l).length = l.length * 37 := by
  induction l with
  | nil => rfl
  | cons e l ih =>
    have h1 : ecells (e :: l) = (evr e).toList ++ ecells l := rfl
    rw [h1, List.length_append, ih (fun x hx => hs x (List.mem_cons_of_mem _ hx)), Array.length_toList, evr_size, hs e (List.mem_cons_self ..), List.length_cons]
    omega
theorem ecells_at {l : List Ev} (hs : ∀ e ∈ l, e.sum.length = 32) (k r : Nat) (hk : k < l.length) (hr : r < 37) : (ecells l)[k * 37 + r]? = (evr l[k]).toList[r]? := by
  induction l generalizing k with
  | nil => cases hk
  | cons e l ih =>
    have h1 : ecells (e :: l) = (evr e).toList ++ ecells l := rfl
    have h2 : (evr e).toList.length = 37 := by rw [Array.length_toList, evr_size, hs e (List.mem_cons_self ..)]
    rw [h1]
    cases k with
    | zero => rw [List.getElem?_append_left (by omega)]; simp
    | succ k =>
      rw [List.getElem?_append_right (by omega), h2]
      have : (k + 1) * 37 + r - 37 = k * 37 + r := by omega
      rw [this, ih (fun x hx => hs x (List.mem_cons_of_mem _ hx)) k (by simpa using hk)]
      rfl
theorem ecells_one (l : List Ev) : ∀ u ∈ ecells l, u.oneCell' = true := fun u hu => by
  obtain ⟨e, he, hu⟩ := List.mem_flatMap.1 hu
  exact (Array.all_eq_true_iff_forall_mem.1 (evr_one e)) u (by simpa using hu)
theorem evsAt_cells {w : World} {b o : Nat} {l : List Ev} (hs : ∀ e ∈ l, e.sum.length = 32) (h : ∀ k (h : k < l.length), w.rangeAt b (o + k * 37) (evr l[k]).toList) : ∀ j u, (ecells l)[j]? = some u → w.cell? ((⟨b, o, none⟩ : Addr).add j) = some u := by
  intro j u hj
  have hjl : j < l.length * 37 := by rw [← ecells_len hs]; exact (List.getElem?_eq_some_iff.1 hj).1
  have hk : j / 37 < l.length := by omega
  have hd : j = j / 37 * 37 + j % 37 := by omega
  have h1 := ecells_at hs (j / 37) (j % 37) hk (Nat.mod_lt _ (by decide))
  rw [← hd, hj] at h1
  have h2 := h (j / 37) hk (j % 37) u h1.symm
  rw [Addr.add_mid]
  have : o + j / 37 * 37 + j % 37 = o + j := by omega
  rw [this] at h2
  exact h2
/-- A row of events that the call made is a row of events. -/
theorem own_evs {n₀ : Nat} {w : World} {v : Value} {l : List Ev} (hs : ∀ e ∈ l, e.sum.length = 32) (h : w.ownsRow n₀ 41 37 v l.length (ecells l)) : ∃ p c, v = .slice p l.length c ∧ EvsAt w.heap.size w p l := by
  rcases h.2 with ⟨rfl, h0⟩ | ⟨g, cap, cur, rfl, h1, h2, h3, h4, h5, h6⟩
  · exact ⟨none, 0, by rw [h0], .inl (List.eq_nil_of_length_eq_zero h0)⟩
  · refine ⟨_, _, rfl, .inr ⟨g, 0, rfl, lt_of_some h2, fun k hk r v hv => ?_⟩⟩
    have hr : r < 37 := by
      have := (List.getElem?_eq_some_iff.1 hv).1
      rw [Array.length_toList, evr_size, hs _ (List.getElem_mem hk)] at this
      exact this
    have h7 := ecells_at hs k r hk hr
    rw [hv, ← h6, List.getElem?_take, if_pos (by omega)] at h7
    refine (cell_of_row w g _ _ _ _ h2).trans ?_
    rw [Nat.zero_add, ← Array.getElem?_toList]
    exact h7
theorem evs_nil (w : World) (n₀ : Nat) : w.ownsRow n₀ 41 37 (.slice none 0 0) ([] : List Ev).length (ecells []) := ⟨rfl, .inl ⟨rfl, rfl⟩⟩

theorem info41z : (Try.prog.info? 41).map (fun i => (i.zero, i.size, i.bytes)) = some (some (.agg (evr zeroE)), 37, 80) := by kernel_rfl
theorem wpList_append_evs {ops : Array Oper} {rest : List Oper} {o : Oper} {a : Act} {w : World} {Q : Exit → Act → World → Prop} (hgd : o.guard = none) (s x : Operand)
    (ho : o.op = .call { callee := .builtin .append, args := #[s, x], argTypes := #[22, 22] }) (base : Nat) (v : Value) (l0 : List Ev) (hs : a.eval s = v) (hown : w.ownsRow base 41 37 v l0.length (ecells l0))
    (p : Option Addr) (cap : Nat) (l : List Ev) (hx : a.eval x = .slice p l.length cap) (h32 : ∀ e ∈ l, e.sum.length = 32) (hE : EvsAt w.heap.size w p l) (hnil : p = none → l = [] ∧ cap = 0) (hlen : l0.length + l.length ≤ 1000) (hbase : base ≤ w.heap.size)
    (h : ∀ v' w', w'.ownsRow base 41 37 v' (l0 ++ l).length (ecells (l0 ++ l)) → Below base w w' → wpList Try.prog ops Q rest (a.put o.dst v') w') : wpList Try.prog ops Q (o :: rest) a w := by
  obtain ⟨i, hi, hz, hz1, hz2⟩ := info_parts info41z
  cases p with
  | none =>
    obtain ⟨rfl, rfl⟩ := hnil rfl
    refine wpList_append_own_none hgd s x 22 ho base 41 i 37 Try.underlying22 hi v l0.length (ecells l0) hs hown hx ?_
    exact h v w (by simpa using hown) (Below.refl _ _)
  | some ad =>
    refine wpList_append_own_at w hgd s x 22 ho base 41 i (.agg (evr zeroE)) 37 80 Try.underlying22 hi hz hz1 hz2 rfl (by decide) v l0.length (ecells l0) hs hown ad l.length cap (ecells l) hx (ecells_len h32) ?_ (ecells_one l) (by unfold maxLen; omega) (by omega) hbase ?_
    · rcases hE with rfl | ⟨b, o', hp, hB, hr⟩
      · intro j u hj; simp [ecells] at hj
      · cases hp; exact evsAt_cells h32 hr
    · intro v' w' h1 h2 _ _
      refine h v' w' (by rw [List.length_append, ecells_app]; exact h1) ((Below.refl base w).grown h2 hbase (fun k hk => ?_))
      obtain ⟨_, _, hge⟩ := own_lt hown hk
      exact hge
end Go.Proofs.Ytfilolmbppjbjaa
