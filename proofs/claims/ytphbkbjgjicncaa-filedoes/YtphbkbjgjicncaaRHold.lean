/-
  What place, Release and Hold of the document's answer return: for every file.
-/
import Derived.Test.YtphbkbjgjicncaaHoldFacts
import Derived.Test.YtphbkbjgjicncaaRefs
import Derived.Laws.AppendOwnNone
import Derived.Maps.AppendAt
namespace Go.Proofs.Ytphbkbjgjicncaa
open Go Go.RowKit
set_option linter.unusedVariables false

/-- What a call comes to that answers a file, of which the holds lie wherever, and a number. -/
def RRes (ha0 : Option Addr) (L0 : List ByteArray) (g : Fl) (code : Int) (L : List ByteArray) (w : World) (e : Ending) (w' : World) : Prop :=
  ∃ a' c', e = .returned (.tuple #[.agg (flr { g with ha := a', hn := L.length, hc := c' }), .int .i64 code]) ∧ ((a' = ha0 ∧ L = L0) ∨ Fr w.heap.size w' a' L) ∧ Below w.heap.size w w'

theorem info9z : (Try.prog.info? 9).map (fun i => (i.zero, i.size, i.bytes)) = some (some (.string ⟨#[]⟩), 1, 16) := by kernel_rfl
theorem infos9 : ∃ i, Try.prog.info? 9 = some i ∧ i.zero = some (.string ⟨#[]⟩) ∧ i.size = 1 ∧ i.bytes = 16 := by
  have h := info9z
  cases hi : Try.prog.info? 9 with
  | none => rw [hi] at h; cases h
  | some i =>
    rw [hi] at h
    simp only [Option.map_some, Option.some.injEq, Prod.mk.injEq] at h
    exact ⟨i, rfl, h.1, h.2.1, h.2.2⟩
theorem strs_app (a b : List ByteArray) : strs (a ++ b) = strs a ++ strs b := by simp [strs]
/-- append(x, y...) over rows of texts, x being the call's own. -/
theorem wpList_append_strs {ops : Array Oper} {rest : List Oper} {o : Oper} {a : Act} {w : World} {Q : Exit → Act → World → Prop} (hgd : o.guard = none) (s x : Operand)
    (ho : o.op = .call { callee := .builtin .append, args := #[s, x], argTypes := #[22, 22] }) (base : Nat) (v : Value) (l0 : List ByteArray) (n0 : Nat) (hn0 : l0.length = n0) (hs : a.eval s = v) (hown : w.ownsRow base 9 1 v n0 (strs l0))
    (p : Option Addr) (cap : Nat) (l : List ByteArray) (n : Nat) (hln : l.length = n) (hx : a.eval x = .slice p n cap) (hE : StrAt w.heap.size w p l) (hnil : p = none → l = [] ∧ cap = 0) (hlen : n0 + n ≤ 1000) (hbase : base ≤ w.heap.size) (M : List ByteArray) (hM : l0 ++ l = M) (m : Nat) (hm : M.length = m)
    (h : ∀ v' w', w'.ownsRow base 9 1 v' m (strs M) → Below base w w' → wpList Try.prog ops Q rest (a.put o.dst v') w') : wpList Try.prog ops Q (o :: rest) a w := by
  obtain ⟨i, hi, hz, hz1, hz2⟩ := infos9
  subst hln hm hM hn0
  cases p with
  | none =>
    obtain ⟨rfl, rfl⟩ := hnil rfl
    refine wpList_append_own_none hgd s x 22 ho base 9 i 1 Try.underlying22 hi v l0.length (strs l0) hs hown hx ?_
    exact h v w (by simpa using hown) (Below.refl _ _)
  | some ad =>
    refine wpList_append_own w hgd s x 22 ho base 9 i (.string ⟨#[]⟩) 1 16 Try.underlying22 hi hz hz1 hz2 rfl (by decide) v l0.length (strs l0) hs hown ad l.length cap (strs l) hx (by rw [strs_len, Nat.mul_one]) ?_ (strs_one l) (by unfold maxLen; omega) (by omega) hbase ?_
    · rcases hE with rfl | ⟨b, o', hp, hB, hr⟩
      · intro j u hj; simp [strs] at hj
      · cases hp
        intro j u hj
        rw [strs_at] at hj
        obtain ⟨t, ht, rfl⟩ := Option.map_eq_some_iff.1 hj
        obtain ⟨hjl, rfl⟩ := List.getElem?_eq_some_iff.1 ht
        rw [Addr.add_mid]
        exact hr j hjl
    · intro v' w' h1 h2 _
      refine h v' w' (by rw [List.length_append, strs_app]; exact h1) ((Below.refl base w).grown h2 hbase (fun k hk => ?_))
      obtain ⟨_, _, hge⟩ := own_at hown hk
      exact hge
theorem slice22 (p : Option Addr) (n cap m : Nat) (hm : m ≤ n) (hc : n ≤ cap) (v : World) : (Instr.sliceAt 22 (.slice p n cap) none (some (.int .i64 (m : Int))) none).run Try.prog v = .ok (.slice p m cap) v := by
  have ht : Try.prog.underlying 22 = some (.slice (Try.prog.elem 22)) := by kernel_rfl
  have e1 : Try.prog.elem 22 = 9 := by kernel_rfl
  rw [run_sliceAt_slice v 22 _ _ _ _ ht, run_slice_h v 22 p n cap ht .i64 (m : Int) (by omega) (by omega), e1, Try.sizeOf9]
  have : p.map (fun a : Addr => a.add 0) = p := by cases p <;> simp [Addr.add]
  simp [Result.andThen, sliced, this]
def behA (p : Option Addr) (cap m : Nat) : Option Addr := if cap = m then p else p.map (·.add m)
theorem slice22b (p : Option Addr) (n cap m : Nat) (hm : m ≤ n) (v : World) : (Instr.sliceAt 22 (.slice p n cap) (some (.int .i64 (m : Int))) none none).run Try.prog v = .ok (.slice (behA p cap m) (n - m) (cap - m)) v := by
  have ht : Try.prog.underlying 22 = some (.slice (Try.prog.elem 22)) := by kernel_rfl
  have e1 : Try.prog.elem 22 = 9 := by kernel_rfl
  rw [run_sliceAt_slice v 22 _ _ _ _ ht, run_slice_l v 22 p n cap ht .i64 (m : Int) (by omega) (by omega), e1, Try.sizeOf9]
  simp [Result.andThen, sliced, behA]
theorem StrAt.take {B : Nat} {w : World} {p : Option Addr} {L : List ByteArray} (h : StrAt B w p L) (m : Nat) : StrAt B w p (L.take m) := by
  rcases h with rfl | ⟨b, o, h1, h2, h3⟩
  · exact .inl (by simp)
  · refine .inr ⟨b, o, h1, h2, fun k hk => ?_⟩
    have hk' : k < L.length := by rw [List.length_take] at hk; omega
    rw [h3 k hk', List.getElem_take]
theorem StrAt.beh {B : Nat} {w : World} {p : Option Addr} {L : List ByteArray} (h : StrAt B w p L) (m cap : Nat) (hc : L.length ≤ cap) : StrAt B w (behA p cap m) (L.drop m) := by
  rcases h with rfl | ⟨b, o, h1, h2, h3⟩
  · exact .inl (by simp)
  · subst h1
    by_cases e : cap = m
    · exact .inl (List.drop_eq_nil_of_le (by omega))
    · refine .inr ⟨b, o + m, by unfold behA; rw [if_neg e]; simp [Addr.add_mid], h2, fun k hk => ?_⟩
      have hk' : m + k < L.length := by rw [List.length_drop] at hk; omega
      rw [Nat.add_assoc, h3 (m + k) hk', List.getElem_drop]
theorem beh_nil {p : Option Addr} {cap m : Nat} {L : List ByteArray} (hn : p = none → cap = 0) (hc : L.length ≤ cap) (h : behA p cap m = none) : L.drop m = [] ∧ cap - m = 0 := by
  unfold behA at h
  split at h
  · rename_i e
    have := hn h
    exact ⟨List.drop_eq_nil_of_le (by omega), by omega⟩
  · cases p with
    | none => have := hn rfl; exact ⟨List.drop_eq_nil_of_le (by omega), by omega⟩
    | some ad => simp at h
theorem wpList_sl {ops : Array Oper} {op : Oper} {rest : List Oper} {a : Act} {w : World} {Q : Exit → Act → World → Prop} (hw : Region.wanted op (yielded ops a.tmps) = true) (t : TypeId) (x y : Operand) (ho : op.op = .slice t x none (some y) none) (vx vy : Value) (hx : a.eval x = vx) (hy : a.eval y = vy) (v : Value)
    (hv : ∀ w, (Instr.sliceAt t vx none (some vy) none).run Try.prog w = .ok v w) (h : wpList Try.prog ops Q rest (a.put op.dst v) w) : wpList Try.prog ops Q (op :: rest) a w := by
  have he : (execOp a.eval op).run Try.prog w = .ok (.value v) w := by subst hx hy; unfold execOp; simp only [ho, Option.map_none, Option.map_some]; exact run_val (hv w)
  unfold wpList
  rw [if_pos hw]
  unfold Oper.wp
  rw [he]
  exact .inl h
theorem wpList_slb {ops : Array Oper} {op : Oper} {rest : List Oper} {a : Act} {w : World} {Q : Exit → Act → World → Prop} (hw : Region.wanted op (yielded ops a.tmps) = true) (t : TypeId) (x y : Operand) (ho : op.op = .slice t x (some y) none none) (vx vy : Value) (hx : a.eval x = vx) (hy : a.eval y = vy) (v : Value)
    (hv : ∀ w, (Instr.sliceAt t vx (some vy) none none).run Try.prog w = .ok v w) (h : wpList Try.prog ops Q rest (a.put op.dst v) w) : wpList Try.prog ops Q (op :: rest) a w := by
  have he : (execOp a.eval op).run Try.prog w = .ok (.value v) w := by subst hx hy; unfold execOp; simp only [ho, Option.map_none, Option.map_some]; exact run_val (hv w)
  unfold wpList
  rw [if_pos hw]
  unfold Oper.wp
  rw [he]
  exact .inl h
theorem strs_nil (w : World) (n₀ : Nat) : w.ownsRow n₀ 9 1 (.slice none 0 0) ([] : List ByteArray).length (strs []) := ⟨rfl, .inl ⟨rfl, rfl⟩⟩

set_option maxHeartbeats 1000000 in
theorem rplace_any (a : Option Addr) (c : Nat) (L : List ByteArray) (x : ByteArray) (w : World) (h : StrAt w.heap.size w a L) (hL : L.length ≤ 1000) :
    Calls Try.prog 60 #[.slice a L.length c, .string x] w fun e w' => e = .returned (.int .i64 (Lib.idxOfS L x)) ∧ w' = w := by
  have h' := Lib.hid h
  have hc := Lib.hid (idx_cases L x)
  have hm := Lib.hid hL
  generalize Lib.idxOfS L x = R at *
  have hm0 := hL
  clear h hL
  go_enter Try.func60, Try.ntmps60
  go_wp2_with fail
  go_loopw [5] (fun i wr => ∃ k : Nat, k ≤ L.length ∧ i = .int .i64 (k : Int) ∧ Hid (∀ j, j < k → L[j]? ≠ some x) ∧ wr = w) (fun i _ => L.length - (intOf i).toNat)
  case atStart => exact ⟨0, Nat.zero_le _, rfl, Lib.hid (fun j hj => absurd hj (Nat.not_lt_zero _)), rfl⟩
  case round =>
    obtain ⟨k, hk, rfl, hp, rfl⟩ := hrel
    by_cases hlt : k < L.length
    · have hlt' : (k : Int) < (L.length : Int) := by omega
      have hlt2 : decide (k < L.length) = true := by simpa using hlt
      rcases h'.out with hn | ⟨b, o, rfl, _, hcs⟩
      · rw [hn] at hlt; simp at hlt
      have hc1 := hcs k hlt
      have hy : Hid (L[k]? = some L[k]) := Lib.hid (List.getElem?_eq_getElem hlt)
      clear hcs
      generalize L[k] = y at *
      by_cases e : y = x
      · have t1 : (y.toList == x.toList) = true := by rw [ba_beq]; exact decide_eq_true e
        have hR : Hid (R = (k : Int)) := Lib.hid (by
          rcases hc.out with ⟨h1, _⟩ | ⟨k', h1, h2, h3, h4⟩
          · exact absurd (e ▸ List.mem_of_getElem? hy.out) h1
          · rcases Nat.lt_trichotomy k k' with q | q | q
            · exact absurd (e ▸ hy.out) (h4 k q)
            · rw [h2, q]
            · exact absurd h3 (hp.out k' q))
        clear hc
        go_wp2_with fail
        go_ret
        exact ⟨by rw [hR.out]; rfl, rfl⟩
      · have t1 : (y.toList == x.toList) = false := by rw [ba_beq]; exact decide_eq_false e
        have hp2 : Hid (∀ j, j < k + 1 → L[j]? ≠ some x) := Lib.hid (fun j hj => by
          by_cases q : j = k
          · rw [q, hy.out]; intro q2; exact e (Option.some.inj q2)
          · exact hp.out j (by omega))
        go_wp2_with fail
        go_roundw
        case rel => exact ⟨k + 1, by omega, by go_num, hp2, trivial⟩
        case measure => simp [intOf]; omega
    · obtain rfl : k = L.length := by omega
      have hlt' : ¬ (L.length : Int) < (L.length : Int) := by omega
      have hlt2 : decide (L.length < L.length) = false := by simp
      have hR : Hid (R = -1) := Lib.hid (by
        rcases hc.out with ⟨_, h2⟩ | ⟨k', h1, h2, h3, h4⟩
        · exact h2
        · exact absurd h3 (hp.out k' h1))
      go_wp2_with fail
      go_ret
      exact ⟨by rw [hR.out]; rfl, rfl⟩

set_option maxHeartbeats 4000000 in
set_option maxRecDepth 100000 in
theorem rrelease_any (f : Fl) (x : ByteArray) (L : List ByteArray) (w : World) (h : StrAt w.heap.size w f.ha L) (hn : f.hn = L.length) (hL : L.length ≤ 200) (hc : f.hn ≤ f.hc) (hnil : f.ha = none → f.hc = 0) :
    Calls Try.prog 36 #[.agg (flr f), .string x] w (RRes f.ha L f (rlC x L) (rmv x L) w) := by
  obtain ⟨i, nm, da, se, un, ha, n, hc'⟩ := f
  dsimp only at h hn hc hnil
  subst hn
  have K0 := Lib.hid (KW.two w (.cells (flr ⟨i, nm, da, se, un, ha, L.length, hc'⟩) 24) (.cells (flr fl0) 24))
  have hs0 := Lib.hid (fun (v : World) (hb : Below w.heap.size w v) => h.on hb)
  have hcap := Lib.hid hc
  have hnl := Lib.hid hnil
  have hLL := Lib.hid hL
  have hz := zero27
  have cp := Lib.hid (fun (v : World) (hb : Below w.heap.size w v) => rplace_any ha hc' L x v (h.on hb) (by omega))
  have hC : Hid (rlC x L = if 0 ≤ Lib.idxOfS L x then 0 else 3) := Lib.hid rfl
  have hR : Hid (rmv x L = if 0 ≤ Lib.idxOfS L x then L.eraseIdx (Lib.idxOfS L x).toNat else L) := Lib.hid rfl
  have hx := Lib.hid (idx_cases L x)
  generalize rlC x L = C at *
  generalize rmv x L = R at *
  generalize Lib.idxOfS L x = I at *
  clear h hc hnil hL
  go_enter Try.func36, Try.ntmps36
  go_upto_region 1 with fail
  revert K0
  generalize (w.alloc (.cells (flr ⟨i, nm, da, se, un, ha, L.length, hc'⟩) 24)).alloc (.cells (flr fl0) 24) = V0
  intro K0
  have k5 := K0.out.cell 1 rfl 5 (y := .slice ha L.length hc') rfl
  go_wp2_with fail
  refine (cp.out _ K0.out.bel).mono ?_
  rintro e v ⟨rfl, rfl⟩
  by_cases q : I < 0
  · have s1 : decide (I < 0) = true := decide_eq_true q
    have hC2 : Hid (C = 3) := Lib.hid (hC.out.trans (if_neg (by omega)))
    have hR2 : Hid (R = L) := Lib.hid (hR.out.trans (if_neg (by omega)))
    clear hC hR hx q
    have Kr := Lib.hid (K0.out.row 0 rfl (Nat.le_succ _) (flr (⟨i, nm, da, se, un, ha, L.length, hc'⟩ : Fl)))
    have g1 : Hid (_ = some (Obj.cells (flr (⟨i, nm, da, se, un, ha, L.length, hc'⟩ : Fl)) 24)) := Lib.hid (K0.out.at 1 rfl)
    have g0 : Hid (_ = some (Obj.cells (flr fl0) 24)) := Lib.hid (K0.out.at 0 rfl)
    clear K0 cp
    go_wp2_with (first
        | (with_reducible refine wpList_load_row (by rfl) 24 (.tmp 2) rfl _ rfl 24 _ _ g1.out Try.underlying24 rfl (row27 _) ?_)
        | (with_reducible refine wpList_store_row (by rfl) 24 (.tmp 4) (.tmp 14) rfl _ (flr (⟨i, nm, da, se, un, ha, L.length, hc'⟩ : Fl)) rfl rfl 24 _ g0.out (row27 _) (flr_same _ _) (flr_one _) ?_))
    exact bodyPost_row2 4 5 24 rfl _ rfl _ rfl 24 _ _ (Kr.out.at 0 rfl) Try.underlying24 rfl (row27 _) rfl (by rw [hC2.out, hR2.out]; exact ⟨ha, hc', rfl, .inl ⟨rfl, rfl⟩, Kr.out.bel⟩)
  have s1 : decide (I < 0) = false := decide_eq_false q
  obtain ⟨k, hk, rfl, _, _⟩ : ∃ k : Nat, k < L.length ∧ I = (k : Int) ∧ True ∧ True := by
    rcases hx.out with ⟨_, h2⟩ | ⟨k, h1, h2, _⟩
    · omega
    · exact ⟨k, h1, h2, trivial, trivial⟩
  have hC2 : Hid (C = 0) := Lib.hid (hC.out.trans (if_pos (by omega)))
  have hR2 : Hid (R = L.take k ++ L.drop (k + 1)) := Lib.hid ((hR.out.trans (if_pos (by omega))).trans (by rw [Int.toNat_natCast, List.eraseIdx_eq_take_drop_succ]))
  have hk' := Lib.hid hk
  have sl := Lib.hid (slice22 ha L.length hc' k (by omega) hcap.out)
  have slb : Hid (∀ v, (Instr.sliceAt 22 (.slice ha L.length hc') (some (.int .i64 ((k : Int) + 1))) none none).run Try.prog v = .ok (.slice (behA ha hc' (k + 1)) (L.length - (k + 1)) (hc' - (k + 1))) v) := Lib.hid (fun v => slice22b ha L.length hc' (k + 1) (by omega) v)
  have lt1 : Hid ((L.take k).length = k) := Lib.hid (by rw [List.length_take]; omega)
  have lt2 : Hid ((L.drop (k + 1)).length = L.length - (k + 1)) := Lib.hid (by rw [List.length_drop])
  clear hC hR hx q hk
  go_upto_region 5 with fail
  have hsA := Lib.hid ((hs0.out _ K0.out.bel).take k)
  have hlo : Hid (w.heap.size + 2 ≤ _) := Lib.hid (K0.out.lt 0 rfl)
  have nA : Hid (ha = none → L.take k = [] ∧ hc' = 0) := Lib.hid (fun e => ⟨by have h0 := hnl.out e; have h1 := hcap.out; exact List.eq_nil_of_length_eq_zero (by rw [lt1.out]; have := hk'.out; omega), hnl.out e⟩)
  have sA : Hid (0 + k ≤ 1000) := Lib.hid (by have := hLL.out; have := hk'.out; omega)
  go_wp2_with (first
    | (refine wpList_sl (by rfl) 22 (.tmp 17) (.tmp 18) rfl (.slice ha L.length hc') (.int .i64 (k : Int)) rfl rfl (.slice ha k hc') sl.out ?_)
    | (at_builtin; refine wpList_append_strs (by rfl) (.tmp 15) (.tmp 19) rfl (w.heap.size + 2) (.slice none 0 0) [] 0 rfl rfl (strs_nil _ _) ha hc' (L.take k) k lt1.out rfl hsA.out nA.out sA.out hlo.out (L.take k) rfl k lt1.out ?_))
  intro v1 w1 ho1 hb1
  have K1 := Lib.hid (K0.out.under hb1 (by omega) (by intro x hx; simp only [List.mem_cons, List.not_mem_nil, or_false] at hx; rcases hx with rfl | rfl <;> simp))
  have hkk := hk'.out
  have hll := hLL.out
  clear k5 K0 hb1 hsA hlo nA sA sl
  have k5 := K1.out.cell 1 rfl 5 (y := .slice ha L.length hc') rfl
  have hsB := Lib.hid ((hs0.out _ K1.out.bel).beh (k + 1) hc' hcap.out)
  have nB : Hid (behA ha hc' (k + 1) = none → L.drop (k + 1) = [] ∧ hc' - (k + 1) = 0) := Lib.hid (beh_nil hnl.out hcap.out)
  have sB : Hid (k + (L.length - (k + 1)) ≤ 1000) := Lib.hid (by omega)
  have hlo : Hid (w.heap.size + 2 ≤ _) := Lib.hid (K1.out.lt 0 rfl)
  have o1 := Lib.hid ho1
  clear ho1
  go_wp2_with (first
    | (refine wpList_slb (by rfl) 22 (.tmp 23) (.tmp 25) rfl (.slice ha L.length hc') (.int .i64 ((k : Int) + 1)) rfl rfl _ slb.out ?_)
    | (at_builtin; go_must (refine wpList_append_strs (by rfl) (.tmp 21) (.tmp 26) rfl (w.heap.size + 2) v1 (L.take k) k lt1.out rfl o1.out (behA ha hc' (k + 1)) (hc' - (k + 1)) (L.drop (k + 1)) (L.length - (k + 1)) lt2.out rfl hsB.out nB.out sB.out hlo.out R hR2.out.symm R.length rfl ?_)))
  intro v2 w2 ho2 hb2
  have K2 := Lib.hid (K1.out.under hb2 (by omega) (by intro x hx; simp only [List.mem_cons, List.not_mem_nil, or_false] at hx; rcases hx with rfl | rfl <;> simp))
  obtain ⟨a2, c2, rfl, _, _⟩ := own_slice ho2
  have o2 := Lib.hid ho2
  clear ho2 hb2 K1 k5 hsB nB sB o1 slb hR2 hkk hll lt1 lt2
  have k5 := K2.out.cell 1 rfl 5 (y := .slice ha L.length hc') rfl
  have z5 := K2.out.frozen 1 rfl 5
  have K3 := Lib.hid (K2.out.fho 1 rfl (Nat.le_refl _) a2 R.length c2)
  have o3 := Lib.hid (own_set o2.out (b := w.heap.size) (by omega) 5 (.slice a2 R.length c2))
  have o4 := Lib.hid (own_row o3.out (b := w.heap.size + 1) (by omega) (flr (⟨i, nm, da, se, un, a2, R.length, c2⟩ : Fl)))
  have Kr := Lib.hid (K3.out.row 0 rfl (Nat.le_succ _) (flr (⟨i, nm, da, se, un, a2, R.length, c2⟩ : Fl)))
  have g1 : Hid (_ = some (Obj.cells (flr (⟨i, nm, da, se, un, a2, R.length, c2⟩ : Fl)) 24)) := Lib.hid (K3.out.at 1 rfl)
  have g0 : Hid (_ = some (Obj.cells (flr fl0) 24)) := Lib.hid (K3.out.at 0 rfl)
  clear K2 K3 o2 o3
  go_wp2_with (first
      | (with_reducible refine wpList_load_row (by rfl) 24 (.tmp 2) rfl _ rfl 24 _ _ g1.out Try.underlying24 rfl (row27 _) ?_)
      | (with_reducible refine wpList_store_row (by rfl) 24 (.tmp 4) (.tmp 30) rfl _ (flr (⟨i, nm, da, se, un, a2, R.length, c2⟩ : Fl)) rfl rfl 24 _ g0.out (row27 _) (flr_same _ _) (flr_one _) ?_))
  exact bodyPost_row2 4 5 24 rfl _ rfl _ rfl 24 _ _ (Kr.out.at 0 rfl) Try.underlying24 rfl (row27 _) rfl (by rw [hC2.out]; exact ⟨a2, c2, rfl, .inr ((fr_own o4.out).less (by omega)), Kr.out.bel⟩)


set_option maxHeartbeats 4000000 in
set_option maxRecDepth 100000 in
theorem rhold_any (f : Fl) (x : ByteArray) (L : List ByteArray) (w : World) (h : StrAt w.heap.size w f.ha L) (hn : f.hn = L.length) (hL : L.length ≤ 200) (hs : ∀ y ∈ L, y.size ≤ 1099511627776) (hx : x.size ≤ 1099511627776) (hc : f.hn ≤ f.hc) (hnil : f.ha = none → f.hc = 0) :
    Calls Try.prog 35 #[.agg (flr f), .string x] w (RRes f.ha L f (hldC f.se x L) (hldL f.se x L) w) := by
  obtain ⟨i, nm, da, se, un, ha, n, hc'⟩ := f
  dsimp only at h hn hc hnil ⊢
  subst hn
  have K0 := Lib.hid (KW.two w (.cells (flr ⟨i, nm, da, se, un, ha, L.length, hc'⟩) 24) (.cells (flr fl0) 24))
  have hs0 := Lib.hid (fun (v : World) (hb : Below w.heap.size w v) => h.on hb)
  have hcap := Lib.hid hc
  have hnl := Lib.hid hnil
  have hLL := Lib.hid hL
  have hz := zero27
  have cp := Lib.hid (fun (v : World) (hb : Below w.heap.size w v) => rplace_any ha hc' L x v (h.on hb) (by omega))
  have cv := Lib.hid (fun v => rname_any x hx v)
  have cl := Lib.hid (fun y (hy : y ∈ L) v => rless_b y x (hs y hy) hx v)
  have hC : Hid (hldC se x L = if se = false then 6 else if vdB x = false then 2 else if Lib.containsS L x = true then 4 else if 4 ≤ L.length then 10 else 0) := Lib.hid rfl
  have hR : Hid (hldL se x L = if hldC se x L = 0 then insAt x (plc x L) L else L) := Lib.hid rfl
  have hcb : Hid (Lib.containsS L x = decide (0 ≤ Lib.idxOfS L x)) := Lib.hid rfl
  generalize hldL se x L = R at *
  generalize hldC se x L = C at *
  generalize Lib.containsS L x = cb at *
  generalize Lib.idxOfS L x = I at *
  generalize vdB x = vb at *
  clear h hc hnil hL hs hx
  go_enter Try.func35, Try.ntmps35
  go_upto_region 1 with fail
  revert K0
  generalize (w.alloc (.cells (flr ⟨i, nm, da, se, un, ha, L.length, hc'⟩) 24)).alloc (.cells (flr fl0) 24) = V0
  intro K0
  go_wp2_with fail
  refine (cv.out _).mono ?_
  rintro e v ⟨rfl, hb⟩
  have K1 := Lib.hid (K0.out.past hb)
  have k3 := K1.out.cell 1 rfl 3 (y := .bool se) rfl
  clear K0 hb cv
  cases se with
  | false =>
    have hC2 : Hid (C = 6) := Lib.hid (hC.out.trans (if_pos rfl))
    have hR2 : Hid (R = L) := Lib.hid (hR.out.trans (if_neg (by rw [hC2.out]; decide)))
    clear hC hR
    have Kr := Lib.hid (K1.out.row 0 rfl (Nat.le_succ _) (flr (⟨i, nm, da, false, un, ha, L.length, hc'⟩ : Fl)))
    have g1 : Hid (_ = some (Obj.cells (flr (⟨i, nm, da, false, un, ha, L.length, hc'⟩ : Fl)) 24)) := Lib.hid (K1.out.at 1 rfl)
    have g0 : Hid (_ = some (Obj.cells (flr fl0) 24)) := Lib.hid (K1.out.at 0 rfl)
    clear K1 cp
    go_wp2_with (first
        | (with_reducible refine wpList_load_row (by rfl) 24 (.tmp 2) rfl _ rfl 24 _ _ g1.out Try.underlying24 rfl (row27 _) ?_)
        | (with_reducible refine wpList_store_row (by rfl) 24 (.tmp 4) (.tmp 14) rfl _ (flr (⟨i, nm, da, false, un, ha, L.length, hc'⟩ : Fl)) rfl rfl 24 _ g0.out (row27 _) (flr_same _ _) (flr_one _) ?_))
    exact bodyPost_row2 4 5 24 rfl _ rfl _ rfl 24 _ _ (Kr.out.at 0 rfl) Try.underlying24 rfl (row27 _) rfl (by rw [hC2.out, hR2.out]; exact ⟨ha, hc', rfl, .inl ⟨rfl, rfl⟩, Kr.out.bel⟩)
  | true =>
  have hC : Hid (C = _) := Lib.hid (hC.out.trans (if_neg (show ¬ (true = false) by decide)))
  cases vb with
  | false =>
    have hC2 : Hid (C = 2) := Lib.hid (hC.out.trans (if_pos rfl))
    have hR2 : Hid (R = L) := Lib.hid (hR.out.trans (if_neg (by rw [hC2.out]; decide)))
    clear hC hR
    have Kr := Lib.hid (K1.out.row 0 rfl (Nat.le_succ _) (flr (⟨i, nm, da, true, un, ha, L.length, hc'⟩ : Fl)))
    have g1 : Hid (_ = some (Obj.cells (flr (⟨i, nm, da, true, un, ha, L.length, hc'⟩ : Fl)) 24)) := Lib.hid (K1.out.at 1 rfl)
    have g0 : Hid (_ = some (Obj.cells (flr fl0) 24)) := Lib.hid (K1.out.at 0 rfl)
    clear K1 cp
    go_wp2_with (first
        | (with_reducible refine wpList_load_row (by rfl) 24 (.tmp 2) rfl _ rfl 24 _ _ g1.out Try.underlying24 rfl (row27 _) ?_)
        | (with_reducible refine wpList_store_row (by rfl) 24 (.tmp 4) (.tmp 17) rfl _ (flr (⟨i, nm, da, true, un, ha, L.length, hc'⟩ : Fl)) rfl rfl 24 _ g0.out (row27 _) (flr_same _ _) (flr_one _) ?_))
    exact bodyPost_row2 4 5 24 rfl _ rfl _ rfl 24 _ _ (Kr.out.at 0 rfl) Try.underlying24 rfl (row27 _) rfl (by rw [hC2.out, hR2.out]; exact ⟨ha, hc', rfl, .inl ⟨rfl, rfl⟩, Kr.out.bel⟩)
  | true =>
  have hC : Hid (C = _) := Lib.hid (hC.out.trans (if_neg (show ¬ (true = false) by decide)))
  have k5 := K1.out.cell 1 rfl 5 (y := .slice ha L.length hc') rfl
  go_wp2_with fail
  refine (cp.out _ K1.out.bel).mono ?_
  rintro e v ⟨rfl, rfl⟩
  clear cp
  by_cases q : 0 ≤ I
  · have s1 : decide (0 ≤ I) = true := decide_eq_true q
    have hC2 : Hid (C = 4) := Lib.hid (hC.out.trans (if_pos (hcb.out.trans s1)))
    have hR2 : Hid (R = L) := Lib.hid (hR.out.trans (if_neg (by rw [hC2.out]; decide)))
    clear hC hR q
    have Kr := Lib.hid (K1.out.row 0 rfl (Nat.le_succ _) (flr (⟨i, nm, da, true, un, ha, L.length, hc'⟩ : Fl)))
    have g1 : Hid (_ = some (Obj.cells (flr (⟨i, nm, da, true, un, ha, L.length, hc'⟩ : Fl)) 24)) := Lib.hid (K1.out.at 1 rfl)
    have g0 : Hid (_ = some (Obj.cells (flr fl0) 24)) := Lib.hid (K1.out.at 0 rfl)
    clear K1
    go_wp2_with (first
        | (with_reducible refine wpList_load_row (by rfl) 24 (.tmp 2) rfl _ rfl 24 _ _ g1.out Try.underlying24 rfl (row27 _) ?_)
        | (with_reducible refine wpList_store_row (by rfl) 24 (.tmp 4) (.tmp 23) rfl _ (flr (⟨i, nm, da, true, un, ha, L.length, hc'⟩ : Fl)) rfl rfl 24 _ g0.out (row27 _) (flr_same _ _) (flr_one _) ?_))
    exact bodyPost_row2 4 5 24 rfl _ rfl _ rfl 24 _ _ (Kr.out.at 0 rfl) Try.underlying24 rfl (row27 _) rfl (by rw [hC2.out, hR2.out]; exact ⟨ha, hc', rfl, .inl ⟨rfl, rfl⟩, Kr.out.bel⟩)
  have s1 : decide (0 ≤ I) = false := decide_eq_false q
  have hC : Hid (C = _) := Lib.hid (hC.out.trans (if_neg (show ¬ (cb = true) by rw [hcb.out, s1]; decide)))
  clear q
  by_cases q : 4 ≤ L.length
  · have s2 : decide ((4 : Int) ≤ (L.length : Int)) = true := decide_eq_true (by omega)
    have hC2 : Hid (C = 10) := Lib.hid (hC.out.trans (if_pos q))
    have hR2 : Hid (R = L) := Lib.hid (hR.out.trans (if_neg (by rw [hC2.out]; decide)))
    have s3 : (4 : Int) ≤ (L.length : Int) := by omega
    have s4 : decide (4 ≤ L.length) = true := decide_eq_true q
    clear hC hR q
    have Kr := Lib.hid (K1.out.row 0 rfl (Nat.le_succ _) (flr (⟨i, nm, da, true, un, ha, L.length, hc'⟩ : Fl)))
    have g1 : Hid (_ = some (Obj.cells (flr (⟨i, nm, da, true, un, ha, L.length, hc'⟩ : Fl)) 24)) := Lib.hid (K1.out.at 1 rfl)
    have g0 : Hid (_ = some (Obj.cells (flr fl0) 24)) := Lib.hid (K1.out.at 0 rfl)
    clear K1
    go_wp2_with (first
        | (with_reducible refine wpList_load_row (by rfl) 24 (.tmp 2) rfl _ rfl 24 _ _ g1.out Try.underlying24 rfl (row27 _) ?_)
        | (with_reducible refine wpList_store_row (by rfl) 24 (.tmp 4) (.tmp 28) rfl _ (flr (⟨i, nm, da, true, un, ha, L.length, hc'⟩ : Fl)) rfl rfl 24 _ g0.out (row27 _) (flr_same _ _) (flr_one _) ?_))
    exact bodyPost_row2 4 5 24 rfl _ rfl _ rfl 24 _ _ (Kr.out.at 0 rfl) Try.underlying24 rfl (row27 _) rfl (by rw [hC2.out, hR2.out]; exact ⟨ha, hc', rfl, .inl ⟨rfl, rfl⟩, Kr.out.bel⟩)
  have s2 : decide ((4 : Int) ≤ (L.length : Int)) = false := decide_eq_false (by omega)
  have s3 : ¬ (4 : Int) ≤ (L.length : Int) := by omega
  have s4 : decide (4 ≤ L.length) = false := decide_eq_false q
  have hC2 : Hid (C = 0) := Lib.hid (hC.out.trans (if_neg q))
  have hR2 : Hid (R = insAt x (plc x L) L) := Lib.hid (hR.out.trans (if_pos hC2.out))
  have hL4 : L.length < 4 := by omega
  clear hC hR q k3
  go_wp2_with fail
  go_loopw [7] (fun j wr => ∃ k : Nat, k ≤ L.length ∧ j = .int .i64 (k : Int) ∧ Hid (plc x L = k + plc x (L.drop k)) ∧ Hid (KW w.heap.size w [(w.heap.size + 1, .cells (flr fl0) 24), (w.heap.size, .cells (flr ⟨i, nm, da, true, un, ha, L.length, hc'⟩) 24)] wr)) (fun j _ => L.length - (intOf j).toNat)
  case atStart => exact ⟨0, Nat.zero_le _, rfl, Lib.hid (by simp), K1⟩
  case round =>
    obtain ⟨k, hk, rfl, hp, K0⟩ := hrel
    rename_i wr
    clear k5 K1 s2 s3 s4
    have k5 := K0.out.cell 1 rfl 5 (y := .slice ha L.length hc') rfl
    by_cases hlt : k < L.length
    · have hlt' : (k : Int) < (L.length : Int) := by omega
      have hlt2 : decide (k < L.length) = true := by simpa using hlt
      obtain ⟨b, o, rfl, hcs⟩ : ∃ b o, ha = some ⟨b, o, none⟩ ∧ wr.cell? ⟨b, o + k, none⟩ = some (.string L[k]) := by
        rcases hs0.out _ K0.out.bel with hn | ⟨b, o, h1, _, h3⟩
        · rw [hn] at hlt; simp at hlt
        · exact ⟨b, o, h1, h3 k hlt⟩
      have cy := Lib.hid (fun v => cl.out _ (List.getElem_mem hlt) v)
      have hnx := Lib.hid (plc_drop x L k hp.out hlt)
      have hst := Lib.hid (plc_stop x L k hp.out hlt)
      generalize L[k] = y at *
      cases hl : lsB y x with
      | true =>
        rw [hl] at cy
        have hp1 := Lib.hid (hnx.out hl)
        clear hl hnx hst
        go_wp2_with fail
        refine (cy.out _).mono ?_
        rintro e v2 ⟨rfl, hb⟩
        have K2 := Lib.hid (K0.out.past hb)
        clear hb
        go_wp2_with fail
        go_roundw
        case rel => exact ⟨k + 1, by omega, by go_num, hp1, K2⟩
        case measure => simp [intOf]; omega
      | false =>
        rw [hl] at cy
        have hp1 : Hid (plc x L = k) := Lib.hid (hst.out hl)
        clear hl hnx hst hp
        go_wp2_with fail
        refine (cy.out _).mono ?_
        rintro e v2 ⟨rfl, hb⟩
        have K2 := Lib.hid (K0.out.past hb)
        clear hb K0 k5 hcs hlt2 hlt' cy
        go_upto_region 15 with fail
        have hk' : Hid (k ≤ L.length) := Lib.hid hk
        have sl := Lib.hid (slice22 (some (⟨b, o, none⟩ : Addr)) L.length hc' (k) hk hcap.out)
        have slb := Lib.hid (slice22b (some (⟨b, o, none⟩ : Addr)) L.length hc' (k) hk)
        have lt1 : Hid ((L.take (k)).length = k) := Lib.hid (by rw [List.length_take]; omega)
        have lt2 : Hid ((L.drop (k)).length = L.length - k) := Lib.hid (by rw [List.length_drop])
        have hRe : Hid ((L.take (k) ++ [x]) ++ L.drop (k) = R) := Lib.hid (by rw [hR2.out, hp1.out]; simp [insAt])
        clear hR2 hp1
        have k5 := K2.out.cell 1 rfl 5 (y := .slice (some (⟨b, o, none⟩ : Addr)) L.length hc') rfl
        have hsA := Lib.hid ((hs0.out _ K2.out.bel).take (k))
        have hlo : Hid (w.heap.size + 2 ≤ _) := Lib.hid (K2.out.lt 0 rfl)
        have nA : Hid ((some (⟨b, o, none⟩ : Addr)) = none → L.take (k) = [] ∧ hc' = 0) := Lib.hid (fun e => ⟨by have h0 := hnl.out e; have h1 := hcap.out; exact List.eq_nil_of_length_eq_zero (by rw [lt1.out]; have := hk'.out; omega), hnl.out e⟩)
        have sA : Hid (0 + k ≤ 1000) := Lib.hid (by have := hLL.out; have := hk'.out; omega)
        go_wp2_with (first
          | (refine wpList_sl (by rfl) 22 (.tmp 46) (.tmp 47) rfl (.slice (some (⟨b, o, none⟩ : Addr)) L.length hc') (.int .i64 (k : Int)) rfl rfl (.slice (some (⟨b, o, none⟩ : Addr)) (k) hc') sl.out ?_)
          | (at_builtin; go_must (refine wpList_append_strs (by rfl) (.tmp 44) (.tmp 48) rfl (w.heap.size + 2) (.slice none 0 0) [] 0 rfl rfl (strs_nil _ _) (some (⟨b, o, none⟩ : Addr)) hc' (L.take (k)) (k) lt1.out rfl hsA.out nA.out sA.out hlo.out (L.take (k)) rfl (k) lt1.out ?_)))
        intro v1 w1 ho1 hb1
        have K3 := Lib.hid (K2.out.under hb1 (by omega) (by intro x hx; simp only [List.mem_cons, List.not_mem_nil, or_false] at hx; rcases hx with rfl | rfl <;> simp))
        clear k5 K2 hb1 hsA hlo nA sA sl
        have o1 := Lib.hid ho1
        clear ho1
        have hlo : Hid (w.heap.size + 2 ≤ (w1.alloc (.cells #[.string x] 9)).heap.size) := Lib.hid (by have := K3.out.lt 0 rfl; simp; omega)
        have o1' := Lib.hid (own_past o1.out ((Below.refl _ _).alloc (Nat.le_refl _) (.cells #[.string x] 9)))
        have hsX : Hid (StrAt (w1.alloc (.cells #[.string x] 9)).heap.size (w1.alloc (.cells #[.string x] 9)) (some ⟨w1.heap.size, 0, none⟩) [x]) := Lib.hid (.inr ⟨w1.heap.size, 0, rfl, by simp, fun j hj => by
          obtain rfl : j = 0 := by simp at hj; omega
          exact cell_of_row _ _ _ _ _ _ (new_at w1 _)⟩)
        have nX : Hid ((some ⟨w1.heap.size, 0, none⟩ : Option Addr) = none → [x] = [] ∧ 1 = 0) := Lib.hid (fun e => by cases e)
        have sX : Hid (k + 1 ≤ 1000) := Lib.hid (by have := hLL.out; have := hk'.out; omega)
        have lt3 : Hid ((L.take (k) ++ [x]).length = k + 1) := Lib.hid (by rw [List.length_append, lt1.out]; rfl)
        go_wp2_with (at_builtin; go_must (refine wpList_append_strs (by rfl) (.tmp 50) (.tmp 52) rfl (w.heap.size + 2) v1 (L.take (k)) (k) lt1.out rfl o1'.out (some ⟨w1.heap.size, 0, none⟩) 1 [x] 1 rfl rfl hsX.out nX.out sX.out hlo.out (L.take (k) ++ [x]) rfl (k + 1) lt3.out ?_))
        intro v2 w2 ho2 hb2
        have K4 := Lib.hid ((K3.out.new (.cells #[.string x] 9)).drop.under hb2 (by omega) (by intro x hx; simp only [List.mem_cons, List.not_mem_nil, or_false] at hx; rcases hx with rfl | rfl <;> simp))
        clear K3 o1 o1' hsX nX sX hlo hb2
        have k5 := K4.out.cell 1 rfl 5 (y := .slice (some (⟨b, o, none⟩ : Addr)) L.length hc') rfl
        have hsB := Lib.hid ((hs0.out _ K4.out.bel).beh (k) hc' hcap.out)
        have nB : Hid (behA (some (⟨b, o, none⟩ : Addr)) hc' (k) = none → L.drop (k) = [] ∧ hc' - (k) = 0) := Lib.hid (beh_nil hnl.out hcap.out)
        have sB : Hid (k + 1 + (L.length - (k)) ≤ 1000) := Lib.hid (by have := hLL.out; have := hk'.out; omega)
        have hlo : Hid (w.heap.size + 2 ≤ _) := Lib.hid (K4.out.lt 0 rfl)
        have o2' := Lib.hid ho2
        clear ho2
        go_wp2_with (first
          | (refine wpList_slb (by rfl) 22 (.tmp 56) (.tmp 57) rfl (.slice (some (⟨b, o, none⟩ : Addr)) L.length hc') (.int .i64 (k : Int)) rfl rfl _ slb.out ?_)
          | (at_builtin; go_must (refine wpList_append_strs (by rfl) (.tmp 54) (.tmp 58) rfl (w.heap.size + 2) v2 (L.take (k) ++ [x]) (k + 1) lt3.out rfl o2'.out (behA (some (⟨b, o, none⟩ : Addr)) hc' (k)) (hc' - (k)) (L.drop (k)) (L.length - (k)) lt2.out rfl hsB.out nB.out sB.out hlo.out R hRe.out R.length rfl ?_)))
        intro v3 w3 ho3 hb3
        have K5 := Lib.hid (K4.out.under hb3 (by omega) (by intro x hx; simp only [List.mem_cons, List.not_mem_nil, or_false] at hx; rcases hx with rfl | rfl <;> simp))
        obtain ⟨a2, c2, rfl, _, _⟩ := own_slice ho3
        have o2 := Lib.hid ho3
        clear ho3 hb3 K4 k5 hsB nB sB o2' slb hRe lt1 lt2 lt3
        have k5 := K5.out.cell 1 rfl 5 (y := .slice (some (⟨b, o, none⟩ : Addr)) L.length hc') rfl
        have z5 := K5.out.frozen 1 rfl 5
        have K3 := Lib.hid (K5.out.fho 1 rfl (Nat.le_refl _) a2 R.length c2)
        have o3 := Lib.hid (own_set o2.out (b := w.heap.size) (by omega) 5 (.slice a2 R.length c2))
        have o4 := Lib.hid (own_row o3.out (b := w.heap.size + 1) (by omega) (flr (⟨i, nm, da, true, un, a2, R.length, c2⟩ : Fl)))
        have Kr := Lib.hid (K3.out.row 0 rfl (Nat.le_succ _) (flr (⟨i, nm, da, true, un, a2, R.length, c2⟩ : Fl)))
        have g1 : Hid (_ = some (Obj.cells (flr (⟨i, nm, da, true, un, a2, R.length, c2⟩ : Fl)) 24)) := Lib.hid (K3.out.at 1 rfl)
        have g0 : Hid (_ = some (Obj.cells (flr fl0) 24)) := Lib.hid (K3.out.at 0 rfl)
        clear K5 K3 o2 o3
        go_wp2_with (first
            | (with_reducible refine wpList_load_row (by rfl) 24 (.tmp 2) rfl _ rfl 24 _ _ g1.out Try.underlying24 rfl (row27 _) ?_)
            | (with_reducible refine wpList_store_row (by rfl) 24 (.tmp 4) (.tmp 62) rfl _ (flr (⟨i, nm, da, true, un, a2, R.length, c2⟩ : Fl)) rfl rfl 24 _ g0.out (row27 _) (flr_same _ _) (flr_one _) ?_))
        exact bodyPost_row2 4 5 24 rfl _ rfl _ rfl 24 _ _ (Kr.out.at 0 rfl) Try.underlying24 rfl (row27 _) rfl (by rw [hC2.out]; exact ⟨a2, c2, rfl, .inr ((fr_own o4.out).less (by omega)), Kr.out.bel⟩)
    · have hlt' : ¬ (k : Int) < (L.length : Int) := by omega
      have hlt2 : decide (k < L.length) = false := by simpa using hlt
      have hp1 : Hid (plc x L = k) := Lib.hid (by have h1 := hp.out; rw [List.drop_eq_nil_of_le (by omega)] at h1; exact h1)
      have K2 := K0
      clear hp K0
      go_upto_region 15 with fail
      have hk' : Hid (k ≤ L.length) := Lib.hid hk
      have sl := Lib.hid (slice22 (ha) L.length hc' (k) hk hcap.out)
      have slb := Lib.hid (slice22b (ha) L.length hc' (k) hk)
      have lt1 : Hid ((L.take (k)).length = k) := Lib.hid (by rw [List.length_take]; omega)
      have lt2 : Hid ((L.drop (k)).length = L.length - k) := Lib.hid (by rw [List.length_drop])
      have hRe : Hid ((L.take (k) ++ [x]) ++ L.drop (k) = R) := Lib.hid (by rw [hR2.out, hp1.out]; simp [insAt])
      clear hR2 hp1
      clear k5
      have k5 := K2.out.cell 1 rfl 5 (y := .slice (ha) L.length hc') rfl
      have hsA := Lib.hid ((hs0.out _ K2.out.bel).take (k))
      have hlo : Hid (w.heap.size + 2 ≤ _) := Lib.hid (K2.out.lt 0 rfl)
      have nA : Hid ((ha) = none → L.take (k) = [] ∧ hc' = 0) := Lib.hid (fun e => ⟨by have h0 := hnl.out e; have h1 := hcap.out; exact List.eq_nil_of_length_eq_zero (by rw [lt1.out]; have := hk'.out; omega), hnl.out e⟩)
      have sA : Hid (0 + k ≤ 1000) := Lib.hid (by have := hLL.out; have := hk'.out; omega)
      go_wp2_with (first
        | (refine wpList_sl (by rfl) 22 (.tmp 46) (.tmp 47) rfl (.slice (ha) L.length hc') (.int .i64 (k : Int)) rfl rfl (.slice (ha) (k) hc') sl.out ?_)
        | (at_builtin; go_must (refine wpList_append_strs (by rfl) (.tmp 44) (.tmp 48) rfl (w.heap.size + 2) (.slice none 0 0) [] 0 rfl rfl (strs_nil _ _) (ha) hc' (L.take (k)) (k) lt1.out rfl hsA.out nA.out sA.out hlo.out (L.take (k)) rfl (k) lt1.out ?_)))
      intro v1 w1 ho1 hb1
      have K3 := Lib.hid (K2.out.under hb1 (by omega) (by intro x hx; simp only [List.mem_cons, List.not_mem_nil, or_false] at hx; rcases hx with rfl | rfl <;> simp))
      clear k5 K2 hb1 hsA hlo nA sA sl
      have o1 := Lib.hid ho1
      clear ho1
      have hlo : Hid (w.heap.size + 2 ≤ (w1.alloc (.cells #[.string x] 9)).heap.size) := Lib.hid (by have := K3.out.lt 0 rfl; simp; omega)
      have o1' := Lib.hid (own_past o1.out ((Below.refl _ _).alloc (Nat.le_refl _) (.cells #[.string x] 9)))
      have hsX : Hid (StrAt (w1.alloc (.cells #[.string x] 9)).heap.size (w1.alloc (.cells #[.string x] 9)) (some ⟨w1.heap.size, 0, none⟩) [x]) := Lib.hid (.inr ⟨w1.heap.size, 0, rfl, by simp, fun j hj => by
        obtain rfl : j = 0 := by simp at hj; omega
        exact cell_of_row _ _ _ _ _ _ (new_at w1 _)⟩)
      have nX : Hid ((some ⟨w1.heap.size, 0, none⟩ : Option Addr) = none → [x] = [] ∧ 1 = 0) := Lib.hid (fun e => by cases e)
      have sX : Hid (k + 1 ≤ 1000) := Lib.hid (by have := hLL.out; have := hk'.out; omega)
      have lt3 : Hid ((L.take (k) ++ [x]).length = k + 1) := Lib.hid (by rw [List.length_append, lt1.out]; rfl)
      go_wp2_with (at_builtin; go_must (refine wpList_append_strs (by rfl) (.tmp 50) (.tmp 52) rfl (w.heap.size + 2) v1 (L.take (k)) (k) lt1.out rfl o1'.out (some ⟨w1.heap.size, 0, none⟩) 1 [x] 1 rfl rfl hsX.out nX.out sX.out hlo.out (L.take (k) ++ [x]) rfl (k + 1) lt3.out ?_))
      intro v2 w2 ho2 hb2
      have K4 := Lib.hid ((K3.out.new (.cells #[.string x] 9)).drop.under hb2 (by omega) (by intro x hx; simp only [List.mem_cons, List.not_mem_nil, or_false] at hx; rcases hx with rfl | rfl <;> simp))
      clear K3 o1 o1' hsX nX sX hlo hb2
      have k5 := K4.out.cell 1 rfl 5 (y := .slice (ha) L.length hc') rfl
      have hsB := Lib.hid ((hs0.out _ K4.out.bel).beh (k) hc' hcap.out)
      have nB : Hid (behA (ha) hc' (k) = none → L.drop (k) = [] ∧ hc' - (k) = 0) := Lib.hid (beh_nil hnl.out hcap.out)
      have sB : Hid (k + 1 + (L.length - (k)) ≤ 1000) := Lib.hid (by have := hLL.out; have := hk'.out; omega)
      have hlo : Hid (w.heap.size + 2 ≤ _) := Lib.hid (K4.out.lt 0 rfl)
      have o2' := Lib.hid ho2
      clear ho2
      go_wp2_with (first
        | (refine wpList_slb (by rfl) 22 (.tmp 56) (.tmp 57) rfl (.slice (ha) L.length hc') (.int .i64 (k : Int)) rfl rfl _ slb.out ?_)
        | (at_builtin; go_must (refine wpList_append_strs (by rfl) (.tmp 54) (.tmp 58) rfl (w.heap.size + 2) v2 (L.take (k) ++ [x]) (k + 1) lt3.out rfl o2'.out (behA (ha) hc' (k)) (hc' - (k)) (L.drop (k)) (L.length - (k)) lt2.out rfl hsB.out nB.out sB.out hlo.out R hRe.out R.length rfl ?_)))
      intro v3 w3 ho3 hb3
      have K5 := Lib.hid (K4.out.under hb3 (by omega) (by intro x hx; simp only [List.mem_cons, List.not_mem_nil, or_false] at hx; rcases hx with rfl | rfl <;> simp))
      obtain ⟨a2, c2, rfl, _, _⟩ := own_slice ho3
      have o2 := Lib.hid ho3
      clear ho3 hb3 K4 k5 hsB nB sB o2' slb hRe lt1 lt2 lt3
      have k5 := K5.out.cell 1 rfl 5 (y := .slice (ha) L.length hc') rfl
      have z5 := K5.out.frozen 1 rfl 5
      have K3 := Lib.hid (K5.out.fho 1 rfl (Nat.le_refl _) a2 R.length c2)
      have o3 := Lib.hid (own_set o2.out (b := w.heap.size) (by omega) 5 (.slice a2 R.length c2))
      have o4 := Lib.hid (own_row o3.out (b := w.heap.size + 1) (by omega) (flr (⟨i, nm, da, true, un, a2, R.length, c2⟩ : Fl)))
      have Kr := Lib.hid (K3.out.row 0 rfl (Nat.le_succ _) (flr (⟨i, nm, da, true, un, a2, R.length, c2⟩ : Fl)))
      have g1 : Hid (_ = some (Obj.cells (flr (⟨i, nm, da, true, un, a2, R.length, c2⟩ : Fl)) 24)) := Lib.hid (K3.out.at 1 rfl)
      have g0 : Hid (_ = some (Obj.cells (flr fl0) 24)) := Lib.hid (K3.out.at 0 rfl)
      clear K5 K3 o2 o3
      go_wp2_with (first
          | (with_reducible refine wpList_load_row (by rfl) 24 (.tmp 2) rfl _ rfl 24 _ _ g1.out Try.underlying24 rfl (row27 _) ?_)
          | (with_reducible refine wpList_store_row (by rfl) 24 (.tmp 4) (.tmp 62) rfl _ (flr (⟨i, nm, da, true, un, a2, R.length, c2⟩ : Fl)) rfl rfl 24 _ g0.out (row27 _) (flr_same _ _) (flr_one _) ?_))
      exact bodyPost_row2 4 5 24 rfl _ rfl _ rfl 24 _ _ (Kr.out.at 0 rfl) Try.underlying24 rfl (row27 _) rfl (by rw [hC2.out]; exact ⟨a2, c2, rfl, .inr ((fr_own o4.out).less (by omega)), Kr.out.bel⟩)
end Go.Proofs.Ytphbkbjgjicncaa
