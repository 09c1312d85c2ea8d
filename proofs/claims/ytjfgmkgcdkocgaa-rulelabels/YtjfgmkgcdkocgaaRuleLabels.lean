/-
  For every file, and every two labels, RuleLabels returns true: two holds come to the same in either order.
  Conditions: none beyond the given statement's own.
-/
import Derived.Test.YtjfgmkgcdkocgaaRows
import Derived.Test.YtjfgmkgcdkocgaaWorks
import Derived.Test.YtjfgmkgcdkocgaaOpens
import Derived.Test.YtjfgmkgcdkocgaaFew
import Derived.Test.YtjfgmkgcdkocgaaSame
import Derived.Test.YtjfgmkgcdkocgaaHoldFacts
import Derived.Test.YtjfgmkgcdkocgaaNRvalid
import Derived.WalkKit
import Derived.ProofKit
import Derived.OpenShut
import Derived.ShutString
import Derived.ChangeOld
import Derived.Below
namespace Go.Proofs.Ytjfgmkgcdkocgaa.ruleLabels
open Go.ChangeShapes Go.WideShapes Go.ChangeAt Go.RowKit
open Go.ChangeMaps (open_string shut_string)
set_option linter.unusedVariables false

theorem own : ownKnob Try.prog.godebug = none := by kernel_rfl
theorem laidOut : laidOutB Try.prog = true := by kernel_rfl

/-! The mathematics: two holds in either order. -/
theorem ls_asym (a b : ByteArray) (h : lsB a b = true) : lsB b a = false := by
  cases k : lsB b a with
  | false => rfl
  | true => exact absurd ⟨h, k⟩ (nm.lxl_not _ _)
theorem ls_total (a b : ByteArray) (h : a ≠ b) (k : lsB a b = false) : lsB b a = true := by
  rcases nm.lxl_or (nm.pl (nm.li a)) (nm.pl (nm.li b)) (fun e => h (nm.li_inj (nm.pl_inj _ _ e))) with q | q
  · have : lsB a b = true := q
    rw [k] at this; cases this
  · exact q
theorem ls_trans (a b c : ByteArray) (h : lsB a b = true) (k : lsB b c = true) : lsB a c = true := nm.lxl_trans _ _ _ h k
/-- y is ahead of a, but not of b: b is ahead of a. -/
theorem ls_mid (y a b : ByteArray) (h : lsB y a = true) (k : lsB y b = false) : lsB b a = true := by
  by_cases e : y = b
  · rw [← e]; exact h
  · exact ls_trans _ _ _ (ls_total _ _ e k) h
def ins (x : ByteArray) : List ByteArray → List ByteArray
  | [] => [x]
  | y :: l => if lsB y x = true then y :: ins x l else x :: y :: l
theorem ins_at (x : ByteArray) (L : List ByteArray) : insAt x (plc x L) L = ins x L := by
  induction L with
  | nil => rfl
  | cons y l ih =>
    unfold ins plc
    by_cases h : lsB y x = true
    · rw [if_pos h, if_pos h, ← ih]; rfl
    · rw [if_neg h, if_neg h]; rfl
theorem ins_ins (a b : ByteArray) (h : a ≠ b) (L : List ByteArray) : ins a (ins b L) = ins b (ins a L) := by
  induction L with
  | nil =>
    cases k : lsB b a with
    | true =>
      have k2 := ls_asym _ _ k
      simp [ins, k, k2]
    | false =>
      have k2 := ls_total _ _ (Ne.symm h) k
      simp [ins, k, k2]
  | cons y l ih =>
    cases ka : lsB y a with
    | true =>
      cases kb : lsB y b with
      | true =>
        simp only [ins, ka, kb, if_true]
        rw [ih]
      | false =>
        have q := ls_mid y a b ka kb
        simp [ins, ka, kb, q]
    | false =>
      cases kb : lsB y b with
      | true =>
        have q := ls_mid y b a kb ka
        simp [ins, ka, kb, q]
      | false =>
        cases k : lsB b a with
        | true =>
          have k2 := ls_asym _ _ k
          simp [ins, ka, kb, k, k2]
        | false =>
          have k2 := ls_total _ _ (Ne.symm h) k
          simp [ins, ka, kb, k, k2]
theorem mem_ins (x a : ByteArray) (L : List ByteArray) : x ∈ insAt a (plc a L) L ↔ x = a ∨ x ∈ L := by
  unfold insAt
  constructor
  · intro h
    rcases List.mem_append.1 h with h | h
    · exact .inr (List.mem_of_mem_take h)
    · rcases List.mem_cons.1 h with h | h
      · exact .inl h
      · exact .inr (List.mem_of_mem_drop h)
  · rintro (rfl | h)
    · simp
    · rw [List.mem_append, List.mem_cons]
      rw [← List.take_append_drop (plc a L) L, List.mem_append] at h
      rcases h with h | h
      · exact .inl h
      · exact .inr (.inr h)
theorem contains_dec (L : List ByteArray) (x : ByteArray) : Lib.containsS L x = false ↔ x ∉ L := by
  constructor
  · exact not_in x L
  · intro h
    cases k : Lib.containsS L x with
    | false => rfl
    | true => exact absurd ((Lib.containsS_iff L x).1 k) h
theorem hldC_zero (se : Bool) (x : ByteArray) (L : List ByteArray) : hldC se x L = 0 ↔ se = true ∧ vdB x = true ∧ x ∉ L ∧ L.length < 4 := by
  rw [← contains_dec]
  constructor
  · intro h
    rcases hold_code se x L with ⟨_, h1, h2, h3, h4⟩ | ⟨h1, _⟩
    · exact ⟨h1, h2, h3, h4⟩
    · exact absurd h h1
  · rintro ⟨h1, h2, h3, h4⟩
    unfold hldC
    rw [h1, h2, h3]
    simp; omega
/-- Both holds may be placed, in this order. -/
def both (se : Bool) (a b : ByteArray) (L : List ByteArray) : Prop := hldC se a L = 0 ∧ hldC se b (hldL se a L) = 0
theorem both_iff (se : Bool) (a b : ByteArray) (L : List ByteArray) (h : a ≠ b) : both se a b L ↔ se = true ∧ vdB a = true ∧ vdB b = true ∧ a ∉ L ∧ b ∉ L ∧ L.length < 3 := by
  unfold both
  constructor
  · rintro ⟨h1, h2⟩
    have e : hldL se a L = insAt a (plc a L) L := by unfold hldL; rw [if_pos h1]
    rw [e, hldC_zero, mem_ins, insAt_len _ _ _ (plc_le a L)] at h2
    rw [hldC_zero] at h1
    exact ⟨h1.1, h1.2.1, h2.2.1, h1.2.2.1, fun q => h2.2.2.1 (.inr q), by have := h2.2.2.2; omega⟩
  · rintro ⟨h1, h2, h3, h4, h5, h6⟩
    have z : hldC se a L = 0 := (hldC_zero _ _ _).2 ⟨h1, h2, h4, by omega⟩
    have e : hldL se a L = insAt a (plc a L) L := by unfold hldL; rw [if_pos z]
    refine ⟨z, ?_⟩
    rw [e, hldC_zero, mem_ins, insAt_len _ _ _ (plc_le a L)]
    exact ⟨h1, h3, fun q => q.elim (fun q => h q.symm) h5, by omega⟩
theorem both_comm (se : Bool) (a b : ByteArray) (L : List ByteArray) (h : a ≠ b) : both se a b L ↔ both se b a L := by
  rw [both_iff _ _ _ _ h, both_iff _ _ _ _ (Ne.symm h)]
  constructor <;> (rintro ⟨h1, h2, h3, h4, h5, h6⟩; exact ⟨h1, h3, h2, h5, h4, h6⟩)
theorem both_same (se : Bool) (a b : ByteArray) (L : List ByteArray) (h : a ≠ b) (k : both se a b L) : hldL se b (hldL se a L) = hldL se a (hldL se b L) := by
  have k2 := (both_comm se a b L h).1 k
  have e1 : hldL se a L = ins a L := by rw [← ins_at]; unfold hldL; rw [if_pos k.1]
  have e2 : hldL se b L = ins b L := by rw [← ins_at]; unfold hldL; rw [if_pos k2.1]
  have e3 : hldL se b (hldL se a L) = ins b (hldL se a L) := by rw [← ins_at]; unfold hldL; rw [if_pos (by have := k.2; unfold hldL at this; exact this)]
  have e4 : hldL se a (hldL se b L) = ins a (hldL se b L) := by rw [← ins_at]; unfold hldL; rw [if_pos (by have := k2.2; unfold hldL at this; exact this)]
  rw [e3, e4, e1, e2, ins_ins b a (Ne.symm h)]
theorem hldL_len (se : Bool) (x : ByteArray) (L : List ByteArray) : (hldL se x L).length ≤ L.length + 1 := by
  unfold hldL
  split
  · rw [insAt_len _ _ _ (plc_le x L)]; exact Nat.le_refl _
  · omega
theorem hldL_size (se : Bool) (x : ByteArray) (L : List ByteArray) (n : Nat) (hx : x.size ≤ n) (h : ∀ y ∈ L, y.size ≤ n) : ∀ y ∈ hldL se x L, y.size ≤ n := by
  unfold hldL
  split
  · intro y hy
    rcases (mem_ins y x L).1 hy with rfl | hy
    · exact hx
    · exact h y hy
  · exact h
theorem StrAt.row {B : Nat} {w : World} {a : Option Addr} {L : List ByteArray} (h : StrAt B w a L) {b : Nat} (hb : B ≤ b) (c : Array Value) : StrAt B (w.setRow b c) a L := by
  rcases h with h | ⟨x, o, h1, h2, h3⟩
  · exact .inl h
  · exact .inr ⟨x, o, h1, h2, fun k hk => (cell_same (setRow_other _ _ _ _ (by omega))).trans (h3 k hk)⟩
theorem hold_fr (F : Fl) (x : ByteArray) (L : List ByteArray) (v : World) (h : StrAt v.heap.size v F.ha L) (hn : F.hn = L.length) (hL : L.length ≤ 1000) (hs : ∀ y ∈ L, y.size ≤ 1099511627776) (hx : x.size ≤ 1099511627776) :
    Calls Try.prog 21 #[.agg (flr F), .string x] v fun e v' => ∃ X : Fl, e = .returned (.tuple #[.agg (flr X), .int .i64 (hldC F.se x L)]) ∧ (X.id = F.id ∧ X.nm = F.nm ∧ X.da = F.da ∧ X.se = F.se ∧ X.un = F.un ∧ X.hn = (hldL F.se x L).length) ∧ Fr v.heap.size v' X.ha (hldL F.se x L) ∧ Below v.heap.size v v' := by
  refine (hold_any F x L v h hn hL hs hx).mono ?_
  rintro e v' ⟨a, c, rfl, hs, hb⟩
  exact ⟨_, rfl, ⟨rfl, rfl, rfl, rfl, rfl, rfl⟩, hs, hb⟩
theorem x_isub {P : Program} {o : Oper} {a : Act} {w : World} (t t' : TypeId) (x y : Operand) (ho : o.op = .binOp .sub t x y t') (m n : Int) (hx : a.eval x = .int .i64 m) (hy : a.eval y = .int .i64 n) (hb : -9223372036854775808 ≤ m - n ∧ m - n ≤ 9223372036854775807) : (execOp a.eval o).run P w = .ok (.value (.int .i64 (m - n))) w := by
  unfold execOp
  simp only [ho, hx, hy]
  have e : IntKind.i64.wrap (m - n) = m - n := by
    simp [IntKind.wrap, IntKind.signed, IntKind.bits]
    omega
  simp [eqGuard, binOp, go_sem, e]
theorem wpQuiet_isub {P : Program} {ops : Array Oper} {rest : List Oper} {o : Oper} {a : Act} {C : World → Prop} {Q : Act → Prop} (hw : Region.wanted o (yielded ops a.tmps) = true) (t t' : TypeId) (x y : Operand) (ho : o.op = .binOp .sub t x y t') (m n : Int) (hx : a.eval x = .int .i64 m) (hy : a.eval y = .int .i64 n) (hb : -9223372036854775808 ≤ m - n ∧ m - n ≤ 9223372036854775807)
    (h : wpQuiet P ops C Q rest (a.put o.dst (.int .i64 (m - n)))) : wpQuiet P ops C Q (o :: rest) a := wpQuiet_val hw _ (fun _ _ => x_isub t t' x y ho m n hx hy hb) h
theorem index25 (b o n c k : Nat) (hk : k < n) (v : World) : (Instr.indexAt 25 (.slice (some ⟨b, o, none⟩) n c) (.int .i64 (k : Int))).run Try.prog v = .ok (.pointer (some ⟨b, o + k, none⟩)) v := by
  rw [run_indexAt_slice (P := Try.prog) v 25 ⟨b, o, none⟩ n c .i64 (k : Int) (by kernel_rfl)]
  have e1 : Try.prog.elem 25 = 9 := by kernel_rfl
  simp [e1, Try.sizeOf9, hk, Addr.add_mid]
theorem ent24 : ∀ args w, (callFunc 24 args).run Try.prog w = .ok (.enter 24 args) w := enters_of Try.func24 (by kernel_rfl) rfl
set_option maxRecDepth 100000 in
set_option maxHeartbeats 4000000 in
theorem walk (f : Fl) (L : List ByteArray) (a b : ByteArray) (w : World) (wf : f.wf w L) (w2 : a.size ≤ maxLen) (w3 : b.size ≤ maxLen) :
    Calls Try.prog 7 #[.agg (flr f), .string a, .string b] w fun e w' => e = .returned (.bool true) ∧ Below w.heap.size w w' := by
  unfold maxLen at w2 w3
  have K0 : Hid (KW w.heap.size w [(w.heap.size, .cells (flr f) 27)] (w.alloc (.cells (flr f) 27))) := Lib.hid ((KW.start w).new _)
  have hat : Hid (∀ v, Below w.heap.size w v → StrAt v.heap.size v f.ha L) := Lib.hid (fun v hb => wf.at_.on hb)
  have wn := Lib.hid wf.n
  have cw := Lib.hid (fun v (hb : Below w.heap.size w v) => few_any f L v (hat.out v hb) wf.n wf.m)
  have hz := zero27
  have ha64 : (a.size : Int) ≤ 9223372036854775807 := by omega
  have hb64 : (b.size : Int) ≤ 9223372036854775807 := by omega
  clear wf
  cases hfew : fewB f L with
  | false =>
    rw [hfew] at cw
    clear hfew
    go_enter Try.func7, Try.ntmps7
    go_wp2_with fail
    refine (works_any _).mono ?_
    rintro e v1 ⟨rfl, b1⟩
    have K1 := Lib.hid (K0.out.past b1)
    have g1 : Hid (_ = some (Obj.cells (flr f) 27)) := Lib.hid (K1.out.at 0 rfl)
    clear b1
    go_wp2_with (with_reducible refine wpList_load_row rfl 27 (.tmp 3) rfl _ rfl 27 _ _ g1.out Try.underlying27 rfl (row27 _) ?_)
    refine (cw.out _ K1.out.bel).mono ?_
    rintro e v2 ⟨rfl, b2⟩
    have K2 := Lib.hid (K1.out.past b2)
    clear b2 K1 g1 K0
    go_wp2_with fail
    go_ret
    exact ⟨rfl, K2.out.bel⟩
  | true =>
    rw [hfew] at cw
    have hL := Lib.hid (fewB_true hfew)
    clear hfew
    by_cases has : 200 < a.size
    · have t1 : decide ((200 : Int) < (a.size : Int)) = true := by simp; omega
      clear has w2 w3
      go_enter Try.func7, Try.ntmps7
      go_wp2_with fail
      refine (works_any _).mono ?_
      rintro e v1 ⟨rfl, b1⟩
      have K1 := Lib.hid (K0.out.past b1)
      have g1 : Hid (_ = some (Obj.cells (flr f) 27)) := Lib.hid (K1.out.at 0 rfl)
      clear b1
      go_wp2_with (with_reducible refine wpList_load_row rfl 27 (.tmp 3) rfl _ rfl 27 _ _ g1.out Try.underlying27 rfl (row27 _) ?_)
      refine (cw.out _ K1.out.bel).mono ?_
      rintro e v2 ⟨rfl, b2⟩
      have K2 := Lib.hid (K1.out.past b2)
      clear b2 K1 g1 K0
      go_wp2_with fail
      go_ret
      exact ⟨rfl, K2.out.bel⟩
    have t1 : decide ((200 : Int) < (a.size : Int)) = false := by simp; omega
    by_cases hbs : 200 < b.size
    · have t2 : decide ((200 : Int) < (b.size : Int)) = true := by simp; omega
      clear has hbs w2 w3
      go_enter Try.func7, Try.ntmps7
      go_wp2_with fail
      refine (works_any _).mono ?_
      rintro e v1 ⟨rfl, b1⟩
      have K1 := Lib.hid (K0.out.past b1)
      have g1 : Hid (_ = some (Obj.cells (flr f) 27)) := Lib.hid (K1.out.at 0 rfl)
      clear b1
      go_wp2_with (with_reducible refine wpList_load_row rfl 27 (.tmp 3) rfl _ rfl 27 _ _ g1.out Try.underlying27 rfl (row27 _) ?_)
      refine (cw.out _ K1.out.bel).mono ?_
      rintro e v2 ⟨rfl, b2⟩
      have K2 := Lib.hid (K1.out.past b2)
      clear b2 K1 g1 K0
      go_wp2_with fail
      go_ret
      exact ⟨rfl, K2.out.bel⟩
    have t2 : decide ((200 : Int) < (b.size : Int)) = false := by simp; omega
    by_cases hab : a = b
    · have t3 : (a.toList == b.toList) = true := by rw [ba_beq]; simpa using hab
      clear has hbs w2 w3 hab
      go_enter Try.func7, Try.ntmps7
      go_wp2_with fail
      refine (works_any _).mono ?_
      rintro e v1 ⟨rfl, b1⟩
      have K1 := Lib.hid (K0.out.past b1)
      have g1 : Hid (_ = some (Obj.cells (flr f) 27)) := Lib.hid (K1.out.at 0 rfl)
      clear b1
      go_wp2_with (with_reducible refine wpList_load_row rfl 27 (.tmp 3) rfl _ rfl 27 _ _ g1.out Try.underlying27 rfl (row27 _) ?_)
      refine (cw.out _ K1.out.bel).mono ?_
      rintro e v2 ⟨rfl, b2⟩
      have K2 := Lib.hid (K1.out.past b2)
      clear b2 K1 g1 K0
      go_wp2_with fail
      go_ret
      exact ⟨rfl, K2.out.bel⟩
    have t3 : (a.toList == b.toList) = false := by rw [ba_beq]; simpa using hab
    have ha40 : a.size ≤ 1099511627776 := by omega
    have hb40 : b.size ≤ 1099511627776 := by omega
    have hL2 : L.length ≤ 1000 := by have := hL.out.1; omega
    have hL3 : ∀ y ∈ L, y.size ≤ 1099511627776 := fun y hy => by have := hL.out.2.1 y hy; omega
    have hll : (L.length : Int) ≤ 1000 := by omega
    have HH := Lib.hid (And.intro hab (And.intro ha40 (And.intro hb40 (And.intro hL2 hL3))))
    clear has hbs w2 w3 hab ha40 hb40 hL2 hL3
    go_enter Try.func7, Try.ntmps7
    go_wp2_with fail
    refine (works_any _).mono ?_
    rintro e v1 ⟨rfl, b1⟩
    have K1 := Lib.hid (K0.out.past b1)
    have g1 : Hid (_ = some (Obj.cells (flr f) 27)) := Lib.hid (K1.out.at 0 rfl)
    clear b1
    go_wp2_with (with_reducible refine wpList_load_row rfl 27 (.tmp 3) rfl _ rfl 27 _ _ g1.out Try.underlying27 rfl (row27 _) ?_)
    refine (cw.out _ K1.out.bel).mono ?_
    rintro e v2 ⟨rfl, b2⟩
    have K2 := Lib.hid (K1.out.past b2)
    clear b2 K1 g1 K0
    have c5 : v2.cell? ⟨w.heap.size, 5, none⟩ = some (.slice f.ha L.length f.hc) := by have := K2.out.cell 0 rfl 5 (y := .slice f.ha f.hn f.hc) rfl; rw [wn.out] at this; exact this
    go_wp2_with fail
    go_loopw [9] (fun i wr => ∃ k : Nat, 1 ≤ k ∧ k ≤ L.length + 1 ∧ i = .int .i64 (k : Int) ∧ Hid (KW w.heap.size w [(w.heap.size, .cells (flr f) 27)] wr)) (fun i _ => L.length + 1 - (intOf i).toNat)
    case atStart => exact ⟨1, Nat.le_refl _, by omega, rfl, K2⟩
    case round =>
      obtain ⟨k, hk1, hk, rfl, KR⟩ := hrel
      rename_i wr
      clear K2 c5
      have c5 : wr.cell? ⟨w.heap.size, 5, none⟩ = some (.slice f.ha L.length f.hc) := by have := KR.out.cell 0 rfl 5 (y := .slice f.ha f.hn f.hc) rfl; rw [wn.out] at this; exact this
      by_cases hlt : k < L.length
      · have hlt' : (k : Int) < (L.length : Int) := by omega
        have hlt2 : decide (k < L.length) = true := by simpa using hlt
        obtain ⟨j, rfl⟩ : ∃ j, k = j + 1 := ⟨k - 1, by omega⟩
        have cl := Lib.hid (fun v => nm.rless_any (L[j]'(by omega)) L[j + 1] (HH.out.2.2.2.2 _ (List.getElem_mem _)) (HH.out.2.2.2.2 _ (List.getElem_mem _)) v)
        have hst : Hid (∀ v, Below w.heap.size w v → ∃ bb oo, f.ha = some ⟨bb, oo, none⟩ ∧ v.cell? ⟨bb, oo + j, none⟩ = some (.string (L[j]'(by omega))) ∧ v.cell? ⟨bb, oo + (j + 1), none⟩ = some (.string L[j + 1])) := Lib.hid (fun v hb => by
          rcases hat.out v hb with h0 | ⟨bb, oo, h1, _, hc⟩
          · rw [h0] at hlt; simp at hlt
          · exact ⟨bb, oo, h1, hc j (by omega), hc (j + 1) hlt⟩)
        generalize (L[j]'(by omega)) = s1 at *
        generalize L[j + 1] = s2 at *
        obtain ⟨bb, oo, hfa, _, _⟩ := hst.out wr KR.out.bel
        have hst2 : Hid (∀ v, KW w.heap.size w [(w.heap.size, .cells (flr f) 27)] v → v.cell? ⟨bb, oo + j, none⟩ = some (.string s1) ∧ v.cell? ⟨bb, oo + (j + 1), none⟩ = some (.string s2)) := Lib.hid (fun v hv => by
          obtain ⟨b', o', h1, h2, h3⟩ := hst.out v hv.bel
          rw [hfa] at h1
          injection h1 with h1
          injection h1 with h1 h4 _
          subst h1 h4
          exact ⟨h2, h3⟩)
        have c5' : Hid (∀ v, KW w.heap.size w [(w.heap.size, .cells (flr f) 27)] v → v.cell? ⟨w.heap.size, 5, none⟩ = some (.slice (some ⟨bb, oo, none⟩) L.length f.hc)) := Lib.hid (fun v hv => by have := hv.cell 0 rfl 5 (y := .slice f.ha f.hn f.hc) rfl; rw [wn.out, hfa] at this; exact this)
        have hj1 : ((j + 1 : Nat) : Int) - 1 = (j : Int) := by omega
        have hJ1 := Lib.hid hj1
        have ix1 : Hid (j < L.length) := Lib.hid (by omega)
        have ix2 := Lib.hid hlt
        clear hj1 hst
        generalize nm.lxl (nm.pl (nm.li s1)) (nm.pl (nm.li s2)) = r at *
        rw [hfa] at c5
        go_wp2_with fail
        refine wp_region_class (l := _) (fun v => KW w.heap.size w [(w.heap.size, .cells (flr f) 27)] v) (by kernel_rfl) (by kernel_rfl) KR.out.drew ?_
        refine wpQuiet_field (by rfl) 5 _ rfl w.heap.size rfl (by decide) ?_
        simp only [Act.put, List.setIfInBounds_toArray, List.set_cons_zero, List.set_cons_succ]
        refine wpQuiet_cell (by rfl) 25 _ rfl w.heap.size 5 rfl Try.isAgg25 (.slice (some ⟨bb, oo, none⟩) L.length f.hc) (fun v hv => c5'.out v hv) ?_
        simp only [Act.put, List.setIfInBounds_toArray, List.set_cons_zero, List.set_cons_succ]
        refine wpQuiet_move (by rfl) _ (.inl rfl) (.int .i64 ((j + 1 : Nat) : Int)) rfl ?_
        simp only [Act.put, List.setIfInBounds_toArray, List.set_cons_zero, List.set_cons_succ]
        refine wpQuiet_isub (by rfl) _ _ _ _ rfl ((j + 1 : Nat) : Int) 1 rfl rfl (by have := ix2.out; omega) ?_
        rw [hJ1.out]
        simp only [Act.put, List.setIfInBounds_toArray, List.set_cons_zero, List.set_cons_succ]
        refine wpQuiet_index (by rfl) 25 _ _ rfl _ _ rfl rfl (.pointer (some ⟨bb, oo + j, none⟩)) (index25 bb oo L.length f.hc j ix1.out) ?_
        simp only [Act.put, List.setIfInBounds_toArray, List.set_cons_zero, List.set_cons_succ]
        refine wpQuiet_cell (by rfl) 9 _ rfl bb (oo + j) rfl Try.isAgg9 (.string s1) (fun v hv => (hst2.out v hv).1) ?_
        simp only [Act.put, List.setIfInBounds_toArray, List.set_cons_zero, List.set_cons_succ]
        refine wpQuiet_field (by rfl) 5 _ rfl w.heap.size rfl (by decide) ?_
        simp only [Act.put, List.setIfInBounds_toArray, List.set_cons_zero, List.set_cons_succ]
        refine wpQuiet_cell (by rfl) 25 _ rfl w.heap.size 5 rfl Try.isAgg25 (.slice (some ⟨bb, oo, none⟩) L.length f.hc) (fun v hv => c5'.out v hv) ?_
        simp only [Act.put, List.setIfInBounds_toArray, List.set_cons_zero, List.set_cons_succ]
        refine wpQuiet_move (by rfl) _ (.inl rfl) (.int .i64 ((j + 1 : Nat) : Int)) rfl ?_
        simp only [Act.put, List.setIfInBounds_toArray, List.set_cons_zero, List.set_cons_succ]
        refine wpQuiet_index (by rfl) 25 _ _ rfl _ _ rfl rfl (.pointer (some ⟨bb, oo + (j + 1), none⟩)) (index25 bb oo L.length f.hc (j + 1) ix2.out) ?_
        simp only [Act.put, List.setIfInBounds_toArray, List.set_cons_zero, List.set_cons_succ]
        refine wpQuiet_cell (by rfl) 9 _ rfl bb (oo + (j + 1)) rfl Try.isAgg9 (.string s2) (fun v hv => (hst2.out v hv).2) ?_
        simp only [Act.put, List.setIfInBounds_toArray, List.set_cons_zero, List.set_cons_succ]
        refine wpQuiet_call2 (by rfl) 24 (.tmp 52) (.tmp 57) _ rfl ent24 (.string s1) (.string s2) rfl rfl (.bool r) (fun v hv => (cl.out v).mono fun _ _ k => ⟨k.1, hv.past k.2⟩) ?_
        simp only [Act.put, List.setIfInBounds_toArray, List.set_cons_zero, List.set_cons_succ]
        refine wpQuiet_move (by rfl) _ (.inr rfl) (.bool r) rfl ?_
        simp only [Act.put, List.setIfInBounds_toArray, List.set_cons_zero, List.set_cons_succ]
        refine wpQuiet_nil ?_
        intro W9 hK9
        have K9 := Lib.hid hK9
        clear hK9 KR
        cases r with
        | false =>
          go_wp2_with fail
          go_ret
          exact ⟨rfl, K9.out.bel⟩
        | true =>
          go_wp2_with fail
          go_roundw
          case rel => exact ⟨j + 1 + 1, by omega, by omega, by go_num, K9⟩
          case measure => simp [intOf]; omega
      · have hlt' : ¬ (k : Int) < (L.length : Int) := by omega
        have hlt2 : decide (k < L.length) = false := by simp; omega
        clear hlt
        have g3 : Hid (_ = some (Obj.cells (flr f) 27)) := Lib.hid (KR.out.at 0 rfl)
        go_wp2_with (with_reducible refine wpList_load_row rfl 27 (.tmp 3) rfl _ rfl 27 _ _ g3.out Try.underlying27 rfl (row27 _) ?_)
        refine (hold_fr f a L _ (hat.out _ KR.out.bel) wn.out HH.out.2.2.2.1 HH.out.2.2.2.2 HH.out.2.1).mono ?_
        rintro e v3 ⟨X, rfl, hX, sX, hb⟩
        have hX' := Lib.hid hX
        have sX0 := Lib.hid sX.str
        clear hX sX
        have K1_ := Lib.hid (KR.out.past hb)
        clear hb KR
        have l3 : Hid (w.heap.size ≤ v3.heap.size) := Lib.hid K1_.out.size
        have AL : Hid ((hldL f.se a L).length ≤ 1000 ∧ ∀ y ∈ hldL f.se a L, y.size ≤ 1099511627776) := Lib.hid ⟨by have := hldL_len f.se a L; have := hL.out.1; omega, hldL_size f.se a L _ HH.out.2.1 HH.out.2.2.2.2⟩
        have BL : Hid ((hldL f.se b L).length ≤ 1000 ∧ ∀ y ∈ hldL f.se b L, y.size ≤ 1099511627776) := Lib.hid ⟨by have := hldL_len f.se b L; have := hL.out.1; omega, hldL_size f.se b L _ HH.out.2.2.1 HH.out.2.2.2.2⟩
        have q3 : Hid ((v3.alloc (.cells (flr fl0) 27)).heap[v3.heap.size]? = some (.cells (flr fl0) 27)) := Lib.hid (by rw [heap_alloc_if, if_pos rfl])
        have K2_ := Lib.hid (K1_.out.lay fl0 X)
        have sX2_ := Lib.hid (sX0.out.on (lay_below v3 fl0 X))
        clear K1_ sX0
        have g4 : Hid (_ = some (Obj.cells (flr X) 27)) := Lib.hid (K2_.out.at 0 rfl)
        go_wp2_with (first
          | (with_reducible refine wpList_store_row rfl 27 (.tmp 11) (.tmp 66) rfl _ (flr X) rfl rfl 27 _ q3.out (row27 _) (flr_same _ _) (flr_one _) ?_)
          | (with_reducible refine wpList_load_row rfl 27 (.tmp 11) rfl _ rfl 27 _ _ g4.out Try.underlying27 rfl (row27 _) ?_))
        generalize v3.heap.size = b3 at *
        refine (hold_fr X b (hldL f.se a L) _ sX2_.out hX'.out.2.2.2.2.2 AL.out.1 AL.out.2 HH.out.2.2.1).mono ?_
        rintro e v4 ⟨Y, rfl, hY, sY, hb⟩
        have hY' := Lib.hid hY
        have sY0 := Lib.hid sY
        clear hY sY
        have lt4 : Hid (b3 < _) := Lib.hid (K2_.out.lt 0 rfl)
        have K3_ := Lib.hid (K2_.out.past hb)
        have sX3_ := Lib.hid (sX2_.out.on hb)
        clear hb K2_ sX2_
        have qy : Hid (v4.heap[b3]? = some (.cells (flr X) 27)) := Lib.hid (K3_.out.at 0 rfl)
        have KY := Lib.hid (K3_.out.row 0 rfl l3.out (flr Y))
        have sY1 := Lib.hid ((sY0.out.row lt4.out (flr Y)).str)
        clear K3_ sY0 lt4 sX3_
        have g5 : Hid (_ = some (Obj.cells (flr f) 27)) := Lib.hid (KY.out.at 1 rfl)
        go_wp2_with (first
          | (with_reducible refine wpList_store_row rfl 27 (.tmp 11) (.tmp 72) rfl _ (flr Y) rfl rfl 27 _ qy.out (row27 _) (flr_same _ _) (flr_one _) ?_)
          | (with_reducible refine wpList_load_row rfl 27 (.tmp 3) rfl _ rfl 27 _ _ g5.out Try.underlying27 rfl (row27 _) ?_))
        clear qy
        generalize v4.setRow b3 (flr Y) = V4 at *
        refine (hold_fr f b L _ (hat.out _ KY.out.bel) wn.out HH.out.2.2.2.1 HH.out.2.2.2.2 HH.out.2.2.1).mono ?_
        rintro e v5 ⟨U, rfl, hU, sU, hb⟩
        have hU' := Lib.hid hU
        have sU0 := Lib.hid sU.str
        clear hU sU
        have n5 := Lib.hid hb.size
        have sY2 := Lib.hid (sY1.out.past hb)
        clear sY1
        have K4_ := Lib.hid (KY.out.past hb)
        clear hb KY
        have l5 : Hid (w.heap.size ≤ v5.heap.size) := Lib.hid K4_.out.size
        have sY3 := Lib.hid (sY2.out.past ((lay_below v5 fl0 U).mono n5.out))
        clear sY2
        have q5 : Hid ((v5.alloc (.cells (flr fl0) 27)).heap[v5.heap.size]? = some (.cells (flr fl0) 27)) := Lib.hid (by rw [heap_alloc_if, if_pos rfl])
        have K5_ := Lib.hid (K4_.out.lay fl0 U)
        have sU5_ := Lib.hid (sU0.out.on (lay_below v5 fl0 U))
        clear K4_ sU0
        have n6 : Hid (V4.heap.size ≤ ((v5.alloc (.cells (flr fl0) 27)).setRow v5.heap.size (flr U)).heap.size) := Lib.hid (by have := n5.out; rw [size_setRow]; simp; omega)
        have g6 : Hid (_ = some (Obj.cells (flr U) 27)) := Lib.hid (K5_.out.at 0 rfl)
        go_wp2_with (first
          | (with_reducible refine wpList_store_row rfl 27 (.tmp 14) (.tmp 78) rfl _ (flr U) rfl rfl 27 _ q5.out (row27 _) (flr_same _ _) (flr_one _) ?_)
          | (with_reducible refine wpList_load_row rfl 27 (.tmp 14) rfl _ rfl 27 _ _ g6.out Try.underlying27 rfl (row27 _) ?_))
        generalize v5.heap.size = b5 at *
        refine (hold_fr U a (hldL f.se b L) _ sU5_.out hU'.out.2.2.2.2.2 BL.out.1 BL.out.2 HH.out.2.1).mono ?_
        rintro e v6 ⟨Z, rfl, hZ, sZ, hb⟩
        have hZ' := Lib.hid hZ
        have sZ0 := Lib.hid sZ
        clear hZ sZ
        have sY4 := Lib.hid (sY3.out.past (hb.mono n6.out))
        clear sY3 n6
        have lt6 : Hid (b5 < _) := Lib.hid (K5_.out.lt 0 rfl)
        have K6_ := Lib.hid (K5_.out.past hb)
        have sU6_ := Lib.hid (sU5_.out.on hb)
        clear hb K5_ sU5_
        have qz : Hid (v6.heap[b5]? = some (.cells (flr U) 27)) := Lib.hid (K6_.out.at 0 rfl)
        have KZ := Lib.hid (K6_.out.row 0 rfl l5.out (flr Z))
        have sZ1 := Lib.hid ((sZ0.out.row lt6.out (flr Z)).str)
        have hs6 : Hid (V4.heap.size ≤ (v6.setRow b5 (flr Z)).heap.size) := Lib.hid (by rw [size_setRow]; have := n5.out; have := K6_.out.lt 0 rfl; omega)
        have sY9 := Lib.hid ((StrAt.row sY4.out n5.out (flr Z)).mono hs6.out)
        clear K6_ sZ0 sY4 lt6 hs6 sU6_
        have eX : Hid (X.se = f.se) := Lib.hid hX'.out.2.2.2.1
        have eU : Hid (U.se = f.se) := Lib.hid hU'.out.2.2.2.1
        by_cases hbo : both f.se a b L
        · have hb2 := (both_comm f.se a b L HH.out.1).1 hbo
          have z1 : hldC f.se a L = 0 := hbo.1
          have z2 : hldC X.se b (hldL f.se a L) = 0 := by rw [eX.out]; exact hbo.2
          have z3 : hldC f.se b L = 0 := hb2.1
          have z4 : hldC U.se a (hldL f.se b L) = 0 := by rw [eU.out]; exact hb2.2
          have hsm : Hid (hldL U.se a (hldL f.se b L) = hldL X.se b (hldL f.se a L)) := Lib.hid (by rw [eX.out, eU.out]; exact (both_same f.se a b L HH.out.1 hbo).symm)
          rw [z1, z2, z3, z4]
          clear hbo hb2 z1 z2 z3 z4
          have g7 : Hid (_ = some (Obj.cells (flr Y) 27)) := Lib.hid (KZ.out.at 1 rfl)
          have g8 : Hid (_ = some (Obj.cells (flr Z) 27)) := Lib.hid (KZ.out.at 0 rfl)
          go_wp2_with (first
            | (with_reducible refine wpList_store_row rfl 27 (.tmp 14) (.tmp 84) rfl _ (flr Z) rfl rfl 27 _ qz.out (row27 _) (flr_same _ _) (flr_one _) ?_)
            | (with_reducible refine wpList_load_row_g (by with_unfolding_all rfl) 27 (.tmp 11) rfl _ rfl 27 _ _ g7.out Try.underlying27 rfl (row27 _) ?_)
            | (with_reducible refine wpList_load_row_g (by with_unfolding_all rfl) 27 (.tmp 14) rfl _ rfl 27 _ _ g8.out Try.underlying27 rfl (row27 _) ?_))
          refine (same_true Y Z (hldL X.se b (hldL f.se a L)) _ sY9.out (hsm.out ▸ sZ1.out) (by rw [eX.out]; have := hldL_len f.se b (hldL f.se a L); have := hldL_len f.se a L; have := hL.out.1; omega) ((hY'.out.1.trans hX'.out.1).trans (hZ'.out.1.trans hU'.out.1).symm) ((hY'.out.2.1.trans hX'.out.2.1).trans (hZ'.out.2.1.trans hU'.out.2.1).symm) ((hY'.out.2.2.1.trans hX'.out.2.2.1).trans (hZ'.out.2.2.1.trans hU'.out.2.2.1).symm) ((hY'.out.2.2.2.1.trans hX'.out.2.2.2.1).trans (hZ'.out.2.2.2.1.trans hU'.out.2.2.2.1).symm) ((hY'.out.2.2.2.2.1.trans hX'.out.2.2.2.2.1).trans (hZ'.out.2.2.2.2.1.trans hU'.out.2.2.2.2.1).symm) hY'.out.2.2.2.2.2 (by rw [← hsm.out]; exact hZ'.out.2.2.2.2.2)).mono ?_
          rintro e v7 ⟨rfl, hb⟩
          have K7_ := Lib.hid (KZ.out.past hb)
          have sY7_ := Lib.hid (sY9.out.on hb)
          have sZ7_ := Lib.hid (sZ1.out.on hb)
          clear hb KZ sY9 sZ1
          go_wp2_with fail
          go_ret
          exact ⟨rfl, K7_.out.bel⟩
        · have hb2 : ¬ both f.se b a L := fun q => hbo ((both_comm f.se a b L HH.out.1).2 q)
          have y1 : Hid (¬ (hldC f.se a L = 0 ∧ hldC X.se b (hldL f.se a L) = 0)) := Lib.hid (by rw [eX.out]; exact hbo)
          have y2 : Hid (¬ (hldC f.se b L = 0 ∧ hldC U.se a (hldL f.se b L) = 0)) := Lib.hid (by rw [eU.out]; exact hb2)
          clear hbo hb2
          generalize hldC f.se a L = c1 at *
          generalize hldC X.se b (hldL f.se a L) = c2 at *
          generalize hldC f.se b L = c3 at *
          generalize hldC U.se a (hldL f.se b L) = c4 at *
          by_cases e1 : c1 = 0
          · subst e1
            have f2 : c2 ≠ 0 := fun q => y1.out ⟨rfl, q⟩
            have t6 : (c2 == 0) = false := by simpa using f2
            have t6' : (c2 != 0) = true := by simpa using f2
            clear f2
            by_cases e3 : c3 = 0
            · subst e3
              have f4 : c4 ≠ 0 := fun q => y2.out ⟨rfl, q⟩
              have t8 : (c4 == 0) = false := by simpa using f4
              have t8' : (c4 != 0) = true := by simpa using f4
              clear f4
              go_wp2_with (with_reducible refine wpList_store_row rfl 27 (.tmp 14) (.tmp 84) rfl _ (flr Z) rfl rfl 27 _ qz.out (row27 _) (flr_same _ _) (flr_one _) ?_)
              go_ret
              exact ⟨rfl, KZ.out.bel⟩
            · have t7 : (c3 == 0) = false := by simpa using e3
              have t7' : (c3 != 0) = true := by simpa using e3
              clear e3
              go_wp2_with (with_reducible refine wpList_store_row rfl 27 (.tmp 14) (.tmp 84) rfl _ (flr Z) rfl rfl 27 _ qz.out (row27 _) (flr_same _ _) (flr_one _) ?_)
              go_ret
              exact ⟨rfl, KZ.out.bel⟩
          · have t5 : (c1 == 0) = false := by simpa using e1
            have t5' : (c1 != 0) = true := by simpa using e1
            clear e1
            by_cases e3 : c3 = 0
            · subst e3
              have f4 : c4 ≠ 0 := fun q => y2.out ⟨rfl, q⟩
              have t8 : (c4 == 0) = false := by simpa using f4
              have t8' : (c4 != 0) = true := by simpa using f4
              clear f4
              go_wp2_with (with_reducible refine wpList_store_row rfl 27 (.tmp 14) (.tmp 84) rfl _ (flr Z) rfl rfl 27 _ qz.out (row27 _) (flr_same _ _) (flr_one _) ?_)
              go_ret
              exact ⟨rfl, KZ.out.bel⟩
            · have t7 : (c3 == 0) = false := by simpa using e3
              have t7' : (c3 != 0) = true := by simpa using e3
              clear e3
              go_wp2_with (with_reducible refine wpList_store_row rfl 27 (.tmp 14) (.tmp 84) rfl _ (flr Z) rfl rfl 27 _ qz.out (row27 _) (flr_same _ _) (flr_one _) ?_)
              go_ret
              exact ⟨rfl, KZ.out.bel⟩

set_option maxRecDepth 100000 in
theorem lifted (os : Os) (started : os.Started) (H : Type) (enc : TypeId × Value → H) :
    ReturnsInHanded {} Try.checked os 7 .any (Rows.ruleLabelsSpec.pre6 enc Try.prog Try.f7 Rows.ruleLabelsRow.domain false) (Rows.ruleLabelsSpec.post enc Try.prog Try.f7 false true false false) := by
  refine returnsInHanded_of_change (C := Try.checked) own started (by kernel_rfl) Try.func7
    (ChangeSpec.witness6 (enc := enc) (C := Try.checked) false ⟨#[], #[.agg #[.int .i64 0, .string ByteArray.empty, .string ByteArray.empty, .bool false, .int .i64 0, .slice none 0 0], .string ByteArray.empty, .string ByteArray.empty], []⟩ 8 (by kernel_rfl) (by kernel_rfl) (by kernel_rfl) (by kernel_rfl)) ?_
  intro W base args ds gs before hval0 hW hcnd _
  have hval : ∀ (j : Nat) t v, Try.f7.params[j]? = some t → args[j]? = some v → Value.okWide Try.prog W .any base t v := hval0
  have hW' := hW
  obtain ⟨p, q, hA0, hV, rfl, hfz, hnd⟩ := hW
  have hA : DataW.TrodAll enc Try.prog W 0 (fun _ => true) true Try.f7.params.toList args.toList ds p := hA0
  rw [Try.params7] at hA hval
  obtain ⟨v0, vs0, d0, ds0, p0, q0, hargs, rfl, rfl, h0, r0⟩ := trodAll_cons hA
  obtain ⟨v1, vs1, d1, ds1, p1, q1, rfl, rfl, rfl, h1, r1⟩ := trodAll_cons r0
  obtain ⟨v2, vs2, d2, ds2, p2, q2, rfl, rfl, rfl, h2, r2⟩ := trodAll_cons r1
  obtain ⟨rfl, rfl, rfl⟩ := trodAll_nil r2
  obtain rfl : args = #[v0, v1, v2] := by cases args; simp_all
  obtain ⟨rfl, rfl⟩ := trodVars_none hV
  have k0 := h0
  have lt0 : ∀ x ∈ p0, x.block < W.heap.size := by obtain ⟨m, hm⟩ := k0; exact DataW.trod_lt m _ _ _ hm
  obtain ⟨f0, L0, rfl, wf0⟩ := open_file (hval 0 27 v0 rfl rfl) h0
  obtain ⟨a1, rfl, rfl, rfl, w1⟩ := open_string Try.underlying9 (hval 1 9 v1 rfl rfl) h1
  obtain ⟨a2, rfl, rfl, rfl, w2⟩ := open_string Try.underlying9 (hval 2 9 v2 rfl rfl) h2
  clear hA0 hval0
  refine (walk f0 L0 a1 a2 W wf0 w1 w2).mono fun e W' ⟨he, bel⟩ => ?_
  subst he
  exact ⟨_, rfl, _, _, _, [], _, [], hW', trodAll_mk1 (shut_bool Try.underlying4 _), (trodAll_cons_mk (Below.trod laidOut (by kernel_rfl) (of_decide_eq_true (by kernel_rfl)) k0 bel lt0) (trodAll_cons_mk (shut_string Try.underlying9 w1) (trodAll_cons_mk (shut_string Try.underlying9 w2) trodAll_mk0))), rfl, bel.frame _, fun h => by cases h⟩

theorem over : Rows.ruleLabelsRow.holds Try.pinned (OpenSpec.ofChange Rows.ruleLabelsSpec) :=
  OpenClaim.holds_of_wide 7 Try.f7 rfl rfl rfl rfl rfl rfl rfl ⟨rfl, rfl, rfl, rfl, rfl⟩ rfl rfl rfl rfl rfl (by kernel_rfl) Try.func7 (by kernel_rfl)
    (of_decide_eq_true (by kernel_rfl)) (by unfold Func.isWrapper; first | (rw [if_pos (by decide +kernel)]; kernel_rfl) | (rw [if_neg (by decide +kernel)]; exact ⟨rfl, rfl⟩))
    (fun os started H enc _ => lifted os started H enc)

/-- The given statement. -/
theorem ruleLabels_proved : Rows.RuleLabelsSaid :=
  over
#print axioms ruleLabels_proved
end Go.Proofs.Ytjfgmkgcdkocgaa.ruleLabels
