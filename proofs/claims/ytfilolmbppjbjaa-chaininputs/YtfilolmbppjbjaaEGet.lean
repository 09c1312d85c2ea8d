/-
  What 'Get' returns of a text that begins with an event.
-/
import Derived.Test.YtfilolmbppjbjaaERead
import Derived.Test.YtfilolmbppjbjaaJoinedG
import Derived.Test.YtfilolmbppjbjaaGchain
namespace Go.Proofs.Ytfilolmbppjbjaa
open Go Go.RowKit

def kindE (k : Int) : Ev := ⟨k, 0, [], 0, 0, zs⟩
theorem wpList_load_row_gg {P : Program} {ops : Array Oper} {rest : List Oper} {op : Oper} {a : Act} {w : World} {Q : Exit → Act → World → Prop} (hw : Region.wanted op (yielded ops a.tmps) = true) (ty : TypeId) (x : Operand) (ho : op.op = .load ty x) (b : Nat) (hx : a.eval x = .pointer (some ⟨b, 0, none⟩)) (t : TypeId) (c : Array Value) (d : TypeDesc) (hg : w.heap[b]? = some (.cells c t))
    (hu : P.underlying ty = some d) (hd : (match d with | .struct _ | .array _ _ => true | _ => false) = true) (hi : (P.info? ty).map (·.size) = some c.size) (h : wpList P ops Q rest (a.put op.dst (.agg c)) w) : wpList P ops Q (op :: rest) a w := by
  unfold wpList
  rw [if_pos hw]
  unfold Oper.wp
  rw [show (execOp a.eval op).run P w = .ok (.value (.agg c)) w by
    unfold execOp
    simp only [ho, hx, Instr.loadAt, Instr.sureAddr, Sem.run_bind, Sem.run_pure, Result.andThen_ok, run_loadVar_row w b t ty c (0, 0) d hg hu hd hi]]
  exact .inl h
theorem like_parts (e : Ev) : (partsOf (kindE e.kind)).length = (partsOf e).length ∧ ∀ k (h1 : k < (partsOf (kindE e.kind)).length) (h2 : k < (partsOf e).length), like (partsOf (kindE e.kind))[k] (partsOf e)[k] := by
  have hk : (kindE e.kind).kind = e.kind := rfl
  have ha : like (aboutP (kindE e.kind)) (aboutP e) := by
    unfold aboutP
    rw [hk]
    by_cases h : e.kind = 7
    · rw [if_pos h, if_pos h]; trivial
    · rw [if_neg h, if_neg h]; trivial
  unfold partsOf
  rw [hk]
  repeat' split
  all_goals
    refine ⟨rfl, fun k h1 h2 => ?_⟩
    match k with
    | 0 => trivial
    | 1 => exact ha
    | 2 => first | trivial | (simp at h1)
    | 3 => first | trivial | (simp at h1)
    | 4 => first | trivial | (simp at h1)
    | k + 5 => (simp at h1; omega)
theorem good_of {p : Pt} (hv : validP p = true) (hf : p.fine) (hl : ∀ l, p = .label l → l.length ≤ 100) : p.good := by
  cases p with
  | label l => exact hl l rfl
  | sum d => exact hf
  | kind n => have h : wi n 0 7 = true := hv; simp [wi] at h; exact ⟨by omega, by omega⟩
  | id n => have h : wi n 1 1099511627776 = true := hv; simp [wi] at h; exact ⟨by omega, by omega⟩
  | moment n => have h : wi n 0 1099511627776 = true := hv; simp [wi] at h; exact ⟨by omega, by omega⟩
  | added n => have h : wi n 1 600 = true := hv; simp [wi] at h; exact ⟨by omega, by omega⟩
  | length n => have h : wi n 0 600 = true := hv; simp [wi] at h; exact ⟨by omega, by omega⟩
theorem okP_all {e : Ev} (h : okP e = true) : (∀ p ∈ partsOf e, validP p = true) ∧ jn (partsOf e) = e := by
  unfold okP at h
  rw [Bool.and_eq_true] at h
  exact ⟨fun p hp => List.all_eq_true.1 h.1 p hp, (evB_iff _ _).1 h.2⟩
theorem parts_head (e : Ev) : ∃ l, partsOf e = .kind e.kind :: l := by
  unfold partsOf
  repeat' split
  all_goals exact ⟨_, rfl⟩
theorem is_one (P : Program) (T it : TypeId) (d : TypeDesc) (hu : P.underlying T = some d) (hd : (match d with | .interface _ => true | _ => false) = false) (v : Value) (w : World) : (Instr.typeAssert (.iface T v) it T false).run P w = .ok v w := by
  unfold Instr.typeAssert
  simp [run_underlying hu, go_sem]
  cases d <;> simp_all
theorem encs_pts (l : List Pt) : (pts l).toList = encs l := by simp [pts, encs]

set_option maxRecDepth 100000 in
set_option maxHeartbeats 2000000 in
theorem get_any (e : Ev) (he : e.fit) (hok : okP e = true) (r : List UInt8) (hr : (putE e ++ r).length ≤ 100000) (w : World) :
    Calls Try.prog 17 #[.string (mk (putE e ++ r))] w fun x w' => x = .returned (.tuple #[.agg (evr e), .string (mk r), .bool true]) ∧ Below w.heap.size w w' := by
  obtain ⟨hall, hjn⟩ := okP_all hok
  have hes : e.sum.length = 32 := he.w.s
  have hfine := partsOf_fine e hes
  have hlab := partsOf_label e he.n
  have hgood : ∀ p ∈ partsOf e, p.good := fun p hp => good_of (hall p hp) (hfine p hp) (hlab p hp)
  obtain ⟨hql, hlk⟩ := like_parts e
  have hpl := partsOf_len e
  obtain ⟨lt, hlt⟩ := parts_head e
  have hk0 : validP (.kind e.kind) = true := hall _ (by rw [hlt]; simp)
  obtain ⟨hk1, hk2⟩ := clI_good (good_of (p := .kind e.kind) hk0 trivial (fun l h => by cases h))
  have ck : Hid (∀ v, Calls Try.prog 28 #[.int .i64 0, .string (mk (putE e ++ r))] v fun x v' => ∃ r', x = .returned (.tuple #[.iface 67 (.int .i64 e.kind), .string r', .bool true]) ∧ Below v.heap.size v v') := Lib.hid (fun v => by
    have e1 : putE e ++ r = num (clI e.kind) ++ (putL lt ++ r) := by
      show putL (partsOf e) ++ r = _
      rw [hlt, putL_cons, List.append_assoc]; rfl
    have := kind_get 0 (clI e.kind) hk2 (putL lt ++ r) (by rw [← e1]; omega) v
    rw [← e1, hk1] at this
    exact this.mono fun x v' h => ⟨_, h⟩)
  have cp : Hid (∀ v, Calls Try.prog 30 #[.agg (evr (kindE e.kind))] v _) := Lib.hid (fun v => parts_any (kindE e.kind) rfl v)
  have cr := Lib.hid (fun v g hg => read_any (partsOf (kindE e.kind)) (partsOf e) hql hlk hgood r (show (putL (partsOf e) ++ r).length ≤ 100000 from hr) hpl v g hg)
  have cj := Lib.hid (fun v g cap cur hg hcur => joined_row (partsOf e) hfine (by omega) v g cap cur hg hcur)
  rw [hjn] at cj
  have cv := Lib.hid (fun v => evalid_any e hes (by have := he.n; omega) v)
  rw [hok] at cv
  have hes' := Lib.hid hes
  have hz41 := z41
  have hta := fun v => is_one Try.prog 67 65 _ Try.underlying67 rfl (.int .i64 e.kind) v
  have hset : Hid ((evr zeroE).setIfInBounds 0 (.int .i64 e.kind) = evr (kindE e.kind)) := Lib.hid (evr_kind zeroE e.kind)
  have hpe : Hid (mk (putE e ++ r) = mk (putL (partsOf e) ++ r)) := Lib.hid rfl
  rw [hpe.out] at ck ⊢
  have hK0 : Hid (KW w.heap.size w [(w.heap.size, .cells (evr zeroE) 41)] (w.alloc (.cells (evr zeroE) 41))) := Lib.hid ((KW.start w).new _)
  have hne : Hid ((partsOf e).length ≠ 0) := Lib.hid (by rw [hlt]; simp)
  clear hall hjn hfine hlab hgood hql hlk hlt hk0 hk1 hk2 hes hok he hr hpe hpl
  generalize mk (putL (partsOf e) ++ r) = s at *
  go_enter Try.func17, Try.ntmps17
  go_wp2_with fail
  refine (ck.out _).mono ?_
  rintro x v1 ⟨r', rfl, hb1⟩
  have K1 := Lib.hid (hK0.out.past hb1)
  clear hb1 hK0
  go_wp2_with fail
  rw [hset.out]
  refine (cp.out _).mono ?_
  rintro x v2 ⟨g, rfl, hg0, hg, hb2⟩
  have K2 := Lib.hid (K1.out.past hb2)
  have cr2 := Lib.hid (cr.out v2 g hg)
  clear hb2 K1 hg0 hg cr cp
  go_wp2_with fail
  refine cr2.out.mono ?_
  rintro x v3 ⟨u, rfl, ho, hb3⟩
  have K3 := Lib.hid (K2.out.past hb3)
  rcases ho.2 with ⟨_, h0⟩ | ⟨g3, cap, cur, rfl, _, h3, h4, _, h6, h7⟩
  · exact absurd h0 hne.out
  have cj3 := Lib.hid (cj.out v3 g3 cap cur h3 (fun k hk => by
    have h8 : (cur.toList.take ((partsOf e).length * 1))[k]? = (encs (partsOf e))[k]? := by rw [h7]
    rw [List.getElem?_take_of_lt (by omega), Array.getElem?_toList] at h8
    rw [h8]; simp [encs, hk]))
  clear ho hb3 K2 cr2 h3 h4 h6 h7 cj
  go_wp2_with fail
  refine cj3.out.mono ?_
  rintro x v4 ⟨rfl, hb4⟩
  have K4 := Lib.hid (K3.out.past hb4)
  have q5 : Hid ((v4.alloc (.cells (evr zeroE) 41)).heap[v4.heap.size]? = some (.cells (evr zeroE) 41)) := Lib.hid (by rw [heap_alloc_if, if_pos rfl])
  have K5 := Lib.hid ((K4.out.new (.cells (evr zeroE) 41)).row 0 rfl K4.out.size (evr e))
  have g5 := Lib.hid (K5.out.at 0 rfl)
  clear hb4 K3 cj3 K4
  go_wp2_with (first
    | (with_reducible refine wpList_store_row rfl 41 (.tmp 11) (.tmp 33) rfl _ (evr e) rfl rfl 41 _ q5.out (row41 e hes'.out) (evr_same _ _ rfl hes'.out) (evr_one e) ?_)
    | (with_reducible refine wpList_load_row_gg (by with_unfolding_all rfl) 41 (.tmp 11) rfl _ rfl 41 (evr e) _ g5.out Try.underlying41 rfl (row41 e hes'.out) ?_))
  refine (cv.out _).mono ?_
  rintro x v6 ⟨rfl, hb6⟩
  have K6 := Lib.hid (K5.out.past hb6)
  have g6 := Lib.hid (K6.out.at 0 rfl)
  have g6' := Lib.hid (K6.out.at 1 rfl)
  have K7 := Lib.hid (K6.out.row 1 rfl (Nat.le_refl _) (evr e))
  clear hb6 K5 g5 q5
  go_wp2_with (first
    | (with_reducible refine wpList_load_row rfl 41 (.tmp 11) rfl _ rfl 41 (evr e) _ g6.out Try.underlying41 rfl (row41 e hes'.out) ?_)
    | (with_reducible refine wpList_store_row rfl 41 (.tmp 2) (.tmp 42) rfl _ (evr e) rfl rfl 41 _ g6'.out (row41 e hes'.out) (evr_same _ _ rfl hes'.out) (evr_one e) ?_))
  exact bodyPost_row3 2 3 4 41 rfl _ rfl _ _ rfl rfl _ _ _ (K7.out.at 1 rfl) Try.underlying41 rfl (row41 e hes'.out) rfl ⟨rfl, K7.out.bel⟩
end Go.Proofs.Ytfilolmbppjbjaa
