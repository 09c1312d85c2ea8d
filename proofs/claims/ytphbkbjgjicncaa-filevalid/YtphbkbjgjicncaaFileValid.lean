/-
  For every number, every text, and every row of operations, FileValid returns true: a new file may be, and so may each that is made of it by what is done.
  Conditions: none beyond the given statement's own.
-/
import Derived.Test.YtphbkbjgjicncaaVal
import Derived.Test.YtphbkbjgjicncaaRows
import Derived.Test.YtphbkbjgjicncaaDoReg
import Derived.Test.YtphbkbjgjicncaaOpenOps
import Derived.Test.YtphbkbjgjicncaaTail
import Derived.WalkKit
import Derived.ProofKit
import Derived.OpenShut
import Derived.ShutString
import Derived.ChangeOld
import Derived.Below
namespace Go.Proofs.Ytphbkbjgjicncaa
open Go Go.RowKit

theorem ls_asym (a b : ByteArray) (h : lsB a b = true) : lsB b a = false := by
  cases k : lsB b a with
  | false => rfl
  | true => exact absurd ⟨h, k⟩ (nm.lxl_not _ _)
theorem ls_total (a b : ByteArray) (h : a ≠ b) (k : lsB a b = false) : lsB b a = true := by
  rcases nm.lxl_or (nm.pl (nm.li a)) (nm.pl (nm.li b)) (fun e => h (nm.li_inj (nm.pl_inj _ _ e))) with q | q
  · have : lsB a b = true := q
    rw [k] at this; cases this
  · exact q
theorem ls_trans (a b c : ByteArray) (h : lsB a b = true) (k : lsB b c = true) : lsB a c = true := nm.lxl_trans _ _ _ h k
def ins (x : ByteArray) : List ByteArray → List ByteArray
  | [] => [x]
  | y :: l => if lsB y x = true then y :: ins x l else x :: y :: l
theorem ins_at (x : ByteArray) (L : List ByteArray) : insAt x (plc x L) L = ins x L := by
  induction L with
  | nil => rfl
  | cons y l ih =>
    unfold ins plc
    by_cases h : lsB y x = true
    · rw [if_pos h, if_pos h, ← ih]; rfl
    · rw [if_neg h, if_neg h]; rfl
theorem ins_mem_iff (x z : ByteArray) (L : List ByteArray) : z ∈ ins x L ↔ z = x ∨ z ∈ L := by
  induction L with
  | nil => simp [ins]
  | cons y l ih =>
    unfold ins
    split
    · simp [ih]
      exact ⟨fun h => by rcases h with h | h | h <;> simp [h], fun h => by rcases h with h | h | h <;> simp [h]⟩
    · simp
theorem ins_length (x : ByteArray) (L : List ByteArray) : (ins x L).length = L.length + 1 := by
  induction L with
  | nil => rfl
  | cons y l ih =>
    unfold ins
    split
    · simp [ih]
    · simp
abbrev Sorted (L : List ByteArray) : Prop := L.Pairwise (fun a b => lsB a b = true)
theorem ins_sorted (x : ByteArray) (L : List ByteArray) (h : Sorted L) (hx : x ∉ L) : Sorted (ins x L) := by
  induction L with
  | nil => simp [ins, Sorted]
  | cons y l ih =>
    obtain ⟨h1, h2⟩ := List.pairwise_cons.1 h
    unfold ins
    split
    · rename_i q
      refine List.pairwise_cons.2 ⟨fun z hz => ?_, ih h2 (fun e => hx (List.mem_cons_of_mem _ e))⟩
      rcases (ins_mem_iff x z l).1 hz with rfl | hz
      · exact q
      · exact h1 z hz
    · rename_i q
      have hy : lsB x y = true := ls_total y x (fun e => hx (e ▸ List.mem_cons_self)) (by simpa using q)
      refine List.pairwise_cons.2 ⟨fun z hz => ?_, h⟩
      rcases List.mem_cons.1 hz with rfl | hz
      · exact hy
      · exact ls_trans _ _ _ hy (h1 z hz)
theorem getD_at (L : List ByteArray) (k : Nat) (h : k < L.length) : L.getD k em = L[k] := (at_getD L k h).symm
theorem tog_iff (L : List ByteArray) : togB L = true ↔ L.length ≤ 4 ∧ (∀ x ∈ L, vdB x = true) ∧ Sorted L := by
  unfold togB
  rw [Bool.and_eq_true, decide_eq_true_eq, List.all_eq_true]
  constructor
  · rintro ⟨h4, h⟩
    have hv : ∀ k (hk : k < L.length), vdB L[k] = true := fun k hk => by
      have := h k (List.mem_range.2 hk)
      unfold okAt at this
      rw [Bool.and_eq_true, getD_at L k hk] at this
      exact this.1
    have hn : ∀ k (hk : k + 1 < L.length), lsB L[k] L[k + 1] = true := fun k hk => by
      have := h (k + 1) (List.mem_range.2 hk)
      unfold okAt at this
      rw [Bool.and_eq_true, Bool.or_eq_true] at this
      rcases this.2 with q | q
      · simp at q
      · rw [Nat.add_sub_cancel, getD_at L k (by omega), getD_at L (k + 1) hk] at q; exact q
    refine ⟨h4, fun x hx => ?_, List.pairwise_iff_getElem.2 fun i j hi hj hij => ?_⟩
    · obtain ⟨k, hk, rfl⟩ := List.getElem_of_mem hx
      exact hv k hk
    · obtain ⟨d, rfl⟩ : ∃ d, j = i + 1 + d := ⟨j - i - 1, by omega⟩
      clear hij
      induction d with
      | zero => exact hn i hj
      | succ d ih => exact ls_trans _ _ _ (ih (by omega)) (hn (i + 1 + d) (by omega))
  · rintro ⟨h4, hv, hp⟩
    refine ⟨h4, fun k hk => ?_⟩
    have hk' := List.mem_range.1 hk
    unfold okAt
    rw [getD_at L k hk', hv _ (List.getElem_mem hk'), Bool.true_and, Bool.or_eq_true]
    by_cases h0 : k = 0
    · left; simp [h0]
    · right
      rw [getD_at L (k - 1) (by omega)]
      exact List.pairwise_iff_getElem.1 hp (k - 1) k (by omega) hk' (by omega)
theorem tog_nil : togB [] = true := rfl
theorem vl_iff (f : Fl) (L : List ByteArray) : vlB f L = true ↔ gvB f.id = true ∧ vdB f.nm = true ∧ f.da.size ≤ 600 ∧ 0 ≤ f.un ∧ f.un ≤ 1099511627776 ∧ (f.se = true ∨ (f.un = 0 ∧ L.length = 0)) ∧ togB L = true := by
  unfold vlB
  simp only [Bool.and_eq_true, Bool.or_eq_true, decide_eq_true_eq]

/-- What is done to a file that may be makes one that may be. -/
theorem do_valid (f : Fl) (L : List ByteArray) (o : Opv) (fl : Int) (hv : vlB f L = true) (hc : (doneR f L o fl).2.2 = 0) (h6 : o.kind ≠ 6) :
    vlB (doneR f L o fl).1 (doneR f L o fl).2.1 = true ∧ (doneR f L o fl).1.id = f.id ∧ (doneR f L o fl).1.nm = f.nm := by
  obtain ⟨v1, v2, v3, v4, v5, v6, v7⟩ := (vl_iff f L).1 hv
  unfold doneR at hc ⊢
  by_cases k0 : o.kind = 0
  · rw [if_pos k0] at hc; exact absurd (show (4 : Int) = 0 from hc) (by decide)
  rw [if_neg k0] at hc ⊢
  by_cases k1 : o.kind = 1
  · rw [if_pos k1] at hc ⊢
    dsimp only at hc ⊢
    unfold appF at hc ⊢
    split at hc
    · exact absurd (show (5 : Int) = 0 from hc) (by decide)
    split at hc
    · exact absurd (show (1 : Int) = 0 from hc) (by decide)
    split at hc
    · exact absurd (show (10 : Int) = 0 from hc) (by decide)
    rename_i q1 q2 q3
    rw [if_neg q1, if_neg q2, if_neg q3]
    refine ⟨(vl_iff _ L).2 ⟨v1, v2, ?_, v4, v5, v6, v7⟩, rfl, rfl⟩
    show (f.da ++ o.tx).size ≤ 600
    rw [ByteArray.size_append]; omega
  rw [if_neg k1] at hc ⊢
  by_cases k2 : o.kind = 2
  · rw [if_pos k2] at hc ⊢
    dsimp only at hc ⊢
    unfold sealF at hc ⊢
    split at hc
    · exact absurd (show (5 : Int) = 0 from hc) (by decide)
    split at hc
    · exact absurd (show (1 : Int) = 0 from hc) (by decide)
    rename_i q1 q2
    rw [if_neg q1, if_neg q2]
    have ht : 0 ≤ o.tm ∧ o.tm ≤ 1099511627776 := by
      have : tmB o.tm = true := by simpa using q2
      simpa [tmB] using this
    exact ⟨(vl_iff _ L).2 ⟨v1, v2, v3, ht.1, ht.2, .inl rfl, v7⟩, rfl, rfl⟩
  rw [if_neg k2] at hc ⊢
  by_cases k3 : o.kind = 3
  · rw [if_pos k3] at hc ⊢
    dsimp only at hc ⊢
    unfold extF at hc ⊢
    split at hc
    · exact absurd (show (6 : Int) = 0 from hc) (by decide)
    split at hc
    · exact absurd (show (1 : Int) = 0 from hc) (by decide)
    split at hc
    · exact absurd (show (7 : Int) = 0 from hc) (by decide)
    rename_i q1 q2 q3
    rw [if_neg q1, if_neg q2, if_neg q3]
    have ht : 0 ≤ o.tm ∧ o.tm ≤ 1099511627776 := by
      have : tmB o.tm = true := by simpa using q2
      simpa [tmB] using this
    exact ⟨(vl_iff _ L).2 ⟨v1, v2, v3, ht.1, ht.2, .inl (by simpa using q1), v7⟩, rfl, rfl⟩
  rw [if_neg k3] at hc ⊢
  by_cases k4 : o.kind = 4
  · rw [if_pos k4] at hc ⊢
    dsimp only at hc ⊢
    rcases hold_code f.se o.tx L with ⟨_, hse, hvx, hnc, h4⟩ | ⟨hne, _⟩
    · have hL : hldL f.se o.tx L = ins o.tx L := by unfold hldL; rw [if_pos hc, ins_at]
      rw [hL]
      obtain ⟨t1, t2, t3⟩ := (tog_iff L).1 v7
      refine ⟨(vl_iff _ _).2 ⟨v1, v2, v3, v4, v5, .inl hse, (tog_iff _).2 ⟨by rw [ins_length]; omega, fun z hz => ?_, ins_sorted _ _ t3 (not_in _ _ hnc)⟩⟩, rfl, rfl⟩
      rcases (ins_mem_iff _ _ _).1 hz with rfl | hz
      · exact hvx
      · exact t2 z hz
    · exact absurd hc hne
  rw [if_neg k4] at hc ⊢
  by_cases k5 : o.kind = 5
  · rw [if_pos k5] at hc ⊢
    dsimp only at hc ⊢
    obtain ⟨t1, t2, t3⟩ := (tog_iff L).1 v7
    have hsub : (rmv o.tx L).Sublist L := by
      unfold rmv
      split
      · exact List.eraseIdx_sublist _ _
      · exact List.Sublist.refl _
    refine ⟨(vl_iff _ _).2 ⟨v1, v2, v3, v4, v5, ?_, (tog_iff _).2 ⟨Nat.le_trans hsub.length_le t1, fun z hz => t2 z (hsub.subset hz), t3.sublist hsub⟩⟩, rfl, rfl⟩
    rcases v6 with q | ⟨q, q2⟩
    · exact .inl q
    · exact .inr ⟨q, by have := hsub.length_le; omega⟩
  rw [if_neg k5, if_neg h6] at hc
  exact absurd (show (1 : Int) = 0 from hc) (by decide)
end Go.Proofs.Ytphbkbjgjicncaa

namespace Go.Proofs.Ytphbkbjgjicncaa.nm
open Go.RowKit

set_option maxHeartbeats 1000000 in
set_option maxHeartbeats 1000000 in
theorem valid_wide (s : ByteArray) (_hs : s.size ≤ maxLen) (w : World) :
    Calls Try.prog 39 #[.string s] w fun e w' => e = .returned (.bool (vld (li s))) ∧ Below w.heap.size w w' := by
  go_enter Try.func39, Try.ntmps39
  go_wp2_with fail
  go_loopw [4] (fun v wr => ∃ (pos c L : Nat), v = .int .i32 (L : Int) ∧ wr = vw w s c pos ∧ pos ≤ s.size ∧ c ≤ 24 ∧ Hid (vgo (pl ((li s).drop pos)) c L = vld (li s))) (fun _ wr => s.size - wr.iterPos (w.heap.size + 1))
  case atStart => exact ⟨0, 0, 32, rfl, rfl, by omega, by omega, rfl⟩
  case round =>
    obtain ⟨pos, c, L, rfl, rfl, hp, hc, hn⟩ := hrel
    by_cases hlt : pos < s.size
    · have hnx := fun ty => vw_next w s c pos hlt ty
      have hw := drop_width hlt
      have hok := Lib.hid (dec_okp _ (drop_ne hlt))
      have hn2 : Hid (vld (li s) = if c = 24 ∨ odd c (dec ((li s).drop pos)).1 = true then false else vgo (pl ((li s).drop (pos + (dec ((li s).drop pos)).2))) (c + 1) (rn (dec ((li s).drop pos)).1)) := by
        show _ = _
        rw [← hn.out, pl_at hlt]; rfl
      revert hnx hw hn2 hok
      generalize (dec ((li s).drop pos)).2 = n
      generalize (dec ((li s).drop pos)).1 = p
      intro hnx hw hok hn2
      have hcell := vw_cell w s c (pos + n)
      by_cases h24 : c = 24
      · have e : Hid (vld (li s) = false) := by show _ = _; rw [hn2.out, if_pos (.inl h24)]
        have t1 : ((c : Int) == 24) = true := by rw [h24]; rfl
        clear h24 hn2 hn
        go_wp2_with fail
        go_ret
        exact ⟨by rw [e.out]; rfl, vw_below _ _ _ _⟩
      · have t1 : ((c : Int) == 24) = false := by rw [beq_eq_false_iff_ne]; omega
        have hodd := Lib.hid (odd_any c p w.heap.size (vw w s c (pos + n)) hcell hok.out)
        cases ho : odd c p
        · rw [ho] at hodd
          have e : Hid (vgo (pl ((li s).drop (pos + n))) (c + 1) (rn p) = vld (li s)) := by show _ = _; rw [hn2.out, if_neg (by rw [ho]; simp; omega)]
          have hset := vw_set w s c (pos + n)
          have hfr := vw_frozen w s c (pos + n)
          have hpos := Lib.hid (And.intro (vw_pos w s c pos) (vw_pos w s (c + 1) (pos + n)))
          clear hn2 hn ho
          go_wp2_with fail
          refine hodd.out.mono ?_
          rintro e w' ⟨rfl, rfl⟩
          go_wp2_with fail
          go_roundw
          case rel => exact ⟨pos + n, c + 1, rn p, rfl, rfl, by omega, by omega, e⟩
          case measure => rw [hpos.out.1, hpos.out.2]; omega
        · rw [ho] at hodd
          have e : Hid (vld (li s) = false) := by show _ = _; rw [hn2.out, if_pos (.inr ho)]
          clear hn2 hn ho
          go_wp2_with fail
          refine hodd.out.mono ?_
          rintro e w' ⟨rfl, rfl⟩
          go_wp2_with fail
          go_ret
          exact ⟨by rw [e.out]; rfl, vw_below _ _ _ _⟩
    · have hnx := fun ty => vw_end w s c pos hlt ty
      have e : Hid (vld (li s) = ((L : Int) != 32)) := by
        show _ = _
        rw [← hn.out, drop_end hlt]
        show decide (L ≠ 32) = _
        by_cases k : L = 32
        · subst k; rfl
        · have : ((L : Int) == 32) = false := by rw [beq_eq_false_iff_ne]; omega
          simp [k, bne, this]
      go_wp2_with fail
      go_ret
      exact ⟨by rw [e.out]; rfl, vw_below _ _ _ _⟩

set_option maxHeartbeats 1000000 in
theorem less_wide (a b : ByteArray) (w : World) :
    Calls Try.prog 63 #[.string a, .string b] w fun e w' => e = .returned (.bool (lxl (pl (li a)) (pl (li b)))) ∧ Below w.heap.size w w' := by
  go_enter Try.func63, Try.ntmps63
  go_wp2_with fail
  go_loopw [] (fun wr => ∃ (pos : Nat), wr.heap[w.heap.size]? = some (.stringIter a pos) ∧ Below w.heap.size w wr ∧ pos ≤ a.size ∧ Same (li a) (li b) pos) (fun wr => a.size - wr.iterPos w.heap.size)
  case atStart => exact ⟨0, World.iter_heap _ _ _, below_iter _ _ _, by omega, same_zero _ _⟩
  case round =>
    obtain ⟨pos, hit, hbel, hp, hS⟩ := hrel
    rename_i wr
    by_cases hlt : pos < a.size
    · have hnx : ∀ ty, (Instr.next (.pointer (some ⟨w.heap.size, 0, none⟩)) true ty).run Try.prog wr = _ := fun ty => Lib.run_next_any_at wr w.heap.size a pos ty hit hlt
      rw [decode_eq] at hnx
      have hw := drop_width hlt
      have hit2 := Lib.hid (Lib.iterAt_heap wr w.heap.size a pos (pos + (dec ((li a).drop pos)).2) hit)
      have hbel2 := Lib.hid (Lib.below_iterAt hbel (k := w.heap.size) (by omega) a (pos + (dec ((li a).drop pos)).2))
      have hle : pos ≤ b.size := by have := hS.le; rw [li_len] at this; exact this
      have pa := Lib.hid (fun v => place_any (a.extract pos a.size) v)
      have pb := Lib.hid (fun v => place_any (b.extract pos b.size) v)
      rw [li_extract] at pa pb
      have hyes : Hid (pz ((li a).drop pos) = pz ((li b).drop pos) → Same (li a) (li b) (pos + (dec ((li a).drop pos)).2)) := fun e => same_next hS (drop_ne hlt) e
      have hno : Hid (pz ((li a).drop pos) ≠ pz ((li b).drop pos) → decide (pz ((li a).drop pos) < pz ((li b).drop pos)) = lxl (pl (li a)) (pl (li b))) := fun e => same_ne hS (drop_ne hlt) e
      have hlea : (pos : Int) ≤ (a.size : Int) := by omega
      have hleb : (pos : Int) ≤ (b.size : Int) := by omega
      revert hnx hit2 hbel2 pa pb hyes hno hw
      generalize pz ((li a).drop pos) = x
      generalize pz ((li b).drop pos) = y
      generalize rn (dec ((li a).drop pos)).1 = r
      generalize (dec ((li a).drop pos)).2 = n
      generalize wr.iterAt w.heap.size a (pos + n) = W
      intro hnx hw hit2 hbel2 pa pb hyes hno
      have hip : Hid (wr.iterPos w.heap.size = pos) := by show _ = _; simp [World.iterPos, hit]
      clear hit hS
      go_wp2_with fail
      have hC : LessW w a (pos + n) W.drew := ⟨hbel2.out.drew, hit2.out⟩
      refine wp_region_class (LessW w a (pos + n)) (by kernel_rfl) (by kernel_rfl) hC ?_
      refine wpQuiet_move (by rfl) _ (.inl rfl) (.string a) rfl ?_
      refine wpQuiet_move (by rfl) _ (.inl rfl) (.int .i64 (pos : Int)) rfl ?_
      simp only [Act.put, List.setIfInBounds_toArray, List.set_cons_zero, List.set_cons_succ]
      refine wpQuiet_from (by rfl) 9 (.tmp 13) (.tmp 14) rfl a pos rfl rfl (by omega) Try.underlying9 ?_
      refine wpQuiet_call1 (by rfl) 76 (.tmp 15) _ rfl ent76 (.string (a.extract pos a.size)) rfl (.int .i32 x) (fun v hv => (pa.out v).mono fun e v' ⟨he, hb⟩ => ⟨he, hv.next hb⟩) ?_
      simp only [Act.put, List.setIfInBounds_toArray, List.set_cons_zero, List.set_cons_succ]
      refine wpQuiet_move (by rfl) _ (.inl rfl) (.string b) rfl ?_
      refine wpQuiet_move (by rfl) _ (.inl rfl) (.int .i64 (pos : Int)) rfl ?_
      simp only [Act.put, List.setIfInBounds_toArray, List.set_cons_zero, List.set_cons_succ]
      refine wpQuiet_from (by rfl) 9 (.tmp 17) (.tmp 18) rfl b pos rfl rfl (by omega) Try.underlying9 ?_
      refine wpQuiet_call1 (by rfl) 76 (.tmp 19) _ rfl ent76 (.string (b.extract pos b.size)) rfl (.int .i32 y) (fun v hv => (pb.out v).mono fun e v' ⟨he, hb⟩ => ⟨he, hv.next hb⟩) ?_
      simp only [Act.put, List.setIfInBounds_toArray, List.set_cons_zero, List.set_cons_succ]
      refine wpQuiet_move (by rfl) _ (.inr rfl) (.int .i32 x) rfl ?_
      refine wpQuiet_move (by rfl) _ (.inr rfl) (.int .i32 y) rfl ?_
      simp only [Act.put, List.setIfInBounds_toArray, List.set_cons_zero, List.set_cons_succ]
      refine wpQuiet_nil ?_
      intro u hu
      by_cases e : x = y
      · have hS2 := hyes.out e
        have e1 : (x != y) = false := by simp [e]
        clear hyes hno
        go_wp2_with fail
        go_roundw
        case rel => exact ⟨pos + n, hu.it, hu.bel, by omega, hS2⟩
        case measure => rw [hip.out]; simp only [World.iterPos, hu.it]; omega
      · have hr := Lib.hid (hno.out e)
        have e1 : (x != y) = true := by simp [e]
        clear hyes hno e
        go_wp2_with fail
        go_ret
        exact ⟨by rw [← hr.out]; rfl, hu.bel⟩
    · have hnx : ∀ ty, (Instr.next (.pointer (some ⟨w.heap.size, 0, none⟩)) true ty).run Try.prog wr = _ := fun ty => Lib.run_next_end_at wr w.heap.size a pos ty hit hlt
      have hr := Lib.hid (same_end hS (by rw [li_len]; omega))
      rw [li_len, li_len] at hr
      clear hS hit
      go_wp2_with fail
      go_ret
      exact ⟨by rw [← hr.out]; rfl, hbel⟩

end Go.Proofs.Ytphbkbjgjicncaa.nm
namespace Go.Proofs.Ytphbkbjgjicncaa
open Go Go.RowKit
theorem name_wide (x : ByteArray) (hx : x.size ≤ maxLen) (w : World) : Calls Try.prog 39 #[.string x] w fun e w' => e = .returned (.bool (vdB x)) ∧ Below w.heap.size w w' := nm.valid_wide x hx w
set_option maxHeartbeats 1000000 in
theorem new_wide (i : Int) (s : ByteArray) (w : World) (hs : s.size ≤ maxLen) :
    Calls Try.prog 20 #[.int .i64 i, .string s] w fun e w' => e = .returned (.tuple #[.agg (flr (newF i s).1), .int .i64 (newF i s).2]) ∧ Below w.heap.size w w' := by
  have hF : Hid (newF i s = if vdB s = false then (fl0, 2) else if gvB i = false then (fl0, 1) else (⟨i, s, em, false, 0, none, 0, 0⟩, 0)) := Lib.hid rfl
  have cv := Lib.hid (fun v => name_wide s hs v)
  have cg := Lib.hid (fun v => given_any i v)
  generalize newF i s = R at hF ⊢
  generalize vdB s = vb at *
  generalize gvB i = gb at *
  have hK := Lib.hid ((KW.start w).new (.cells (flr fl0) 24))
  have hz := zero27
  go_enter Try.func20, Try.ntmps20
  go_wp2_with fail
  refine (cv.out _).mono ?_
  rintro e v ⟨rfl, hb⟩
  have K1 := Lib.hid (hK.out.past hb)
  clear hb hK
  cases vb with
  | false =>
    rw [if_pos rfl] at hF
    obtain rfl := hF.out
    clear hF
    have K2 := Lib.hid (K1.out.row 0 rfl (Nat.le_refl _) (flr fl0))
    go_wp2_with (refine wpList_store_row (by rfl) 24 (.tmp 4) (.tmp 10) rfl _ (flr fl0) rfl rfl 24 _ (K1.out.at 0 rfl) (row27 _) (flr_same _ _) (flr_one _) ?_)
    exact bodyPost_row2 4 5 24 rfl _ rfl _ rfl 24 _ _ (K2.out.at 0 rfl) Try.underlying24 rfl (row27 _) rfl ⟨rfl, K2.out.bel⟩
  | true =>
    rw [if_neg (by decide)] at hF
    cases gb with
    | false =>
      rw [if_pos rfl] at hF
      obtain rfl := hF.out
      clear hF
      have K2 := Lib.hid (K1.out.row 0 rfl (Nat.le_refl _) (flr fl0))
      go_wp2_with (first
        | (go_at_call 40; refine (cg.out _).mono ?_; rintro e w' ⟨rfl, rfl⟩)
        | (refine wpList_store_row (by rfl) 24 (.tmp 4) (.tmp 15) rfl _ (flr fl0) rfl rfl 24 _ (K1.out.at 0 rfl) (row27 _) (flr_same _ _) (flr_one _) ?_))
      exact bodyPost_row2 4 5 24 rfl _ rfl _ rfl 24 _ _ (K2.out.at 0 rfl) Try.underlying24 rfl (row27 _) rfl ⟨rfl, K2.out.bel⟩
    | true =>
      rw [if_neg (by decide)] at hF
      obtain rfl := hF.out
      clear hF
      have K2 := Lib.hid (K1.out.row 0 rfl (Nat.le_refl _) (flr ⟨i, s, em, false, 0, none, 0, 0⟩))
      have hE : Hid (((flr fl0).setIfInBounds 0 (.int .i64 i)).setIfInBounds 1 (.string s) = flr ⟨i, s, em, false, 0, none, 0, 0⟩) := Lib.hid (by simp [flr, fl0, em])
      go_wp2_with (first
        | (go_at_call 40; refine (cg.out _).mono ?_; rintro e w' ⟨rfl, rfl⟩)
        | (refine wpList_store_row (by rfl) 24 (.tmp 4) (.tmp 18) rfl _ (flr ⟨i, s, em, false, 0, none, 0, 0⟩) rfl (congrArg Value.agg hE.out) 24 _ (K1.out.at 0 rfl) (row27 _) (flr_same _ _) (flr_one _) ?_))
      exact bodyPost_row2 4 5 24 rfl _ rfl _ rfl 24 _ _ (K2.out.at 0 rfl) Try.underlying24 rfl (row27 _) rfl ⟨rfl, K2.out.bel⟩

theorem less_bw (a b : ByteArray) (w : World) : Calls Try.prog 63 #[.string a, .string b] w fun e w' => e = .returned (.bool (lsB a b)) ∧ Below w.heap.size w w' := nm.less_wide a b w
set_option maxHeartbeats 2000000 in
theorem together_wide (a : Option Addr) (c : Nat) (L : List ByteArray) (w : World) (h : StrAt w.heap.size w a L) (hL : L.length ≤ maxLen) (hs : ∀ y ∈ L, y.size ≤ maxLen) :
    Calls Try.prog 43 #[.slice a L.length c] w fun e w' => e = .returned (.bool (togB L)) ∧ Below w.heap.size w w' := by
  have hF : Hid (togB L = (decide (L.length ≤ 4) && (List.range L.length).all (okAt L))) := Lib.hid rfl
  generalize togB L = R at hF ⊢
  by_cases h4 : 4 < L.length
  · have t1 : decide ((4 : Int) < (L.length : Int)) = true := by simp; omega
    have t2 : (4 : Int) < (L.length : Int) := by omega
    have hR : Hid (R = false) := Lib.hid (by rw [hF.out, decide_eq_false (by omega)]; rfl)
    clear h hs hF h4
    generalize L.length = n at *
    go_enter Try.func43, Try.ntmps43
    go_wp2_with fail
    go_ret
    exact ⟨by rw [hR.out]; rfl, Below.refl _ _⟩
  have t1 : decide ((4 : Int) < (L.length : Int)) = false := by simp; omega
  have t2 : ¬ (4 : Int) < (L.length : Int) := by omega
  have hR : Hid (R = (List.range L.length).all (okAt L)) := Lib.hid (by rw [hF.out, decide_eq_true (by omega)]; rfl)
  have hA := Lib.hid h
  have hs' := Lib.hid hs
  have hL4 : L.length ≤ 4 := by omega
  clear h hs hF h4 hL
  go_enter Try.func43, Try.ntmps43
  go_wp2_with fail
  go_loopw [10] (fun i wr => ∃ k : Nat, k ≤ L.length ∧ i = .int .i64 (k : Int) ∧ Hid (Below w.heap.size w wr) ∧ Hid (∀ j, j < k → okAt L j = true)) (fun i _ => L.length - (intOf i).toNat)
  case atStart => exact ⟨0, Nat.zero_le _, rfl, Lib.hid (Below.refl _ _), Lib.hid (fun j hj => absurd hj (Nat.not_lt_zero _))⟩
  case round =>
    obtain ⟨k, hk, rfl, hW, hT⟩ := hrel
    rename_i wr
    by_cases hlt : k < L.length
    · have hlt' : (k : Int) < (L.length : Int) := by omega
      have hlt2 : decide (k < L.length) = true := by simpa using hlt
      rcases hA.out with h0 | ⟨b1, o1, rfl, l1, hc1⟩
      · rw [h0] at hlt; simp at hlt
      have q1 : wr.cell? ⟨b1, o1 + k, none⟩ = some (.string (L.getD k em)) := by rw [← at_getD L k hlt]; exact (hW.out.cell (p := ⟨b1, o1 + k, none⟩) l1).trans (hc1 k hlt)
      have hno : Hid (okAt L k = false → R = false) := Lib.hid (fun e => by
        rw [hR.out]
        exact List.all_eq_false.2 ⟨k, List.mem_range.2 hlt, by rw [e]; decide⟩)
      have hyes : Hid (okAt L k = true → ∀ j, j < k + 1 → okAt L j = true) := Lib.hid (fun e j hj => by
        rcases Nat.lt_or_ge j k with q | q
        · exact hT.out j q
        · obtain rfl : j = k := by omega
          exact e)
      have hok : Hid (okAt L k = (vdB (L.getD k em) && (k == 0 || lsB (L.getD (k - 1) em) (L.getD k em)))) := Lib.hid rfl
      have sy := Lib.hid (hs'.out (L.getD k em) (by rw [← at_getD L k hlt]; exact List.getElem_mem hlt))
      have hC := Lib.hid hc1
      clear hc1
      generalize hok1 : okAt L k = ok at *
      clear hok1
      cases hv : vdB (L.getD k em) with
      | false =>
        rw [hv] at hok
        have hRf := Lib.hid (hno.out (by rw [hok.out]; rfl))
        have cv := Lib.hid (fun v => name_wide (L.getD k em) sy.out v)
        rw [hv] at cv
        generalize L.getD k em = y at *
        clear hv hno hyes
        go_wp2_with fail
        refine (cv.out _).mono ?_
        rintro e v ⟨rfl, hb⟩
        have hB := Lib.hid (hW.out.trans (hb.mono hW.out.size))
        clear hb
        go_wp2_with fail
        go_ret
        exact ⟨by rw [hRf.out]; rfl, hB.out⟩
      | true =>
        rw [hv] at hok
        have cv := Lib.hid (fun v => name_wide (L.getD k em) sy.out v)
        rw [hv] at cv
        clear hv
        by_cases hz : k = 0
        · subst hz
          have hT2 := Lib.hid (hyes.out (by rw [hok.out]; rfl))
          rw [Nat.add_zero] at q1
          generalize L.getD 0 em = y at *
          clear hno hyes
          go_wp2_with fail
          refine (cv.out _).mono ?_
          rintro e v ⟨rfl, hb⟩
          have hB := Lib.hid (hW.out.trans (hb.mono hW.out.size))
          clear hb
          go_wp2_with fail
          go_roundw
          case rel => exact ⟨1, by omega, by go_num, hB, hT2⟩
          case measure => simp [intOf] <;> omega
        · obtain ⟨j, rfl⟩ : ∃ j, k = j + 1 := ⟨k - 1, by omega⟩
          have hj0 : ((j : Int) + 1 == 0) = false := by simp; omega
          have hj1 : decide ((0 : Int) < (j : Int) + 1) = true := decide_eq_true (by omega)
          have hj2 : (0 : Int) < (j : Int) + 1 := by omega
          have hj3 : IntKind.i64.wrap ((j : Int) + 1 - 1) = (j : Int) := by rw [show (j : Int) + 1 - 1 = (j : Int) by omega]; exact IntWalk.i64_in _ (by omega)
          have hj4 : IntKind.i64.wrap (((j + 1 : Nat) : Int) - 1) = (j : Int) := by rw [show ((j + 1 : Nat) : Int) - 1 = (j : Int) by omega]; exact IntWalk.i64_in _ (by omega)
          have hlj : j < L.length := by omega
          have hlj' : (j : Int) < (L.length : Int) := by omega
          have q0 : wr.cell? ⟨b1, o1 + j, none⟩ = some (.string (L.getD j em)) := by rw [← at_getD L j hlj]; exact (hW.out.cell (p := ⟨b1, o1 + j, none⟩) l1).trans (hC.out j hlj)
          have sx := Lib.hid (hs'.out (L.getD j em) (by rw [← at_getD L j hlj]; exact List.getElem_mem hlj))
          have hok2 : Hid (ok = lsB (L.getD j em) (L.getD (j + 1) em)) := Lib.hid (by rw [hok.out]; simp)
          have cl := Lib.hid (fun v => less_bw (L.getD j em) (L.getD (j + 1) em) v)
          have hBq : Hid (∀ v, Below wr.heap.size wr v → v.cell? ⟨b1, o1 + j, none⟩ = some (.string (L.getD j em))) := Lib.hid (fun v hb => (hb.cell (p := ⟨b1, o1 + j, none⟩) (Nat.lt_of_lt_of_le l1 hW.out.size)).trans q0)
          generalize lsB (L.getD j em) (L.getD (j + 1) em) = lb at *
          obtain rfl := hok2.out
          generalize L.getD (j + 1) em = y at *
          generalize L.getD j em = x at *
          clear hok hok2
          cases ok with
          | true =>
            have hT2 := Lib.hid (hyes.out rfl)
            clear hno hyes
            go_wp2_with fail
            refine (cv.out _).mono ?_
            rintro e v ⟨rfl, hb⟩
            have hB := Lib.hid (hW.out.trans (hb.mono hW.out.size))
            have q3 := hBq.out v hb
            clear hb
            go_wp2_with fail
            refine (cl.out _).mono ?_
            rintro e v2 ⟨rfl, hb2⟩
            have hB2 := Lib.hid (hB.out.trans (hb2.mono hB.out.size))
            clear hb2
            go_wp2_with fail
            go_roundw
            case rel => exact ⟨j + 1 + 1, by omega, by go_num, hB2, hT2⟩
            case measure => simp [intOf]; omega
          | false =>
            have hRf := Lib.hid (hno.out rfl)
            clear hno hyes
            go_wp2_with fail
            refine (cv.out _).mono ?_
            rintro e v ⟨rfl, hb⟩
            have hB := Lib.hid (hW.out.trans (hb.mono hW.out.size))
            have q3 := hBq.out v hb
            clear hb
            go_wp2_with fail
            refine (cl.out _).mono ?_
            rintro e v2 ⟨rfl, hb2⟩
            have hB2 := Lib.hid (hB.out.trans (hb2.mono hB.out.size))
            clear hb2
            go_wp2_with fail
            go_ret
            exact ⟨by rw [hRf.out]; rfl, hB2.out⟩
    · obtain rfl : k = L.length := by omega
      have hlt' : ¬ (L.length : Int) < (L.length : Int) := by omega
      have hlt2 : decide (L.length < L.length) = false := by simp
      have hRt : Hid (R = true) := Lib.hid (by
        rw [hR.out]
        exact List.all_eq_true.2 fun j hj => hT.out j (List.mem_range.1 hj))
      go_wp2_with fail
      go_ret
      exact ⟨by rw [hRt.out]; rfl, hW.out⟩

set_option maxHeartbeats 2000000 in
theorem validf_wide (f : Fl) (L : List ByteArray) (w : World) (h : StrAt w.heap.size w f.ha L) (hn : f.hn = L.length) (hL : L.length ≤ maxLen) (hs : ∀ y ∈ L, y.size ≤ maxLen) (hnm : f.nm.size ≤ maxLen) :
    Calls Try.prog 23 #[.agg (flr f)] w fun e w' => e = .returned (.bool (vlB f L)) ∧ Below w.heap.size w w' := by
  obtain ⟨i, nm, da, se, un, ha, n, hc⟩ := f
  dsimp only at h hn hnm
  subst hn
  have cv := Lib.hid (fun v => name_wide nm hnm v)
  have cg := Lib.hid (fun v => given_any i v)
  have ct := Lib.hid (fun v (hb : Below w.heap.size w v) => together_wide ha hc L v (h.on hb) hL hs)
  have hF : Hid (vlB ⟨i, nm, da, se, un, ha, L.length, hc⟩ L = (gvB i && (vdB nm && (decide (da.size ≤ 600) && (decide (0 ≤ un) && (decide (un ≤ 1099511627776) && ((se || (decide (un = 0) && decide (L.length = 0))) && togB L))))))) := Lib.hid rfl
  generalize vlB ⟨i, nm, da, se, un, ha, L.length, hc⟩ L = R at hF ⊢
  generalize gvB i = gb at *
  generalize vdB nm = vb at *
  generalize togB L = tb at *
  have K0 := Lib.hid ((KW.start w).new (.cells (flr ⟨i, nm, da, se, un, ha, L.length, hc⟩) 24))
  have p0 := K0.out.cell 0 rfl 0 (y := .int .i64 i) rfl
  have p1 := K0.out.cell 0 rfl 1 (y := .string nm) rfl
  clear h hL hs hnm
  go_enter Try.func23, Try.ntmps23
  go_wp2_with fail
  refine (cg.out _).mono ?_
  rintro e w' ⟨rfl, rfl⟩
  cases gb with
  | false =>
    have hR : Hid (R = false) := Lib.hid (by rw [hF.out]; rfl)
    go_wp2_with fail
    go_ret
    exact ⟨by rw [hR.out]; rfl, K0.out.bel⟩
  | true =>
    go_wp2_with fail
    refine (cv.out _).mono ?_
    rintro e v ⟨rfl, hb⟩
    have K1 := Lib.hid (K0.out.past hb)
    have k2 := K1.out.cell 0 rfl 2 (y := .string da) rfl
    have k3 := K1.out.cell 0 rfl 3 (y := .bool se) rfl
    have k4 := K1.out.cell 0 rfl 4 (y := .int .i64 un) rfl
    have k5 := K1.out.cell 0 rfl 5 (y := .slice ha L.length hc) rfl
    clear hb
    cases vb with
    | false =>
      have hR : Hid (R = false) := Lib.hid (by rw [hF.out]; rfl)
      go_wp2_with fail
      go_ret
      exact ⟨by rw [hR.out]; rfl, K1.out.bel⟩
    | true =>
      by_cases h1 : 600 < da.size
      · have t1 : decide ((600 : Int) < (da.size : Int)) = true := decide_eq_true (by omega)
        have t2 : (600 : Int) < (da.size : Int) := by omega
        have hR : Hid (R = false) := Lib.hid (by rw [hF.out, decide_eq_false (show ¬ da.size ≤ 600 by omega)]; rfl)
        clear hF
        go_wp2_with fail
        go_ret
        exact ⟨by rw [hR.out]; rfl, K1.out.bel⟩
      have d1 : decide (da.size ≤ 600) = true := decide_eq_true (by omega)
      rw [d1] at hF
      have t1 : decide ((600 : Int) < (da.size : Int)) = false := decide_eq_false (by omega)
      have t2 : ¬ (600 : Int) < (da.size : Int) := by omega
      clear d1
      by_cases h2 : un < 0
      · have t3 : decide (un < 0) = true := decide_eq_true h2
        have hR : Hid (R = false) := Lib.hid (by rw [hF.out, decide_eq_false (show ¬ 0 ≤ un by omega)]; rfl)
        clear hF
        go_wp2_with fail
        go_ret
        exact ⟨by rw [hR.out]; rfl, K1.out.bel⟩
      have d1 : decide (0 ≤ un) = true := decide_eq_true (by omega)
      rw [d1] at hF
      have t3 : decide (un < 0) = false := decide_eq_false h2
      clear d1
      by_cases h3 : 1099511627776 < un
      · have t4 : decide (1099511627776 < un) = true := decide_eq_true h3
        have hR : Hid (R = false) := Lib.hid (by rw [hF.out, decide_eq_false (show ¬ un ≤ 1099511627776 by omega)]; rfl)
        clear hF
        go_wp2_with fail
        go_ret
        exact ⟨by rw [hR.out]; rfl, K1.out.bel⟩
      have d1 : decide (un ≤ 1099511627776) = true := decide_eq_true (by omega)
      rw [d1] at hF
      have t4 : decide (1099511627776 < un) = false := decide_eq_false h3
      clear d1
      cases se with
      | true =>
        have hR : Hid (R = tb) := Lib.hid (by rw [hF.out]; simp)
        clear hF
        go_wp2_with fail
        refine (ct.out _ K1.out.bel).mono ?_
        rintro e v2 ⟨rfl, hb⟩
        have K2 := Lib.hid (K1.out.past hb)
        clear hb
        go_wp2_with fail
        go_ret
        exact ⟨by rw [hR.out]; rfl, K2.out.bel⟩
      | false =>
        by_cases h5 : un = 0
        · subst h5
          have u1 : ((0 : Int) == 0) = true := rfl
          have u2 : ((0 : Int) != 0) = false := rfl
          by_cases h6 : L.length = 0
          · have hR : Hid (R = tb) := Lib.hid (by rw [hF.out, h6]; simp)
            obtain rfl : L = [] := List.length_eq_zero_iff.1 h6
            clear hF h6
            go_wp2_with fail
            refine (ct.out _ K1.out.bel).mono ?_
            rintro e v2 ⟨rfl, hb⟩
            have K2 := Lib.hid (K1.out.past hb)
            clear hb
            go_wp2_with fail
            go_ret
            exact ⟨by rw [hR.out]; rfl, K2.out.bel⟩
          · have hR : Hid (R = false) := Lib.hid (by rw [hF.out]; simp; intro q; exact absurd (by rw [q]; rfl) h6)
            have t5 : decide ((0 : Int) < (L.length : Int)) = true := decide_eq_true (by omega)
            have t6 : (0 : Int) < (L.length : Int) := by omega
            have t7 : decide (0 < L.length) = true := decide_eq_true (by omega)
            clear hF h6
            go_wp2_with fail
            go_ret
            exact ⟨by rw [hR.out]; rfl, K1.out.bel⟩
        · have u1 : (un == 0) = false := by simpa using h5
          have u2 : (un != 0) = true := by simpa using h5
          have hR : Hid (R = false) := Lib.hid (by rw [hF.out, decide_eq_false h5]; rfl)
          clear hF h5
          go_wp2_with fail
          go_ret
          exact ⟨by rw [hR.out]; rfl, K1.out.bel⟩
end Go.Proofs.Ytphbkbjgjicncaa

namespace Go.Proofs.Ytphbkbjgjicncaa.fileValid
open Go.ChangeShapes Go.WideShapes Go.ChangeAt Go.RowKit
open Go.ChangeMaps (open_string shut_string)
set_option linter.unusedVariables false

theorem own : ownKnob Try.prog.godebug = none := by kernel_rfl
theorem laidOut : laidOutB Try.prog = true := by kernel_rfl

/-- The worlds of the rounds: the file that is held now, in block b. -/
structure FV (w : World) (b : Nat) (f : Fl) (L : List ByteArray) (v : World) : Prop where
  kw : KW w.heap.size w [(b, .cells (flr f) 24)] v
  at_ : StrAt v.heap.size v f.ha L
  n : f.hn = L.length
theorem FV.past {w v v' : World} {b : Nat} {f : Fl} {L : List ByteArray} (h : FV w b f L v) (hb : Below v.heap.size v v') : FV w b f L v' := ⟨h.kw.past hb, h.at_.on hb, h.n⟩
theorem FV.drew {w v : World} {b : Nat} {f : Fl} {L : List ByteArray} (h : FV w b f L v) : FV w b f L v.drew := h.past (Below.refl _ _).drew
theorem doR_valid (f : Fl) (L : List ByteArray) (o : Opv) (fl : Int) (hv : vlB f L = true) (hc : (doR f L o fl).2.2.2 = 0) (h6 : o.kind ≠ 6) :
    vlB (doR f L o fl).1 (doR f L o fl).2.1 = true ∧ (doR f L o fl).1.id = f.id ∧ (doR f L o fl).1.nm = f.nm := by
  unfold doR at hc ⊢
  by_cases h0 : (doneR f L o fl).2.2 = 0
  · rw [if_pos h0]; exact do_valid f L o fl hv h0 h6
  · rw [if_neg h0] at hc; exact absurd hc h0
theorem vl_same (f : Fl) (a : Option Addr) (n c : Nat) (L : List ByteArray) : vlB { f with ha := a, hn := n, hc := c } L = vlB f L := rfl
theorem new_code (i : Int) (s : ByteArray) : ((newF i s).2 = 2 ∧ (newF i s).1 = fl0) ∨ ((newF i s).2 = 1 ∧ (newF i s).1 = fl0) ∨ ((newF i s).2 = 0 ∧ (newF i s).1 = ⟨i, s, em, false, 0, none, 0, 0⟩ ∧ vlB (newF i s).1 [] = true) := by
  unfold newF
  by_cases h1 : vdB s = false
  · rw [if_pos h1]; exact .inl ⟨rfl, rfl⟩
  rw [if_neg h1]
  by_cases h2 : gvB i = false
  · rw [if_pos h2]; exact .inr (.inl ⟨rfl, rfl⟩)
  rw [if_neg h2]
  refine .inr (.inr ⟨rfl, rfl, (vl_iff _ _).2 ⟨by simpa using h2, by simpa using h1, by show em.size ≤ 600; decide, by show (0 : Int) ≤ 0; decide, by show (0 : Int) ≤ 1099511627776; decide, .inr ⟨rfl, rfl⟩, rfl⟩⟩)

theorem doR_mem (f : Fl) (L : List ByteArray) (o : Opv) (fl : Int) (z : ByteArray) (hz : z ∈ (doR f L o fl).2.1) : z ∈ L ∨ z = o.tx := by
  have h1 : z ∈ rmv o.tx L → z ∈ L := fun h => by
    unfold rmv at h
    split at h
    · exact (List.eraseIdx_sublist _ _).subset h
    · exact h
  have h2 : z ∈ hldL f.se o.tx L → z ∈ L ∨ z = o.tx := fun h => by
    unfold hldL at h
    split at h
    · rw [ins_at] at h
      rcases (ins_mem_iff _ _ _).1 h with h | h
      · exact .inr h
      · exact .inl h
    · exact .inl h
  unfold doR at hz
  split at hz
  · unfold doneR at hz
    repeat' split at hz
    all_goals first | exact .inl hz | exact h2 hz | exact .inl (h1 hz) | (exact absurd hz (by simp))
  · exact .inl hz

set_option maxHeartbeats 8000000 in
set_option maxRecDepth 100000 in
theorem walk (i : Int) (s : ByteArray) (l : List Opv) (p1 : Option Addr) (c1 : Nat) (w : World) (wi : (Lit.int .i64 i).wf = true) (ws : s.size ≤ maxLen) (hE : OpsAt w.heap.size w p1 l) (hO : ∀ o ∈ l, o.wf) (hm : l.length ≤ maxLen) :
    Calls Try.prog 9 #[.int .i64 i, .string s, .slice p1 l.length c1] w fun e w' => e = .returned (.bool true) ∧ Below w.heap.size w w' := by
  have hz := zero27
  have hz3 := zero33
  have EE := Lib.hid hE
  have OO := Lib.hid hO
  have hsz := Lib.hid ws
  unfold maxLen at hm
  have hnc := Lib.hid (new_code i s)
  have cn := Lib.hid (fun v => new_wide i s v ws)
  generalize newF i s = R0 at hnc cn
  obtain ⟨f0, k0⟩ := R0
  clear hE hO ws wi
  go_enter Try.func9, Try.ntmps9
  go_wp2_with fail
  refine (works_any _).mono ?_
  rintro e v1 ⟨rfl, hb⟩
  have K1 := Lib.hid ((KW.start w).past hb)
  clear hb
  go_wp2_with fail
  refine (cn.out _).mono ?_
  rintro e v2 ⟨rfl, hb⟩
  have K2 := Lib.hid (K1.out.past hb)
  have hn2 : Hid ((v2.alloc (.cells (flr fl0) 24)).heap[v2.heap.size]? = some (.cells (flr fl0) 24)) := Lib.hid (by rw [heap_alloc_if, if_pos rfl])
  have K3 := Lib.hid ((K2.out.new (.cells (flr fl0) 24)).row 0 rfl K2.out.size (flr f0))
  have hBf := Lib.hid K2.out.size
  clear hb K1 K2 cn
  rcases hnc.out with ⟨r1, r2⟩ | ⟨r1, r2⟩ | ⟨r1, r2, r3⟩
  · have r1' : k0 = 2 := r1
    subst r1'
    clear r1 r2 hnc
    go_wp2_with (refine wpList_store_row (by rfl) 24 (.tmp 8) (.tmp 22) rfl _ (flr f0) rfl rfl 24 _ hn2.out (row27 _) (flr_same _ _) (flr_one _) ?_)
    go_ret
    exact ⟨rfl, K3.out.bel⟩
  · have r1' : k0 = 1 := r1
    subst r1'
    clear r1 r2 hnc
    go_wp2_with (refine wpList_store_row (by rfl) 24 (.tmp 8) (.tmp 22) rfl _ (flr f0) rfl rfl 24 _ hn2.out (row27 _) (flr_same _ _) (flr_one _) ?_)
    go_ret
    exact ⟨rfl, K3.out.bel⟩
  have r1' : k0 = 0 := r1
  subst r1'
  have hv0 := Lib.hid r3
  have hf0 := Lib.hid r2
  clear r2 r3 hnc
  by_cases h20 : 20 < l.length
  · have t1 : decide ((20 : Int) < (l.length : Int)) = true := decide_eq_true (by omega)
    have t2 : (20 : Int) < (l.length : Int) := by omega
    clear hm h20
    generalize l.length = n2 at *
    go_wp2_with (refine wpList_store_row (by rfl) 24 (.tmp 8) (.tmp 22) rfl _ (flr f0) rfl rfl 24 _ hn2.out (row27 _) (flr_same _ _) (flr_one _) ?_)
    go_ret
    exact ⟨rfl, K3.out.bel⟩
  have t1 : decide ((20 : Int) < (l.length : Int)) = false := decide_eq_false (by omega)
  have t2 : ¬ (20 : Int) < (l.length : Int) := by omega
  have h20' : l.length ≤ 20 := by omega
  clear h20 hm
  go_wp2_with (refine wpList_store_row (by rfl) 24 (.tmp 8) (.tmp 22) rfl _ (flr f0) rfl rfl 24 _ hn2.out (row27 _) (flr_same _ _) (flr_one _) ?_)
  have st : Hid (FV w v2.heap.size f0 [] ((v2.alloc (.cells (flr fl0) 24)).setRow v2.heap.size (flr f0))) := Lib.hid ⟨K3.out, .inl rfl, by rw [hf0.out]; rfl⟩
  clear t1 t2 hn2 K3
  revert st
  generalize (v2.alloc (.cells (flr fl0) 24)).setRow v2.heap.size (flr f0) = V
  generalize v2.heap.size = bf at *
  intro st
  go_loopw [10] (fun j wr => ∃ (k : Nat) (g : Fl) (M : List ByteArray), k ≤ l.length ∧ j = .int .i64 (k : Int) ∧ Hid (FV w bf g M wr) ∧ Hid (vlB g M = true ∧ g.id = i ∧ g.nm = s ∧ M.length ≤ maxLen ∧ ∀ y ∈ M, y.size ≤ maxLen)) (fun j _ => l.length - (intOf j).toNat)
  case atStart => exact ⟨0, f0, [], Nat.zero_le _, rfl, st, Lib.hid ⟨hv0.out, by rw [hf0.out], by rw [hf0.out], by simp, by simp⟩⟩
  case round =>
    obtain ⟨k, g, M, hk, rfl, S, hg⟩ := hrel
    rename_i wr
    have hM5 : Hid (M.length ≤ 4 ∧ ∀ x ∈ M, x.size ≤ 1099511627776 ∨ True) := Lib.hid ⟨((tog_iff M).1 ((vl_iff g M).1 hg.out.1).2.2.2.2.2.2).1, fun _ _ => .inr trivial⟩
    by_cases hlt : k < l.length
    · have hlt' : (k : Int) < (l.length : Int) := by omega
      have hlt2 : decide (k < l.length) = true := by simpa using hlt
      rcases EE.out with h0 | ⟨b1, o1, rfl, l1, hc1⟩
      · rw [h0] at hlt; simp at hlt
      have hR := Lib.hid (fun (u : World) (hu : Below w.heap.size w u) => load_op b1 (o1 + k * 6) l[k] u (rangeAt_past (hc1 k hlt) hu l1))
      have hQ0 := Lib.hid (fun (u : World) (hu : Below w.heap.size w u) => (rangeAt_past (hc1 k hlt) hu l1 0 (.int .i64 l[k].kind) rfl : u.cell? ⟨b1, o1 + k * 6 + 0, none⟩ = some (.int .i64 l[k].kind)))
      have wo := Lib.hid (OO.out l[k] (List.getElem_mem hlt))
      clear hc1
      generalize l[k] = o at *
      simp only [Nat.add_zero] at hQ0
      have cf := Lib.hid (fun (u : World) (hu : FV w bf g M u) => fewo_any g o M u hu.at_ hu.n hg.out.2.2.2.1)
      go_upto_region 10 with fail
      refine wp_region_class (FV w bf g M) (by kernel_rfl) (by kernel_rfl) S.out.drew ?_
      refine wpQuiet_load (by rfl) 24 (.tmp 8) rfl _ rfl 24 (flr g) _ (fun u hu => hu.kw.at 0 rfl) Try.underlying24 rfl (row27 _) ?_
      simp only [Act.put, List.setIfInBounds_toArray, List.set_cons_zero, List.set_cons_succ]
      refine wpQuiet_move (by rfl) _ (.inl rfl) (.slice (some ⟨b1, o1, none⟩) l.length c1) rfl ?_
      simp only [Act.put, List.setIfInBounds_toArray, List.set_cons_zero, List.set_cons_succ]
      refine wpQuiet_move (by rfl) _ (.inl rfl) (.int .i64 (k : Int)) rfl ?_
      simp only [Act.put, List.setIfInBounds_toArray, List.set_cons_zero, List.set_cons_succ]
      refine wpQuiet_index (by rfl) 47 _ _ rfl _ _ rfl rfl _ (fun u => index47 b1 o1 l.length c1 k hlt u) ?_
      simp only [Act.put, List.setIfInBounds_toArray, List.set_cons_zero, List.set_cons_succ]
      refine wpQuiet_mid (by rfl) 27 _ rfl b1 (o1 + k * 6) rfl (.agg (opr o)) (fun u hu => hR.out u hu.kw.bel) ?_
      simp only [Act.put, List.setIfInBounds_toArray, List.set_cons_zero, List.set_cons_succ]
      refine wpQuiet_call2 (by rfl) 11 (.tmp 50) (.tmp 54) _ rfl ent11 _ _ rfl rfl (.bool (foB g M o)) (fun u hu => (cf.out u hu).mono (fun e u' he => ⟨he.1, hu.past he.2⟩)) ?_
      simp only [Act.put, List.setIfInBounds_toArray, List.set_cons_zero, List.set_cons_succ]
      refine wpQuiet_move (by rfl) _ (.inr rfl) (.bool (foB g M o)) rfl ?_
      simp only [Act.put, List.setIfInBounds_toArray, List.set_cons_zero, List.set_cons_succ]
      refine wpQuiet_nil ?_
      intro x hx
      have S1 := Lib.hid hx
      clear hx S cf
      cases hfo : foB g M o with
      | false =>
        go_wp2_with fail
        go_ret
        exact ⟨rfl, S1.out.kw.bel⟩
      | true =>
        have hfb : Hid (M.length ≤ 200 ∧ (∀ x ∈ M, x.size ≤ 200) ∧ g.da.size ≤ 2000 ∧ o.tx.size ≤ 700 ∧ g.nm.size ≤ 200) := Lib.hid (by
          unfold foB at hfo
          simp only [Bool.and_eq_true, decide_eq_true_eq] at hfo
          have := fewB_true hfo.1
          exact ⟨this.1, this.2.1, this.2.2.1, hfo.2.1, this.2.2.2⟩)
        clear hfo
        go_upto_region 13 with fail
        have hds := Lib.hid (doR_valid g M o 0 hg.out.1)
        have hrow := Lib.hid (doR_rows g M o 0)
        have hmem := Lib.hid (doR_mem g M o 0)
        have hcl := Lib.hid (fun (u : World) (hu : FV w bf g M u) (hN : x.heap.size ≤ u.heap.size) => do_calls x.heap.size g o 0 M u hN hu.at_ hu.n (by have := hfb.out.1; omega) (fun y hy => by have := hfb.out.2.1 y hy; omega) (by have := hfb.out.2.2.1; omega) (by have := hfb.out.2.2.2.1; omega))
        refine wp_region_do (P := Try.prog) 5 [.agg (flr g), .slice (some ⟨b1, o1, none⟩) l.length c1, .int .i64 (k : Int), .pointer (some ⟨b1, o1 + k * 6, none⟩), .agg (opr o)] 12 _ _ #[.agg (flr g), .agg (opr o), .int .i64 0] 65 59 66 67 68 12 13 14 24 33 (flr fl0) (evr ev0) (DoΦ x.heap.size (doR g M o 0)) (by kernel_rfl) (by kernel_rfl) rfl rfl (DoΦ.keep _ _) ?head _ _ _ _ _ _ _ _ _ _ rfl rfl rfl rfl rfl rfl rfl rfl rfl rfl rfl rfl rfl rfl rfl rfl rfl rfl rfl rfl rfl rfl rfl rfl rfl rfl rfl rfl rfl rfl (by kernel_rfl) (by kernel_rfl) (by kernel_rfl) (by kernel_rfl) (by kernel_rfl) (by kernel_rfl) (by kernel_rfl) (by kernel_rfl) (by kernel_rfl) ent12 ?args (fun u hB => hcl.out u (S1.out.past hB) hB.size) zero27 zero33 ?fin
        case head =>
          intro j oj vj ho hv a u hk hb hB
          have hu := S1.out.past hB
          match j, ho, hv with
          | 0, ho, hv =>
            obtain rfl := Option.some.inj ho
            obtain rfl := Option.some.inj hv
            exact x_load_row 24 (.tmp 8) rfl bf (eval_tmp ((hb 8 (by kernel_rfl)).trans rfl)) 24 (flr g) _ (hu.kw.at 0 rfl) Try.underlying24 rfl (row27 _)
          | 1, ho, hv =>
            obtain rfl := Option.some.inj ho
            obtain rfl := Option.some.inj hv
            exact x_move (.tmp 2) (.inl rfl) _ (eval_tmp ((hb 2 (by kernel_rfl)).trans rfl))
          | 2, ho, hv =>
            obtain rfl := Option.some.inj ho
            obtain rfl := Option.some.inj hv
            exact x_move (.tmp 10) (.inl rfl) _ (eval_tmp ((hb 10 (by kernel_rfl)).trans rfl))
          | 3, ho, hv =>
            obtain rfl := Option.some.inj ho
            obtain rfl := Option.some.inj hv
            exact x_index 47 (.tmp 61) (.tmp 62) rfl _ _ _ (eval_tmp (hk 1 _ 61 _ (by kernel_rfl) rfl rfl rfl)) (eval_tmp (hk 2 _ 62 _ (by kernel_rfl) rfl rfl rfl)) (index47 b1 o1 l.length c1 k hlt u)
          | 4, ho, hv =>
            obtain rfl := Option.some.inj ho
            obtain rfl := Option.some.inj hv
            exact x_load 27 (.tmp 63) rfl _ _ (eval_tmp (hk 3 _ 63 _ (by kernel_rfl) rfl rfl rfl)) (hR.out u hu.kw.bel)
          | j + 5, ho, hv => simp at hv
        case args =>
          intro a hk hb
          have e1 := eval_tmp (hk 0 _ 60 _ (by kernel_rfl) rfl rfl rfl)
          have e2 := eval_tmp (hk 4 _ 64 _ (by kernel_rfl) rfl rfl rfl)
          simp only [List.map_toArray, List.map_cons, List.map_nil, e1, e2]
          rfl
        case fin =>
          rintro x1 y1 z1 lo hi bA bB u hB ⟨a', c', rfl, rfl, rfl, hfr, hlo⟩ hhi hA hBb nA nB nab aA aB
          have S4 := Lib.hid (S1.out.past hB)
          have hs3 := Lib.hid (S1.out.kw.lt 0 rfl)
          generalize doR g M o 0 = R at *
          obtain ⟨G, M2, E, code⟩ := R
          dsimp only at hfr hA hBb
          have hG := hds.out
          dsimp only at hG
          have KK := Lib.hid (((S4.out.kw.know bA _ hA (by have := hs3.out; simp; omega)).know bB _ hBb (by have := hs3.out; simp; omega)))
          have K5 : Hid (KW w.heap.size w [(bf, .cells (flr { G with ha := a', hn := M2.length, hc := c' }) 24)] (u.setRow bf (flr { G with ha := a', hn := M2.length, hc := c' }))) := Lib.hid (S4.out.kw.row 0 rfl hBf.out _)
          have f5 : Hid (StrAt (u.setRow bf (flr { G with ha := a', hn := M2.length, hc := c' })).heap.size (u.setRow bf (flr { G with ha := a', hn := M2.length, hc := c' })) a' M2) := Lib.hid ((hfr.keep (v := u.setRow bf (flr { G with ha := a', hn := M2.length, hc := c' })) (fun b h1 _ => setRow_other _ _ _ _ (by have := hs3.out; omega))).str (by rw [size_setRow]; exact hhi))
          have q0 := hQ0.out u S4.out.kw.bel
          have hMs : Hid (∀ y ∈ M2, y.size ≤ maxLen) := Lib.hid (fun y hy => by
            rcases hmem.out y hy with q | q
            · exact hg.out.2.2.2.2 y q
            · rw [q]; exact wo.out.tx)
          have hM2 : Hid (M2.length ≤ maxLen) := Lib.hid (by have h1 := hrow.out; have h2 := hfb.out.1; dsimp only at h1; unfold maxLen; omega)
          clear hfr hA hBb hB hds hrow hcl hmem nA nB nab aA aB hlo hhi S1
          simp only [putAll, List.cons_append, List.nil_append, List.getD_cons_zero, List.getD_cons_succ, Nat.zero_add, Nat.reduceAdd]
          simp only [Act.put, List.setIfInBounds_toArray, List.set_cons_zero, List.set_cons_succ]
          by_cases hc : code = 0 ∧ o.kind ≠ 6
          · obtain ⟨rfl, h6⟩ := hc
            have t1 : ((0 : Int) == 0) = true := rfl
            have t6 : (o.kind == 6) = false := by simpa using h6
            have t7 : (o.kind != 6) = true := by simpa using h6
            have hv2 := Lib.hid (hG rfl h6)
            have S6 : Hid (FV w bf { G with ha := a', hn := M2.length, hc := c' } M2 (u.setRow bf (flr { G with ha := a', hn := M2.length, hc := c' }))) := Lib.hid ⟨K5.out, f5.out, rfl⟩
            have hi6 : Hid (vlB { G with ha := a', hn := M2.length, hc := c' } M2 = true ∧ ({ G with ha := a', hn := M2.length, hc := c' }).id = i ∧ ({ G with ha := a', hn := M2.length, hc := c' }).nm = s ∧ M2.length ≤ maxLen ∧ ∀ y ∈ M2, y.size ≤ maxLen) := Lib.hid ⟨hv2.out.1, hv2.out.2.1.trans hg.out.2.1, hv2.out.2.2.trans hg.out.2.2.1, hM2.out, hMs.out⟩
            have cvl := Lib.hid (fun (v : World) (hv : FV w bf { G with ha := a', hn := M2.length, hc := c' } M2 v) => validf_wide { G with ha := a', hn := M2.length, hc := c' } M2 v hv.at_ hv.n hM2.out hMs.out (by rw [hi6.out.2.2.1]; exact hsz.out))
            rw [hi6.out.1] at cvl
            clear hG h6 hv2 K5 f5
            go_wp2_with (first
              | (refine wpList_load_row (by rfl) 24 (.tmp 12) rfl _ rfl 24 _ _ (KK.out.at 1 rfl) Try.underlying24 rfl (row27 _) ?_)
              | (refine wpList_store_row (by rfl) 24 (.tmp 8) (.tmp 79) rfl _ (flr { G with ha := a', hn := M2.length, hc := c' }) rfl rfl 24 _ (S4.out.kw.at 0 rfl) (row27 _) (flr_same _ _) (flr_one _) ?_)
              | (refine wpList_load_row (by rfl) 24 (.tmp 8) rfl _ rfl 24 _ _ (S6.out.kw.at 0 rfl) Try.underlying24 rfl (row27 _) ?_))
            refine (cvl.out _ S6.out).mono ?_
            rintro e v7 ⟨rfl, hb⟩
            have S7 := Lib.hid (S6.out.past hb)
            clear hb S6 cvl KK
            go_wp2_with fail
            go_roundw
            case rel => exact ⟨k + 1, { G with ha := a', hn := M2.length, hc := c' }, M2, by omega, by go_num, S7, hi6⟩
            case measure => simp [intOf]; omega
          · have cvl := Lib.hid (fun (v : World) (hv : FV w bf g M v) => validf_wide g M v hv.at_ hv.n hg.out.2.2.2.1 hg.out.2.2.2.2 (by rw [hg.out.2.2.1]; exact hsz.out))
            rw [hg.out.1] at cvl
            clear hG K5 f5
            by_cases h0 : code = 0
            · subst h0
              have t1 : ((0 : Int) == 0) = true := rfl
              have h6 : o.kind = 6 := by
                rcases Classical.em (o.kind = 6) with q | q
                · exact q
                · exact absurd ⟨rfl, q⟩ hc
              have t6 : (o.kind == 6) = true := by simpa using h6
              have t7 : (o.kind != 6) = false := by simpa using h6
              clear hc h6
              go_wp2_with (refine wpList_load_row (by rfl) 24 (.tmp 8) rfl _ rfl 24 _ _ (S4.out.kw.at 0 rfl) Try.underlying24 rfl (row27 _) ?_)
              refine (cvl.out _ S4.out).mono ?_
              rintro e v7 ⟨rfl, hb⟩
              have S7 := Lib.hid (S4.out.past hb)
              clear hb S4 cvl KK
              go_wp2_with fail
              go_roundw
              case rel => exact ⟨k + 1, g, M, by omega, by go_num, S7, hg⟩
              case measure => simp [intOf]; omega
            · have t1 : (code == 0) = false := by simpa using h0
              clear hc h0
              go_wp2_with (refine wpList_load_row (by rfl) 24 (.tmp 8) rfl _ rfl 24 _ _ (S4.out.kw.at 0 rfl) Try.underlying24 rfl (row27 _) ?_)
              refine (cvl.out _ S4.out).mono ?_
              rintro e v7 ⟨rfl, hb⟩
              have S7 := Lib.hid (S4.out.past hb)
              clear hb S4 cvl KK
              go_wp2_with fail
              go_roundw
              case rel => exact ⟨k + 1, g, M, by omega, by go_num, S7, hg⟩
              case measure => simp [intOf]; omega
    · obtain rfl : k = l.length := by omega
      have hlt' : ¬ (l.length : Int) < (l.length : Int) := by omega
      have hlt2 : decide (l.length < l.length) = false := by simp
      have cvl := Lib.hid (fun (v : World) (hv : FV w bf g M v) => validf_wide g M v hv.at_ hv.n hg.out.2.2.2.1 hg.out.2.2.2.2 (by rw [hg.out.2.2.1]; exact hsz.out))
      rw [hg.out.1] at cvl
      go_wp2_with (refine wpList_load_row_g (by with_unfolding_all rfl) 24 (.tmp 8) rfl _ rfl 24 _ _ (S.out.kw.at 0 rfl) Try.underlying24 rfl (row27 _) ?_)
      refine (cvl.out _ S.out).mono ?_
      rintro e v7 ⟨rfl, hb⟩
      have S7 := Lib.hid (S.out.past hb)
      have i0 := S7.out.kw.cell 0 rfl 0 (y := .int .i64 i) (by unfold flr; rw [hg.out.2.1]; rfl)
      have i1 := S7.out.kw.cell 0 rfl 1 (y := .string s) (by unfold flr; rw [hg.out.2.2.1]; rfl)
      clear hb S cvl
      go_wp2_with fail
      go_ret
      exact ⟨by simp, S7.out.kw.bel⟩

set_option maxRecDepth 100000 in
theorem lifted (os : Os) (started : os.Started) (H : Type) (enc : TypeId × Value → H) :
    ReturnsInHanded {} Try.checked os 9 .any (Rows.fileValidSpec.pre6 enc Try.prog Try.f9 Rows.fileValidRow.domain false) (Rows.fileValidSpec.post enc Try.prog Try.f9 false true false false) := by
  refine returnsInHanded_of_change (C := Try.checked) own started (by kernel_rfl) Try.func9
    (ChangeSpec.witness6 (enc := enc) (C := Try.checked) false ⟨#[], #[.int .i64 0, .string ByteArray.empty, .slice none 0 0], []⟩ 8 (by kernel_rfl) (by kernel_rfl) (by kernel_rfl) (by kernel_rfl)) ?_
  intro W base args ds gs before hval0 hW hcnd _
  have hval : ∀ (j : Nat) t v, Try.f9.params[j]? = some t → args[j]? = some v → Value.okWide Try.prog W .any base t v := hval0
  have hW' := hW
  obtain ⟨p, q, hA0, hV, rfl, hfz, hnd⟩ := hW
  have hA : DataW.TrodAll enc Try.prog W 0 (fun _ => true) true Try.f9.params.toList args.toList ds p := hA0
  rw [Try.params9] at hA hval
  obtain ⟨v0, vs0, d0, ds0, p0, q0, hargs, rfl, rfl, h0, r0⟩ := trodAll_cons hA
  obtain ⟨v1, vs1, d1, ds1, p1, q1, rfl, rfl, rfl, h1, r1⟩ := trodAll_cons r0
  obtain ⟨v2, vs2, d2, ds2, p2, q2, rfl, rfl, rfl, h2, r2⟩ := trodAll_cons r1
  obtain ⟨rfl, rfl, rfl⟩ := trodAll_nil r2
  obtain rfl : args = #[v0, v1, v2] := by cases args; simp_all
  obtain ⟨rfl, rfl⟩ := trodVars_none hV
  obtain ⟨a0, rfl, rfl, rfl, w0⟩ := open_int Try.underlying3 (hval 0 3 v0 rfl rfl) h0
  obtain ⟨a1, rfl, rfl, rfl, w1⟩ := open_string Try.underlying9 (hval 1 9 v1 rfl rfl) h1
  have k2 := h2
  have lt2 : ∀ x ∈ p2, x.block < W.heap.size := by obtain ⟨m, hm⟩ := k2; exact DataW.trod_lt m _ _ _ hm
  obtain ⟨a2, len2, cap2, rfl⟩ := okWide_slice Try.underlying47 (hval 2 47 v2 rfl rfl)
  obtain ⟨fuel2, hf2⟩ := h2
  obtain ⟨a, c, L2, hcs2, E2, wf2, mx2⟩ := open_ops (cs := [Value.slice a2 len2 cap2]) hf2
  simp only [List.cons.injEq, Value.slice.injEq, and_true] at hcs2
  obtain ⟨rfl, rfl, rfl⟩ := hcs2
  clear hA0 hval0
  refine (walk a0 a1 L2 a2 cap2 W w0 w1 E2 wf2 mx2).mono fun e W' ⟨he, bel⟩ => ?_
  subst he
  exact ⟨_, rfl, _, _, _, [], _, [], hW', trodAll_mk1 (shut_bool Try.underlying4 _), (trodAll_cons_mk (shut_int Try.underlying3 w0) (trodAll_cons_mk (shut_string Try.underlying9 w1) (trodAll_cons_mk (Below.trod laidOut (by kernel_rfl) (of_decide_eq_true (by kernel_rfl)) k2 bel lt2) trodAll_mk0))), rfl, bel.frame _, fun h => by cases h⟩

theorem over : Rows.fileValidRow.holds Try.pinned (OpenSpec.ofChange Rows.fileValidSpec) :=
  OpenClaim.holds_of_wide 9 Try.f9 rfl rfl rfl rfl rfl rfl rfl ⟨rfl, rfl, rfl, rfl, rfl⟩ rfl rfl rfl rfl rfl (by kernel_rfl) Try.func9 (by kernel_rfl)
    (of_decide_eq_true (by kernel_rfl)) (by unfold Func.isWrapper; first | (rw [if_pos (by decide +kernel)]; kernel_rfl) | (rw [if_neg (by decide +kernel)]; exact ⟨rfl, rfl⟩))
    (fun os started H enc _ => lifted os started H enc)

/-- The given statement. -/
theorem fileValid_proved : Rows.FileValidSaid :=
  over
#print axioms fileValid_proved
end Go.Proofs.Ytphbkbjgjicncaa.fileValid
