/-
  For every file, and every label, RuleHolds returns true: a hold that is placed, and released, leaves a file as it was; holds stand in order, each once, where they did.
  Conditions: none beyond the given statement's own.
-/
import Derived.Test.YtjfgmkgcdkocgaaRows
import Derived.Test.YtjfgmkgcdkocgaaWorks
import Derived.Test.YtjfgmkgcdkocgaaOpens
import Derived.Test.YtjfgmkgcdkocgaaFew
import Derived.Test.YtjfgmkgcdkocgaaSame
import Derived.WalkKit
import Derived.ProofKit
import Derived.OpenShut
import Derived.ShutString
import Derived.ChangeOld
import Derived.Below
namespace Go.Proofs.Ytjfgmkgcdkocgaa.ruleHolds
open Go.ChangeShapes Go.WideShapes Go.ChangeAt Go.RowKit
open Go.ChangeMaps (open_string shut_string)
set_option linter.unusedVariables false

theorem own : ownKnob Try.prog.godebug = none := by kernel_rfl
theorem laidOut : laidOutB Try.prog = true := by kernel_rfl

theorem hold_code (se : Bool) (x : ByteArray) (L : List ByteArray) : (hldC se x L = 0 ∧ se = true ∧ vdB x = true ∧ Lib.containsS L x = false ∧ L.length < 4) ∨ (hldC se x L ≠ 0 ∧ hldL se x L = L) := by
  unfold hldL
  by_cases h : hldC se x L = 0
  · left
    refine ⟨h, ?_⟩
    unfold hldC at h
    split at h
    · cases h
    · rename_i h1
      split at h
      · cases h
      · rename_i h2
        split at h
        · cases h
        · rename_i h3
          split at h
          · cases h
          · rename_i h4
            exact ⟨by simpa using h1, by simpa using h2, by simpa using h3, by omega⟩
  · right
    exact ⟨h, by rw [if_neg h]⟩
theorem hold_in (x : ByteArray) (L : List ByteArray) (h1 : vdB x = true) (h2 : x ∈ L) : hldC true x L = 4 := by
  unfold hldC
  rw [h1, (Lib.containsS_iff L x).2 h2]
  rfl
/-- How many times x stands in a row. -/
def cnt (x : ByteArray) : List ByteArray → Nat
  | [] => 0
  | y :: l => (if y = x then 1 else 0) + cnt x l
theorem cnt_app (x : ByteArray) (a b : List ByteArray) : cnt x (a ++ b) = cnt x a + cnt x b := by
  induction a with
  | nil => simp [cnt]
  | cons y l ih => simp only [List.cons_append, cnt, ih]; omega
theorem cnt_none (x : ByteArray) (a : List ByteArray) (h : x ∉ a) : cnt x a = 0 := by
  induction a with
  | nil => rfl
  | cons y l ih =>
    have h1 : y ≠ x := fun e => h (by rw [e]; simp)
    simp only [cnt, if_neg h1, ih (fun q => h (by simp [q]))]
theorem not_in (x : ByteArray) (L : List ByteArray) (h : Lib.containsS L x = false) : x ∉ L := fun q => by
  rw [(Lib.containsS_iff L x).2 q] at h; cases h
theorem ins_cnt (x : ByteArray) (k : Nat) (L : List ByteArray) (h : x ∉ L) : cnt x (insAt x k L) = 1 := by
  unfold insAt
  rw [cnt_app, cnt_none x _ (fun q => h (List.mem_of_mem_take q))]
  simp only [cnt, cnt_none x _ (fun q => h (List.mem_of_mem_drop q)), if_pos]
theorem ins_mem (x : ByteArray) (k : Nat) (L : List ByteArray) : x ∈ insAt x k L := by unfold insAt; simp
theorem ins_idx (x : ByteArray) (k : Nat) (L : List ByteArray) (hk : k ≤ L.length) (h : x ∉ L) : Lib.idxOfS (insAt x k L) x = (k : Int) := by
  rcases idx_cases (insAt x k L) x with ⟨h1, _⟩ | ⟨j, hj, h2, h3, h4⟩
  · exact absurd (ins_mem x k L) h1
  rw [h2]
  have e : j = k := by
    rw [insAt_at x k L hk] at h3
    by_cases q : j < k
    · rw [if_pos q] at h3; exact absurd (List.mem_of_getElem? h3) h
    rw [if_neg q] at h3
    by_cases q2 : j = k
    · exact q2
    · rw [if_neg q2] at h3; exact absurd (List.mem_of_getElem? h3) h
  rw [e]
theorem ins_rmv (x : ByteArray) (k : Nat) (L : List ByteArray) (hk : k ≤ L.length) (h : x ∉ L) : rmv x (insAt x k L) = L ∧ rlC x (insAt x k L) = 0 := by
  have hi := ins_idx x k L hk h
  unfold rmv rlC
  rw [hi, if_pos (by omega), if_pos (by omega)]
  refine ⟨?_, rfl⟩
  rw [Int.toNat_natCast]
  unfold insAt
  have hl : (L.take k).length = k := by simp; omega
  rw [List.eraseIdx_append_of_length_le (by omega), hl, Nat.sub_self, List.eraseIdx_cons_zero, List.take_append_drop]
theorem hold_fl (F : Fl) (x : ByteArray) (L : List ByteArray) (v : World) (h : StrAt v.heap.size v F.ha L) (hn : F.hn = L.length) (hL : L.length ≤ 1000) (hs : ∀ y ∈ L, y.size ≤ 1099511627776) (hx : x.size ≤ 1099511627776) (L' : List ByteArray) (c : Int) (e1 : hldC F.se x L = c) (e2 : hldL F.se x L = L') :
    Calls Try.prog 21 #[.agg (flr F), .string x] v fun e v' => ∃ X : Fl, e = .returned (.tuple #[.agg (flr X), .int .i64 c]) ∧ (X.id = F.id ∧ X.nm = F.nm ∧ X.da = F.da ∧ X.se = F.se ∧ X.un = F.un ∧ X.hn = L'.length) ∧ StrAt v'.heap.size v' X.ha L' ∧ Below v.heap.size v v' := by
  refine (hold_any F x L v h hn hL hs hx).mono ?_
  rw [e1, e2]
  rintro e v' ⟨a, c, rfl, hs, hb⟩
  exact ⟨_, rfl, ⟨rfl, rfl, rfl, rfl, rfl, rfl⟩, hs.str, hb⟩
theorem rel_fl (F : Fl) (x : ByteArray) (L : List ByteArray) (v : World) (h : StrAt v.heap.size v F.ha L) (hn : F.hn = L.length) (hL : L.length ≤ 1000) (L' : List ByteArray) (c : Int) (e1 : rlC x L = c) (e2 : rmv x L = L') :
    Calls Try.prog 22 #[.agg (flr F), .string x] v fun e v' => ∃ X : Fl, e = .returned (.tuple #[.agg (flr X), .int .i64 c]) ∧ (X.id = F.id ∧ X.nm = F.nm ∧ X.da = F.da ∧ X.se = F.se ∧ X.un = F.un ∧ X.hn = L'.length) ∧ StrAt v'.heap.size v' X.ha L' ∧ Below v.heap.size v v' := by
  refine (release_any F x L v h hn hL).mono ?_
  rw [e1, e2]
  rintro e v' ⟨a, c, rfl, hs, hb⟩
  exact ⟨_, rfl, ⟨rfl, rfl, rfl, rfl, rfl, rfl⟩, hs.str, hb⟩
theorem cnt_take (x : ByteArray) (L : List ByteArray) (k : Nat) (h : k < L.length) : cnt x (L.take (k + 1)) = cnt x (L.take k) + if L[k] = x then 1 else 0 := by
  rw [List.take_succ_eq_append_getElem h, cnt_app]; simp [cnt]
theorem cnt_le (x : ByteArray) (L : List ByteArray) : cnt x L ≤ L.length := by
  induction L with
  | nil => exact Nat.le_refl _
  | cons y l ih => simp only [cnt, List.length_cons]; split <;> omega
theorem ba_beq (a b : ByteArray) : (a.toList == b.toList) = decide (a = b) := by
  have key : a.toList = b.toList ↔ a = b := by
    constructor
    · intro h
      have ha : a = ⟨a.data.toList.toArray⟩ := by simp
      have hb : b = ⟨b.data.toList.toArray⟩ := by simp
      have h2 : a.data.toList = b.data.toList := by
        rw [ha, hb, ByteArray.toList_mk, ByteArray.toList_mk] at h
        exact h
      rw [ha, hb, h2]
    · intro h; rw [h]
  rw [Bool.eq_iff_iff]
  simp [key]
set_option maxRecDepth 100000 in
set_option maxHeartbeats 4000000 in
theorem walk (f : Fl) (L : List ByteArray) (s : ByteArray) (w : World) (wf : f.wf w L) (w3 : s.size ≤ maxLen) :
    Calls Try.prog 6 #[.agg (flr f), .string s] w fun e w' => e = .returned (.bool true) ∧ Below w.heap.size w w' := by
  unfold maxLen at w3
  have K0 : Hid (KW w.heap.size w [(w.heap.size, .cells (flr f) 27)] (w.alloc (.cells (flr f) 27))) := Lib.hid ((KW.start w).new _)
  have hat : Hid (∀ v, Below w.heap.size w v → StrAt v.heap.size v f.ha L) := Lib.hid (fun v hb => wf.at_.on hb)
  have wn := Lib.hid wf.n
  have cw := Lib.hid (fun v (hb : Below w.heap.size w v) => few_any f L v (hat.out v hb) wf.n wf.m)
  have hz := zero27
  have hs64 : (s.size : Int) ≤ 9223372036854775807 := by omega
  clear wf
  cases hfew : fewB f L with
  | false =>
    rw [hfew] at cw
    clear hfew
    go_enter Try.func6, Try.ntmps6
    go_wp2_with fail
    refine (works_any _).mono ?_
    rintro e v1 ⟨rfl, b1⟩
    have K1 := Lib.hid (K0.out.past b1)
    have g1 : Hid (_ = some (Obj.cells (flr f) 27)) := Lib.hid (K1.out.at 0 rfl)
    clear b1
    go_wp2_with (with_reducible refine wpList_load_row rfl 27 (.tmp 2) rfl _ rfl 27 _ _ g1.out Try.underlying27 rfl (row27 _) ?_)
    refine (cw.out _ K1.out.bel).mono ?_
    rintro e v2 ⟨rfl, b2⟩
    have K2 := Lib.hid (K1.out.past b2)
    clear b2 K1 g1 K0
    go_wp2_with fail
    go_ret
    exact ⟨rfl, K2.out.bel⟩
  | true =>
    rw [hfew] at cw
    have hL := Lib.hid (fewB_true hfew)
    clear hfew
    by_cases hs : 200 < s.size
    · have t1 : decide ((200 : Int) < (s.size : Int)) = true := by simp; omega
      clear hs w3
      go_enter Try.func6, Try.ntmps6
      go_wp2_with fail
      refine (works_any _).mono ?_
      rintro e v1 ⟨rfl, b1⟩
      have K1 := Lib.hid (K0.out.past b1)
      have g1 : Hid (_ = some (Obj.cells (flr f) 27)) := Lib.hid (K1.out.at 0 rfl)
      clear b1
      go_wp2_with (with_reducible refine wpList_load_row rfl 27 (.tmp 2) rfl _ rfl 27 _ _ g1.out Try.underlying27 rfl (row27 _) ?_)
      refine (cw.out _ K1.out.bel).mono ?_
      rintro e v2 ⟨rfl, b2⟩
      have K2 := Lib.hid (K1.out.past b2)
      clear b2 K1 g1 K0
      go_wp2_with fail
      go_ret
      exact ⟨rfl, K2.out.bel⟩
    have t1 : decide ((200 : Int) < (s.size : Int)) = false := by simp; omega
    have hs40 : Hid (s.size ≤ 1099511627776) := Lib.hid (by omega)
    have hL2 : L.length ≤ 1000 := by have := hL.out.1; omega
    have hL3 : Hid (∀ y ∈ L, y.size ≤ 1099511627776) := Lib.hid (fun y hy => by have := hL.out.2.1 y hy; omega)
    have hL2' := Lib.hid hL2
    clear hs w3
    rcases hold_code f.se s L with ⟨hc0, hse, hvd, hct, hl4⟩ | ⟨hc, hl⟩
    rotate_left
    · obtain ⟨x, hx⟩ : ∃ x, hldC f.se s L = x := ⟨_, rfl⟩
      rw [hx] at hc
      have t2 : (x == 0) = false := by simpa using hc
      have t3 : (x != 0) = true := by simpa using hc
      have hx' := Lib.hid hx
      have hl' := Lib.hid hl
      clear hc hx hl hL2
      go_enter Try.func6, Try.ntmps6
      go_wp2_with fail
      refine (works_any _).mono ?_
      rintro e v1 ⟨rfl, b1⟩
      have K1 := Lib.hid (K0.out.past b1)
      have g1 : Hid (_ = some (Obj.cells (flr f) 27)) := Lib.hid (K1.out.at 0 rfl)
      clear b1
      go_wp2_with (with_reducible refine wpList_load_row rfl 27 (.tmp 2) rfl _ rfl 27 _ _ g1.out Try.underlying27 rfl (row27 _) ?_)
      refine (cw.out _ K1.out.bel).mono ?_
      rintro e v2 ⟨rfl, b2⟩
      have K2 := Lib.hid (K1.out.past b2)
      clear b2 K1 g1 K0
      have g3 : Hid (_ = some (Obj.cells (flr f) 27)) := Lib.hid (K2.out.at 0 rfl)
      go_wp2_with (with_reducible refine wpList_load_row rfl 27 (.tmp 2) rfl _ rfl 27 _ _ g3.out Try.underlying27 rfl (row27 _) ?_)
      refine (hold_fl f s L _ (hat.out _ K2.out.bel) wn.out hL2'.out hL3.out hs40.out L x hx'.out hl'.out).mono ?_
      rintro e v3 ⟨X, rfl, hX, sX, hb⟩
      have hX' := Lib.hid hX
      have sX0 := Lib.hid sX
      clear hX sX
      have K1_ := Lib.hid (K2.out.past hb)
      clear hb K2
      have q3 : Hid ((v3.alloc (.cells (flr fl0) 27)).heap[v3.heap.size]? = some (.cells (flr fl0) 27)) := Lib.hid (by rw [heap_alloc_if, if_pos rfl])
      have K2_ := Lib.hid (K1_.out.lay fl0 X)
      have sX2_ := Lib.hid (sX0.out.on (lay_below v3 fl0 X))
      clear K1_ sX0
      have g4 : Hid (_ = some (Obj.cells (flr X) 27)) := Lib.hid (K2_.out.at 0 rfl)
      have g5 : Hid (_ = some (Obj.cells (flr f) 27)) := Lib.hid (K2_.out.at 1 rfl)
      go_wp2_with (first
        | (with_reducible refine wpList_store_row rfl 27 (.tmp 7) (.tmp 32) rfl _ (flr X) rfl rfl 27 _ q3.out (row27 _) (flr_same _ _) (flr_one _) ?_)
        | (with_reducible refine wpList_load_row_g (by with_unfolding_all rfl) 27 (.tmp 2) rfl _ rfl 27 _ _ g5.out Try.underlying27 rfl (row27 _) ?_)
        | (with_reducible refine wpList_load_row_g (by with_unfolding_all rfl) 27 (.tmp 7) rfl _ rfl 27 _ _ g4.out Try.underlying27 rfl (row27 _) ?_))
      generalize v3.heap.size = b3 at *
      refine (same_true f X L _ (hat.out _ K2_.out.bel) sX2_.out hL2'.out hX'.out.1.symm hX'.out.2.1.symm hX'.out.2.2.1.symm hX'.out.2.2.2.1.symm hX'.out.2.2.2.2.1.symm wn.out hX'.out.2.2.2.2.2).mono ?_
      rintro e v4 ⟨rfl, hb⟩
      have K3_ := Lib.hid (K2_.out.past hb)
      have sX3_ := Lib.hid (sX2_.out.on hb)
      clear hb K2_ sX2_
      go_wp2_with fail
      go_ret
      exact ⟨rfl, K3_.out.bel⟩
    · have hni := not_in s L hct
      have hc0' := Lib.hid hc0
      obtain ⟨L2, hLL⟩ : ∃ L2, insAt s (plc s L) L = L2 := ⟨_, rfl⟩
      have hl2 : Hid (hldL f.se s L = L2) := Lib.hid (by unfold hldL; rw [hc0, if_pos rfl]; exact hLL)
      have hr : Hid (rmv s L2 = L ∧ rlC s L2 = 0) := Lib.hid (by rw [← hLL]; exact ins_rmv s _ L (plc_le s L) hni)
      have hcn : Hid (cnt s L2 = 1) := Lib.hid (by rw [← hLL]; exact ins_cnt s _ L hni)
      have hmem : Hid (hldC f.se s L2 = 4) := Lib.hid (by rw [hse]; exact hold_in s L2 hvd (by rw [← hLL]; exact ins_mem _ _ _))
      have hlen : L2.length = L.length + 1 := by rw [← hLL]; exact insAt_len _ _ _ (plc_le s L)
      have hlen' := Lib.hid hlen
      have h2L : L2.length ≤ 1000 := by omega
      have h2L' := Lib.hid h2L
      have h2s : Hid (∀ y ∈ L2, y.size ≤ 1099511627776) := Lib.hid (fun y hy => by
        rw [← hLL] at hy
        unfold insAt at hy
        rcases List.mem_append.1 hy with hy | hy
        · exact hL3.out y (List.mem_of_mem_take hy)
        · rcases List.mem_cons.1 hy with rfl | hy
          · exact hs40.out
          · exact hL3.out y (List.mem_of_mem_drop hy))
      clear hc0 hse hvd hct hl4 hni hLL hL2 hlen
      go_enter Try.func6, Try.ntmps6
      go_wp2_with fail
      refine (works_any _).mono ?_
      rintro e v1 ⟨rfl, b1⟩
      have K1 := Lib.hid (K0.out.past b1)
      have g1 : Hid (_ = some (Obj.cells (flr f) 27)) := Lib.hid (K1.out.at 0 rfl)
      clear b1
      go_wp2_with (with_reducible refine wpList_load_row rfl 27 (.tmp 2) rfl _ rfl 27 _ _ g1.out Try.underlying27 rfl (row27 _) ?_)
      refine (cw.out _ K1.out.bel).mono ?_
      rintro e v2 ⟨rfl, b2⟩
      have K2 := Lib.hid (K1.out.past b2)
      clear b2 K1 g1 K0
      have g3 : Hid (_ = some (Obj.cells (flr f) 27)) := Lib.hid (K2.out.at 0 rfl)
      go_wp2_with (with_reducible refine wpList_load_row rfl 27 (.tmp 2) rfl _ rfl 27 _ _ g3.out Try.underlying27 rfl (row27 _) ?_)
      refine (hold_fl f s L _ (hat.out _ K2.out.bel) wn.out hL2'.out hL3.out hs40.out L2 0 hc0'.out hl2.out).mono ?_
      rintro e v3 ⟨G, rfl, hG, sG, hb⟩
      have hG' := Lib.hid hG
      have sG0 := Lib.hid sG
      clear hG sG
      have K1_ := Lib.hid (K2.out.past hb)
      clear hb K2
      have q3 : Hid ((v3.alloc (.cells (flr fl0) 27)).heap[v3.heap.size]? = some (.cells (flr fl0) 27)) := Lib.hid (by rw [heap_alloc_if, if_pos rfl])
      have K2_ := Lib.hid (K1_.out.lay fl0 G)
      have sG2_ := Lib.hid (sG0.out.on (lay_below v3 fl0 G))
      clear K1_ sG0
      have g4 : Hid (_ = some (Obj.cells (flr G) 27)) := Lib.hid (K2_.out.at 0 rfl)
      go_wp2_with (first
        | (with_reducible refine wpList_store_row rfl 27 (.tmp 7) (.tmp 32) rfl _ (flr G) rfl rfl 27 _ q3.out (row27 _) (flr_same _ _) (flr_one _) ?_)
        | (with_reducible refine wpList_load_row rfl 27 (.tmp 7) rfl _ rfl 27 _ _ g4.out Try.underlying27 rfl (row27 _) ?_))
      generalize v3.heap.size = b3 at *
      refine (rel_fl G s L2 _ sG2_.out hG'.out.2.2.2.2.2 h2L'.out L 0 hr.out.2 hr.out.1).mono ?_
      rintro e v4 ⟨H, rfl, hH, sH, hb⟩
      have hH' := Lib.hid hH
      have sH0 := Lib.hid sH
      clear hH sH
      have K3_ := Lib.hid (K2_.out.past hb)
      have sG3_ := Lib.hid (sG2_.out.on hb)
      clear hb K2_ sG2_
      have q4 : Hid ((v4.alloc (.cells (flr fl0) 27)).heap[v4.heap.size]? = some (.cells (flr fl0) 27)) := Lib.hid (by rw [heap_alloc_if, if_pos rfl])
      have K4_ := Lib.hid (K3_.out.lay fl0 H)
      have sG4_ := Lib.hid (sG3_.out.on (lay_below v4 fl0 H))
      have sH4_ := Lib.hid (sH0.out.on (lay_below v4 fl0 H))
      clear K3_ sG3_ sH0
      have cG : Hid (flr G = #[.int .i64 G.id, .string G.nm, .string G.da, .bool G.se, .int .i64 G.un, .slice G.ha L2.length G.hc]) := Lib.hid (by unfold flr; rw [hG'.out.2.2.2.2.2])
      have cG5 : Hid (((v4.alloc (.cells (flr fl0) 27)).setRow v4.heap.size (flr H)).cell? ⟨b3, 5, none⟩ = some (.slice G.ha L2.length G.hc)) := Lib.hid (by have := K4_.out.cell 1 rfl 5 (y := .slice G.ha G.hn G.hc) rfl; rw [hG'.out.2.2.2.2.2] at this; exact this)
      have cG5' := cG5.out
      go_wp2_with (with_reducible refine wpList_store_row rfl 27 (.tmp 9) (.tmp 46) rfl _ (flr H) rfl rfl 27 _ q4.out (row27 _) (flr_same _ _) (flr_one _) ?_)
      generalize (v4.alloc (.cells (flr fl0) 27)).setRow v4.heap.size (flr H) = V at *
      generalize v4.heap.size = b4 at *
      go_loop [11, 12] (fun n i => ∃ k : Nat, k ≤ L2.length ∧ i = .int .i64 (k : Int) ∧ n = .int .i64 (cnt s (L2.take k) : Int)) (fun _ i => L2.length - (intOf i).toNat)
      case atStart => exact ⟨0, Nat.zero_le _, rfl, rfl⟩
      case round =>
        obtain ⟨k, hk, rfl, rfl⟩ := hrel
        by_cases hlt : k < L2.length
        · have hlt' : (k : Int) < (L2.length : Int) := by omega
          have hlt2 : decide (k < L2.length) = true := by simpa using hlt
          rcases sG4_.out with h0 | ⟨bg, og, hga, _, hcs⟩
          · rw [h0] at hlt; simp at hlt
          rw [hga] at cG5'
          have hck := hcs k hlt
          have hct := cnt_take s L2 k hlt
          have hcl : cnt s (L2.take k) ≤ 1000 := by have := cnt_le s (L2.take k); have h2 := List.length_take_le k L2; omega
          clear hcs
          generalize L2[k] = y at *
          by_cases hy : y = s
          · subst hy
            rw [if_pos rfl] at hct
            have hct' := Lib.hid hct
            have ty : (y.toList == y.toList) = true := by simp
            clear hct
            generalize cnt y (L2.take k) = m at *
            go_wp2_with fail
            go_round
            case rel => exact ⟨k + 1, by omega, by go_num, by rw [hct'.out]; go_num⟩
            case measure => simp [intOf]; omega
          · rw [if_neg hy, Nat.add_zero] at hct
            have hct' := Lib.hid hct
            have ty : (y.toList == s.toList) = false := by rw [ba_beq]; simpa using hy
            clear hct hy
            generalize cnt s (L2.take k) = m at *
            go_wp2_with fail
            go_round
            case rel => exact ⟨k + 1, by omega, by go_num, by rw [hct'.out]; rfl⟩
            case measure => simp [intOf]; omega
        · obtain rfl : k = L2.length := by omega
          have hlt' : ¬ (L2.length : Int) < (L2.length : Int) := by omega
          have hlt2 : decide (L2.length < L2.length) = false := by simp
          rw [List.take_length, hcn.out]
          clear hlt
          have g6 : Hid (_ = some (Obj.cells (flr G) 27)) := Lib.hid (K4_.out.at 1 rfl)
          go_wp2_with (with_reducible refine wpList_load_row rfl 27 (.tmp 7) rfl _ rfl 27 _ _ g6.out Try.underlying27 rfl (row27 _) ?_)
          refine (hold_fl G s L2 _ sG4_.out hG'.out.2.2.2.2.2 h2L'.out h2s.out hs40.out (hldL G.se s L2) 4 (by rw [hG'.out.2.2.2.1]; exact hmem.out) rfl).mono ?_
          rintro e v6 ⟨U, rfl, hU, sU, hb⟩
          clear hU sU
          clear cG5'
          have K5_ := Lib.hid (K4_.out.past hb)
          have sG5_ := Lib.hid (sG4_.out.on hb)
          have sH5_ := Lib.hid (sH4_.out.on hb)
          clear hb K4_ sG4_ sH4_
          have q6 : Hid ((v6.alloc (.cells (flr fl0) 27)).heap[v6.heap.size]? = some (.cells (flr fl0) 27)) := Lib.hid (by rw [heap_alloc_if, if_pos rfl])
          have K6_ := Lib.hid (K5_.out.lay fl0 U)
          have sG6_ := Lib.hid (sG5_.out.on (lay_below v6 fl0 U))
          have sH6_ := Lib.hid (sH5_.out.on (lay_below v6 fl0 U))
          clear K5_ sG5_ sH5_
          have g7 : Hid (_ = some (Obj.cells (flr f) 27)) := Lib.hid (K6_.out.at 3 rfl)
          have g8 : Hid (_ = some (Obj.cells (flr H) 27)) := Lib.hid (K6_.out.at 1 rfl)
          go_wp2_with (first
            | (with_reducible refine wpList_store_row rfl 27 (.tmp 13) (.tmp 68) rfl _ (flr U) rfl rfl 27 _ q6.out (row27 _) (flr_same _ _) (flr_one _) ?_)
            | (with_reducible refine wpList_load_row_g (by with_unfolding_all rfl) 27 (.tmp 2) rfl _ rfl 27 _ _ g7.out Try.underlying27 rfl (row27 _) ?_)
            | (with_reducible refine wpList_load_row_g (by with_unfolding_all rfl) 27 (.tmp 9) rfl _ rfl 27 _ _ g8.out Try.underlying27 rfl (row27 _) ?_))
          generalize v6.heap.size = b6 at *
          refine (same_true f H L _ (hat.out _ K6_.out.bel) sH6_.out hL2'.out (hH'.out.1.trans hG'.out.1).symm (hH'.out.2.1.trans hG'.out.2.1).symm (hH'.out.2.2.1.trans hG'.out.2.2.1).symm (hH'.out.2.2.2.1.trans hG'.out.2.2.2.1).symm (hH'.out.2.2.2.2.1.trans hG'.out.2.2.2.2.1).symm wn.out hH'.out.2.2.2.2.2).mono ?_
          rintro e v7 ⟨rfl, hb⟩
          have K7_ := Lib.hid (K6_.out.past hb)
          have sG7_ := Lib.hid (sG6_.out.on hb)
          have sH7_ := Lib.hid (sH6_.out.on hb)
          clear hb K6_ sG6_ sH6_
          have c1 : v7.cell? ⟨b3, 5, none⟩ = some (.slice G.ha L2.length G.hc) := by have := K7_.out.cell 2 rfl 5 (y := .slice G.ha G.hn G.hc) rfl; rw [hG'.out.2.2.2.2.2] at this; exact this
          have c2 : v7.cell? ⟨w.heap.size, 5, none⟩ = some (.slice f.ha L.length f.hc) := by have := K7_.out.cell 3 rfl 5 (y := .slice f.ha f.hn f.hc) rfl; rw [wn.out] at this; exact this
          have hlb : (L.length : Int) ≤ 1000 := by have := hL2'.out; omega
          have e7 : (L2.length : Int) = (L.length : Int) + 1 := by have := hlen'.out; omega
          have t7 : ((L2.length : Int) == (L.length : Int) + 1) = true := by rw [e7]; simp
          clear e7
          go_wp2_with fail
          go_ret
          exact ⟨by simp, K7_.out.bel⟩

set_option maxRecDepth 100000 in
theorem lifted (os : Os) (started : os.Started) (H : Type) (enc : TypeId × Value → H) :
    ReturnsInHanded {} Try.checked os 6 .any (Rows.ruleHoldsSpec.pre6 enc Try.prog Try.f6 Rows.ruleHoldsRow.domain false) (Rows.ruleHoldsSpec.post enc Try.prog Try.f6 false true false false) := by
  refine returnsInHanded_of_change (C := Try.checked) own started (by kernel_rfl) Try.func6
    (ChangeSpec.witness6 (enc := enc) (C := Try.checked) false ⟨#[], #[.agg #[.int .i64 0, .string ByteArray.empty, .string ByteArray.empty, .bool false, .int .i64 0, .slice none 0 0], .string ByteArray.empty], []⟩ 8 (by kernel_rfl) (by kernel_rfl) (by kernel_rfl) (by kernel_rfl)) ?_
  intro W base args ds gs before hval0 hW hcnd _
  have hval : ∀ (j : Nat) t v, Try.f6.params[j]? = some t → args[j]? = some v → Value.okWide Try.prog W .any base t v := hval0
  have hW' := hW
  obtain ⟨p, q, hA0, hV, rfl, hfz, hnd⟩ := hW
  have hA : DataW.TrodAll enc Try.prog W 0 (fun _ => true) true Try.f6.params.toList args.toList ds p := hA0
  rw [Try.params6] at hA hval
  obtain ⟨v0, vs0, d0, ds0, p0, q0, hargs, rfl, rfl, h0, r0⟩ := trodAll_cons hA
  obtain ⟨v1, vs1, d1, ds1, p1, q1, rfl, rfl, rfl, h1, r1⟩ := trodAll_cons r0
  obtain ⟨rfl, rfl, rfl⟩ := trodAll_nil r1
  obtain rfl : args = #[v0, v1] := by cases args; simp_all
  obtain ⟨rfl, rfl⟩ := trodVars_none hV
  have k0 := h0
  have lt0 : ∀ x ∈ p0, x.block < W.heap.size := by obtain ⟨m, hm⟩ := k0; exact DataW.trod_lt m _ _ _ hm
  obtain ⟨f0, L0, rfl, wf0⟩ := open_file (hval 0 27 v0 rfl rfl) h0
  obtain ⟨a1, rfl, rfl, rfl, w1⟩ := open_string Try.underlying9 (hval 1 9 v1 rfl rfl) h1
  clear hA0 hval0
  refine (walk f0 L0 a1 W wf0 w1).mono fun e W' ⟨he, bel⟩ => ?_
  subst he
  exact ⟨_, rfl, _, _, _, [], _, [], hW', trodAll_mk1 (shut_bool Try.underlying4 _), (trodAll_cons_mk (Below.trod laidOut (by kernel_rfl) (of_decide_eq_true (by kernel_rfl)) k0 bel lt0) (trodAll_cons_mk (shut_string Try.underlying9 w1) trodAll_mk0)), rfl, bel.frame _, fun h => by cases h⟩

theorem over : Rows.ruleHoldsRow.holds Try.pinned (OpenSpec.ofChange Rows.ruleHoldsSpec) :=
  OpenClaim.holds_of_wide 6 Try.f6 rfl rfl rfl rfl rfl rfl rfl ⟨rfl, rfl, rfl, rfl, rfl⟩ rfl rfl rfl rfl rfl (by kernel_rfl) Try.func6 (by kernel_rfl)
    (of_decide_eq_true (by kernel_rfl)) (by unfold Func.isWrapper; first | (rw [if_pos (by decide +kernel)]; kernel_rfl) | (rw [if_neg (by decide +kernel)]; exact ⟨rfl, rfl⟩))
    (fun os started H enc _ => lifted os started H enc)

/-- The given statement. -/
theorem ruleHolds_proved : Rows.RuleHoldsSaid :=
  over
#print axioms ruleHolds_proved
end Go.Proofs.Ytjfgmkgcdkocgaa.ruleHolds
