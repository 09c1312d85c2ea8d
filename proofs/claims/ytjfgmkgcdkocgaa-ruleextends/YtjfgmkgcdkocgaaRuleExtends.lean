/-
  For every file, and every two times, RuleExtends returns true: kept longer, and then longer still, is kept as long as at once; never for less long.
  Conditions: none beyond the given statement's own.
-/
import Derived.Test.YtjfgmkgcdkocgaaRows
import Derived.Test.YtjfgmkgcdkocgaaWorks
import Derived.Test.YtjfgmkgcdkocgaaOpens
import Derived.Test.YtjfgmkgcdkocgaaFew
import Derived.Test.YtjfgmkgcdkocgaaSame
import Derived.WalkKit
import Derived.ProofKit
import Derived.OpenShut
import Derived.ShutString
import Derived.ChangeOld
import Derived.Below
namespace Go.Proofs.Ytjfgmkgcdkocgaa.ruleExtends
open Go.ChangeShapes Go.WideShapes Go.ChangeAt Go.RowKit
open Go.ChangeMaps (open_string shut_string)
set_option linter.unusedVariables false

theorem own : ownKnob Try.prog.godebug = none := by kernel_rfl
theorem laidOut : laidOutB Try.prog = true := by kernel_rfl

theorem ext_code (F : Fl) (t : Int) : (extF F t).2 = 0 ∨ ((extF F t).2 ≠ 0 ∧ (extF F t).1 = F) := by
  unfold extF
  split
  · right; exact ⟨by simp, rfl⟩
  · split
    · right; exact ⟨by simp, rfl⟩
    · split
      · right; exact ⟨by simp, rfl⟩
      · left; rfl
theorem ext_ok (F : Fl) (t : Int) (h : (extF F t).2 = 0) : F.se = true ∧ tmB t = true ∧ F.un ≤ t ∧ (extF F t).1 = { F with un := t } := by
  unfold extF at h ⊢
  split at h
  · cases h
  · rename_i h1
    split at h
    · cases h
    · rename_i h2
      split at h
      · cases h
      · rename_i h3
        rw [if_neg h1, if_neg h2, if_neg h3]
        exact ⟨by simpa using h1, by simpa using h2, by omega, rfl⟩
theorem ext_late (F : Fl) (t : Int) (h1 : F.se = true) (h2 : F.un ≤ t) : extF F t = if tmB t = false then (F, 1) else ({ F with un := t }, 0) := by
  unfold extF
  rw [if_neg (by rw [h1]; decide)]
  split
  · rfl
  · rw [if_neg (by omega)]
/-- What Extend comes to, its file known by what it holds. -/
theorem ext_fl (F : Fl) (t : Int) (L : List ByteArray) (v : World) (h : StrAt v.heap.size v F.ha L) (hn : F.hn = L.length) (hL : L.length ≤ 1000) (G : Fl) (x : Int) (e : extF F t = (G, x)) :
    Calls Try.prog 20 #[.agg (flr F), .int .i64 t] v fun e v' => ∃ X : Fl, e = .returned (.tuple #[.agg (flr X), .int .i64 x]) ∧ (X.id = G.id ∧ X.nm = G.nm ∧ X.da = G.da ∧ X.se = G.se ∧ X.un = G.un ∧ X.hn = L.length) ∧ StrAt v'.heap.size v' X.ha L ∧ Below v.heap.size v v' := by
  refine (extend_any F t L v h hn hL).mono ?_
  rw [e]
  rintro e v' ⟨a, c, rfl, hs, hb⟩
  exact ⟨_, rfl, ⟨rfl, rfl, rfl, rfl, rfl, rfl⟩, hs.str, hb⟩
theorem tm_i64 (b : Int) (h : tmB b = true) : 0 ≤ b ∧ b ≤ 1099511627776 := by simpa [tmB] using h

set_option maxRecDepth 100000 in
set_option maxHeartbeats 4000000 in
theorem walk (f : Fl) (L : List ByteArray) (a b : Int) (w : World) (wf : f.wf w L) (w1 : (Lit.int .i64 a).wf = true) (w2 : (Lit.int .i64 b).wf = true) :
    Calls Try.prog 8 #[.agg (flr f), .int .i64 a, .int .i64 b] w fun e w' => e = .returned (.bool true) ∧ Below w.heap.size w w' := by
  have K0 : Hid (KW w.heap.size w [(w.heap.size, .cells (flr f) 27)] (w.alloc (.cells (flr f) 27))) := Lib.hid ((KW.start w).new _)
  have hat : Hid (∀ v, Below w.heap.size w v → StrAt v.heap.size v f.ha L) := Lib.hid (fun v hb => wf.at_.on hb)
  have wn := Lib.hid wf.n
  have cw := Lib.hid (fun v (hb : Below w.heap.size w v) => few_any f L v (hat.out v hb) wf.n wf.m)
  have hz := zero27
  clear wf
  cases hfew : fewB f L with
  | false =>
    rw [hfew] at cw
    clear hfew
    go_enter Try.func8, Try.ntmps8
    go_wp2_with fail
    refine (works_any _).mono ?_
    rintro e v1 ⟨rfl, b1⟩
    have K1 := Lib.hid (K0.out.past b1)
    have g1 : Hid (_ = some (Obj.cells (flr f) 27)) := Lib.hid (K1.out.at 0 rfl)
    clear b1
    go_wp2_with (with_reducible refine wpList_load_row rfl 27 (.tmp 3) rfl _ rfl 27 _ _ g1.out Try.underlying27 rfl (row27 _) ?_)
    refine (cw.out _ K1.out.bel).mono ?_
    rintro e v2 ⟨rfl, b2⟩
    have K2 := Lib.hid (K1.out.past b2)
    clear b2 K1 g1 K0
    go_wp2_with fail
    go_ret
    exact ⟨rfl, K2.out.bel⟩
  | true =>
    rw [hfew] at cw
    have hL2 : L.length ≤ 1000 := by have := (fewB_true hfew).1; omega
    clear hfew
    by_cases hab : b < a
    · have t1 : decide (b < a) = true := by simpa using hab
      clear hab
      go_enter Try.func8, Try.ntmps8
      go_wp2_with fail
      refine (works_any _).mono ?_
      rintro e v1 ⟨rfl, b1⟩
      have K1 := Lib.hid (K0.out.past b1)
      have g1 : Hid (_ = some (Obj.cells (flr f) 27)) := Lib.hid (K1.out.at 0 rfl)
      clear b1
      go_wp2_with (with_reducible refine wpList_load_row rfl 27 (.tmp 3) rfl _ rfl 27 _ _ g1.out Try.underlying27 rfl (row27 _) ?_)
      refine (cw.out _ K1.out.bel).mono ?_
      rintro e v2 ⟨rfl, b2⟩
      have K2 := Lib.hid (K1.out.past b2)
      clear b2 K1 g1 K0
      go_wp2_with fail
      go_ret
      exact ⟨rfl, K2.out.bel⟩
    have t1 : decide (b < a) = false := by simpa using hab
    rcases ext_code f a with he | ⟨he, hfa⟩
    rotate_left
    · have hc : Hid (extF f a = (f, (extF f a).2)) := Lib.hid (Prod.ext hfa rfl)
      obtain ⟨x, hx⟩ : ∃ x, (extF f a).2 = x := ⟨_, rfl⟩
      rw [hx] at hc he
      have t2 : (x == 0) = false := by simpa using he
      have t3 : (x != 0) = true := by simpa using he
      have cX := Lib.hid (fun v (hb : Below w.heap.size w v) => ext_fl f a L v (hat.out v hb) wn.out hL2 f x hc.out)
      have hL3 := Lib.hid hL2
      clear he hfa hx hL2 hab
      go_enter Try.func8, Try.ntmps8
      go_wp2_with fail
      refine (works_any _).mono ?_
      rintro e v1 ⟨rfl, b1⟩
      have K1 := Lib.hid (K0.out.past b1)
      have g1 : Hid (_ = some (Obj.cells (flr f) 27)) := Lib.hid (K1.out.at 0 rfl)
      clear b1
      go_wp2_with (with_reducible refine wpList_load_row rfl 27 (.tmp 3) rfl _ rfl 27 _ _ g1.out Try.underlying27 rfl (row27 _) ?_)
      refine (cw.out _ K1.out.bel).mono ?_
      rintro e v2 ⟨rfl, b2⟩
      have K2 := Lib.hid (K1.out.past b2)
      clear b2 K1 g1 K0
      have g3 : Hid (_ = some (Obj.cells (flr f) 27)) := Lib.hid (K2.out.at 0 rfl)
      go_wp2_with (with_reducible refine wpList_load_row rfl 27 (.tmp 3) rfl _ rfl 27 _ _ g3.out Try.underlying27 rfl (row27 _) ?_)
      refine (cX.out _ K2.out.bel).mono ?_
      rintro e v3 ⟨X, rfl, hX, sX, hb⟩
      have hX' := Lib.hid hX
      have sX0 := Lib.hid sX
      clear hX sX
      have K1_ := Lib.hid (K2.out.past hb)
      clear hb K2
      have q3 : Hid ((v3.alloc (.cells (flr fl0) 27)).heap[v3.heap.size]? = some (.cells (flr fl0) 27)) := Lib.hid (by rw [heap_alloc_if, if_pos rfl])
      have K2_ := Lib.hid (K1_.out.lay fl0 X)
      have sX2_ := Lib.hid (sX0.out.on (lay_below v3 fl0 X))
      clear K1_ sX0
      have g4 : Hid (_ = some (Obj.cells (flr X) 27)) := Lib.hid (K2_.out.at 0 rfl)
      go_wp2_with (first
        | (with_reducible refine wpList_store_row rfl 27 (.tmp 9) (.tmp 34) rfl _ (flr X) rfl rfl 27 _ q3.out (row27 _) (flr_same _ _) (flr_one _) ?_)
        | (with_reducible refine wpList_load_row rfl 27 (.tmp 9) rfl _ rfl 27 _ _ g4.out Try.underlying27 rfl (row27 _) ?_))
      generalize v3.heap.size = b3 at *
      refine (ext_fl X b L _ sX2_.out hX'.out.2.2.2.2.2 hL3.out (extF X b).1 (extF X b).2 rfl).mono ?_
      rintro e v5 ⟨Y, rfl, hY, sY, hb⟩
      generalize (extF X b).2 = yc at *
      clear hY sY
      have K3_ := Lib.hid (K2_.out.past hb)
      have sX3_ := Lib.hid (sX2_.out.on hb)
      clear hb K2_ sX2_
      have q5 : Hid ((v5.alloc (.cells (flr fl0) 27)).heap[v5.heap.size]? = some (.cells (flr fl0) 27)) := Lib.hid (by rw [heap_alloc_if, if_pos rfl])
      have K4_ := Lib.hid (K3_.out.lay fl0 Y)
      have sX4_ := Lib.hid (sX3_.out.on (lay_below v5 fl0 Y))
      clear K3_ sX3_
      have g5 : Hid (_ = some (Obj.cells (flr f) 27)) := Lib.hid (K4_.out.at 2 rfl)
      go_wp2_with (first
        | (with_reducible refine wpList_store_row rfl 27 (.tmp 11) (.tmp 40) rfl _ (flr Y) rfl rfl 27 _ q5.out (row27 _) (flr_same _ _) (flr_one _) ?_)
        | (with_reducible refine wpList_load_row rfl 27 (.tmp 3) rfl _ rfl 27 _ _ g5.out Try.underlying27 rfl (row27 _) ?_))
      generalize v5.heap.size = b5 at *
      refine (ext_fl f b L _ (hat.out _ K4_.out.bel) wn.out hL3.out (extF f b).1 (extF f b).2 rfl).mono ?_
      rintro e v6 ⟨Z, rfl, hZ, sZ, hb⟩
      generalize (extF f b).2 = zc at *
      clear hZ sZ
      have K5_ := Lib.hid (K4_.out.past hb)
      have sX5_ := Lib.hid (sX4_.out.on hb)
      clear hb K4_ sX4_
      have q6 : Hid ((v6.alloc (.cells (flr fl0) 27)).heap[v6.heap.size]? = some (.cells (flr fl0) 27)) := Lib.hid (by rw [heap_alloc_if, if_pos rfl])
      have K6_ := Lib.hid (K5_.out.lay fl0 Z)
      have sX6_ := Lib.hid (sX5_.out.on (lay_below v6 fl0 Z))
      clear K5_ sX5_
      have g6 : Hid (_ = some (Obj.cells (flr f) 27)) := Lib.hid (K6_.out.at 3 rfl)
      have g7 : Hid (_ = some (Obj.cells (flr X) 27)) := Lib.hid (K6_.out.at 2 rfl)
      go_wp2_with (first
        | (with_reducible refine wpList_store_row rfl 27 (.tmp 13) (.tmp 46) rfl _ (flr Z) rfl rfl 27 _ q6.out (row27 _) (flr_same _ _) (flr_one _) ?_)
        | (with_reducible refine wpList_load_row_g (by with_unfolding_all rfl) 27 (.tmp 9) rfl _ rfl 27 _ _ g7.out Try.underlying27 rfl (row27 _) ?_)
        | (with_reducible refine wpList_load_row_g (by with_unfolding_all rfl) 27 (.tmp 3) rfl _ rfl 27 _ _ g6.out Try.underlying27 rfl (row27 _) ?_))
      generalize v6.heap.size = b6 at *
      refine (same_true X f L _ sX6_.out (hat.out _ K6_.out.bel) hL3.out hX'.out.1 hX'.out.2.1 hX'.out.2.2.1 hX'.out.2.2.2.1 hX'.out.2.2.2.2.1 hX'.out.2.2.2.2.2 wn.out).mono ?_
      rintro e v7 ⟨rfl, hb⟩
      have K7_ := Lib.hid (K6_.out.past hb)
      have sX7_ := Lib.hid (sX6_.out.on hb)
      clear hb K6_ sX6_
      go_wp2_with fail
      go_ret
      exact ⟨rfl, K7_.out.bel⟩
    · obtain ⟨hse, htm, hun, hf1⟩ := ext_ok f a he
      have hc : Hid (extF f a = ({ f with un := a }, 0)) := Lib.hid (Prod.ext hf1 he)
      have hba : a ≤ b := by omega
      have cX := Lib.hid (fun v (hb : Below w.heap.size w v) => ext_fl f a L v (hat.out v hb) wn.out hL2 { f with un := a } 0 hc.out)
      have hL3 := Lib.hid hL2
      have hse' := Lib.hid hse
      have hba' := Lib.hid hba
      have hun' : Hid (f.un ≤ b) := Lib.hid (by omega)
      clear he hf1 hL2 hab hse htm hun hba
      cases htb : tmB b with
      | false =>
        have cY : Hid (∀ (F : Fl), F.se = true → F.un ≤ b → extF F b = (F, 1)) := Lib.hid (fun F h1 h2 => by rw [ext_late F b h1 h2, htb]; rfl)
        clear htb
        go_enter Try.func8, Try.ntmps8
        go_wp2_with fail
        refine (works_any _).mono ?_
        rintro e v1 ⟨rfl, b1⟩
        have K1 := Lib.hid (K0.out.past b1)
        have g1 : Hid (_ = some (Obj.cells (flr f) 27)) := Lib.hid (K1.out.at 0 rfl)
        clear b1
        go_wp2_with (with_reducible refine wpList_load_row rfl 27 (.tmp 3) rfl _ rfl 27 _ _ g1.out Try.underlying27 rfl (row27 _) ?_)
        refine (cw.out _ K1.out.bel).mono ?_
        rintro e v2 ⟨rfl, b2⟩
        have K2 := Lib.hid (K1.out.past b2)
        clear b2 K1 g1 K0
        have g3 : Hid (_ = some (Obj.cells (flr f) 27)) := Lib.hid (K2.out.at 0 rfl)
        go_wp2_with (with_reducible refine wpList_load_row rfl 27 (.tmp 3) rfl _ rfl 27 _ _ g3.out Try.underlying27 rfl (row27 _) ?_)
        refine (cX.out _ K2.out.bel).mono ?_
        rintro e v3 ⟨X, rfl, hX, sX, hb⟩
        have hX' := Lib.hid hX
        have sX0 := Lib.hid sX
        clear hX sX
        have K1_ := Lib.hid (K2.out.past hb)
        clear hb K2
        have q3 : Hid ((v3.alloc (.cells (flr fl0) 27)).heap[v3.heap.size]? = some (.cells (flr fl0) 27)) := Lib.hid (by rw [heap_alloc_if, if_pos rfl])
        have K2_ := Lib.hid (K1_.out.lay fl0 X)
        have sX2_ := Lib.hid (sX0.out.on (lay_below v3 fl0 X))
        clear K1_ sX0
        have g4 : Hid (_ = some (Obj.cells (flr X) 27)) := Lib.hid (K2_.out.at 0 rfl)
        go_wp2_with (first
          | (with_reducible refine wpList_store_row rfl 27 (.tmp 9) (.tmp 34) rfl _ (flr X) rfl rfl 27 _ q3.out (row27 _) (flr_same _ _) (flr_one _) ?_)
          | (with_reducible refine wpList_load_row rfl 27 (.tmp 9) rfl _ rfl 27 _ _ g4.out Try.underlying27 rfl (row27 _) ?_))
        generalize v3.heap.size = b3 at *
        have hX6 : Hid (X.hn = L.length) := Lib.hid hX'.out.2.2.2.2.2
        refine (ext_fl X b L _ sX2_.out hX6.out hL3.out _ 1 (cY.out X (hX'.out.2.2.2.1.trans hse'.out) (by rw [hX'.out.2.2.2.2.1]; exact hba'.out))).mono ?_
        rintro e v5 ⟨Y, rfl, hY, sY, hb⟩
        have hY' := Lib.hid hY
        have sY0 := Lib.hid sY
        clear hY sY
        have K3_ := Lib.hid (K2_.out.past hb)
        have sX3_ := Lib.hid (sX2_.out.on hb)
        clear hb K2_ sX2_
        have q5 : Hid ((v5.alloc (.cells (flr fl0) 27)).heap[v5.heap.size]? = some (.cells (flr fl0) 27)) := Lib.hid (by rw [heap_alloc_if, if_pos rfl])
        have K4_ := Lib.hid (K3_.out.lay fl0 Y)
        have sX4_ := Lib.hid (sX3_.out.on (lay_below v5 fl0 Y))
        have sY4_ := Lib.hid (sY0.out.on (lay_below v5 fl0 Y))
        clear K3_ sX3_ sY0
        have g5 : Hid (_ = some (Obj.cells (flr f) 27)) := Lib.hid (K4_.out.at 2 rfl)
        go_wp2_with (first
          | (with_reducible refine wpList_store_row rfl 27 (.tmp 11) (.tmp 40) rfl _ (flr Y) rfl rfl 27 _ q5.out (row27 _) (flr_same _ _) (flr_one _) ?_)
          | (with_reducible refine wpList_load_row rfl 27 (.tmp 3) rfl _ rfl 27 _ _ g5.out Try.underlying27 rfl (row27 _) ?_))
        generalize v5.heap.size = b5 at *
        refine (ext_fl f b L _ (hat.out _ K4_.out.bel) wn.out hL3.out _ 1 (cY.out f hse'.out hun'.out)).mono ?_
        rintro e v6 ⟨Z, rfl, hZ, sZ, hb⟩
        have hZ' := Lib.hid hZ
        have sZ0 := Lib.hid sZ
        clear hZ sZ
        have K5_ := Lib.hid (K4_.out.past hb)
        have sX5_ := Lib.hid (sX4_.out.on hb)
        have sY5_ := Lib.hid (sY4_.out.on hb)
        clear hb K4_ sX4_ sY4_
        have q6 : Hid ((v6.alloc (.cells (flr fl0) 27)).heap[v6.heap.size]? = some (.cells (flr fl0) 27)) := Lib.hid (by rw [heap_alloc_if, if_pos rfl])
        have K6_ := Lib.hid (K5_.out.lay fl0 Z)
        have sX6_ := Lib.hid (sX5_.out.on (lay_below v6 fl0 Z))
        have sY6_ := Lib.hid (sY5_.out.on (lay_below v6 fl0 Z))
        have sZ6_ := Lib.hid (sZ0.out.on (lay_below v6 fl0 Z))
        clear K5_ sX5_ sY5_ sZ0
        go_wp2_with (with_reducible refine wpList_store_row rfl 27 (.tmp 13) (.tmp 46) rfl _ (flr Z) rfl rfl 27 _ q6.out (row27 _) (flr_same _ _) (flr_one _) ?_)
        go_ret
        exact ⟨rfl, K6_.out.bel⟩
      | true =>
        have cY : Hid (∀ (F : Fl), F.se = true → F.un ≤ b → extF F b = ({ F with un := b }, 0)) := Lib.hid (fun F h1 h2 => by rw [ext_late F b h1 h2, htb]; rfl)
        have hb2 := tm_i64 b htb
        clear htb
        go_enter Try.func8, Try.ntmps8
        go_wp2_with fail
        refine (works_any _).mono ?_
        rintro e v1 ⟨rfl, b1⟩
        have K1 := Lib.hid (K0.out.past b1)
        have g1 : Hid (_ = some (Obj.cells (flr f) 27)) := Lib.hid (K1.out.at 0 rfl)
        clear b1
        go_wp2_with (with_reducible refine wpList_load_row rfl 27 (.tmp 3) rfl _ rfl 27 _ _ g1.out Try.underlying27 rfl (row27 _) ?_)
        refine (cw.out _ K1.out.bel).mono ?_
        rintro e v2 ⟨rfl, b2⟩
        have K2 := Lib.hid (K1.out.past b2)
        clear b2 K1 g1 K0
        have g3 : Hid (_ = some (Obj.cells (flr f) 27)) := Lib.hid (K2.out.at 0 rfl)
        go_wp2_with (with_reducible refine wpList_load_row rfl 27 (.tmp 3) rfl _ rfl 27 _ _ g3.out Try.underlying27 rfl (row27 _) ?_)
        refine (cX.out _ K2.out.bel).mono ?_
        rintro e v3 ⟨X, rfl, hX, sX, hb⟩
        have hX' := Lib.hid hX
        have sX0 := Lib.hid sX
        clear hX sX
        have K1_ := Lib.hid (K2.out.past hb)
        clear hb K2
        have q3 : Hid ((v3.alloc (.cells (flr fl0) 27)).heap[v3.heap.size]? = some (.cells (flr fl0) 27)) := Lib.hid (by rw [heap_alloc_if, if_pos rfl])
        have K2_ := Lib.hid (K1_.out.lay fl0 X)
        have sX2_ := Lib.hid (sX0.out.on (lay_below v3 fl0 X))
        clear K1_ sX0
        have g4 : Hid (_ = some (Obj.cells (flr X) 27)) := Lib.hid (K2_.out.at 0 rfl)
        go_wp2_with (first
          | (with_reducible refine wpList_store_row rfl 27 (.tmp 9) (.tmp 34) rfl _ (flr X) rfl rfl 27 _ q3.out (row27 _) (flr_same _ _) (flr_one _) ?_)
          | (with_reducible refine wpList_load_row rfl 27 (.tmp 9) rfl _ rfl 27 _ _ g4.out Try.underlying27 rfl (row27 _) ?_))
        generalize v3.heap.size = b3 at *
        have hX6 : Hid (X.hn = L.length) := Lib.hid hX'.out.2.2.2.2.2
        refine (ext_fl X b L _ sX2_.out hX6.out hL3.out _ 0 (cY.out X (hX'.out.2.2.2.1.trans hse'.out) (by rw [hX'.out.2.2.2.2.1]; exact hba'.out))).mono ?_
        rintro e v5 ⟨Y, rfl, hY, sY, hb⟩
        have hY' := Lib.hid hY
        have sY0 := Lib.hid sY
        clear hY sY
        have K3_ := Lib.hid (K2_.out.past hb)
        have sX3_ := Lib.hid (sX2_.out.on hb)
        clear hb K2_ sX2_
        have q5 : Hid ((v5.alloc (.cells (flr fl0) 27)).heap[v5.heap.size]? = some (.cells (flr fl0) 27)) := Lib.hid (by rw [heap_alloc_if, if_pos rfl])
        have K4_ := Lib.hid (K3_.out.lay fl0 Y)
        have sX4_ := Lib.hid (sX3_.out.on (lay_below v5 fl0 Y))
        have sY4_ := Lib.hid (sY0.out.on (lay_below v5 fl0 Y))
        clear K3_ sX3_ sY0
        have g5 : Hid (_ = some (Obj.cells (flr f) 27)) := Lib.hid (K4_.out.at 2 rfl)
        go_wp2_with (first
          | (with_reducible refine wpList_store_row rfl 27 (.tmp 11) (.tmp 40) rfl _ (flr Y) rfl rfl 27 _ q5.out (row27 _) (flr_same _ _) (flr_one _) ?_)
          | (with_reducible refine wpList_load_row rfl 27 (.tmp 3) rfl _ rfl 27 _ _ g5.out Try.underlying27 rfl (row27 _) ?_))
        generalize v5.heap.size = b5 at *
        refine (ext_fl f b L _ (hat.out _ K4_.out.bel) wn.out hL3.out _ 0 (cY.out f hse'.out hun'.out)).mono ?_
        rintro e v6 ⟨Z, rfl, hZ, sZ, hb⟩
        have hZ' := Lib.hid hZ
        have sZ0 := Lib.hid sZ
        clear hZ sZ
        have K5_ := Lib.hid (K4_.out.past hb)
        have sX5_ := Lib.hid (sX4_.out.on hb)
        have sY5_ := Lib.hid (sY4_.out.on hb)
        clear hb K4_ sX4_ sY4_
        have q6 : Hid ((v6.alloc (.cells (flr fl0) 27)).heap[v6.heap.size]? = some (.cells (flr fl0) 27)) := Lib.hid (by rw [heap_alloc_if, if_pos rfl])
        have K6_ := Lib.hid (K5_.out.lay fl0 Z)
        have sX6_ := Lib.hid (sX5_.out.on (lay_below v6 fl0 Z))
        have sY6_ := Lib.hid (sY5_.out.on (lay_below v6 fl0 Z))
        have sZ6_ := Lib.hid (sZ0.out.on (lay_below v6 fl0 Z))
        clear K5_ sX5_ sY5_ sZ0
        have g6 : Hid (_ = some (Obj.cells (flr Y) 27)) := Lib.hid (K6_.out.at 1 rfl)
        have cu : Hid (Y.un = b) := Lib.hid hY'.out.2.2.2.2.1
        have cY4 : ((v6.alloc (.cells (flr fl0) 27)).setRow v6.heap.size (flr Z)).cell? ⟨b5, 4, none⟩ = some (.int .i64 b) := by have := K6_.out.cell 1 rfl 4 (y := .int .i64 Y.un) rfl; rw [cu.out] at this; exact this
        go_wp2_with (first
          | (with_reducible refine wpList_store_row rfl 27 (.tmp 13) (.tmp 46) rfl _ (flr Z) rfl rfl 27 _ q6.out (row27 _) (flr_same _ _) (flr_one _) ?_)
          | (with_reducible refine wpList_load_row rfl 27 (.tmp 11) rfl _ rfl 27 _ _ g6.out Try.underlying27 rfl (row27 _) ?_))
        generalize v6.heap.size = b6 at *
        clear cY4
        by_cases hb0 : b = 0
        · subst hb0
          have e9 : extF Y (0 - 1) = (Y, 1) := by
            unfold extF
            rw [if_neg (by rw [hY'.out.2.2.2.1]; show ¬ X.se = false; rw [hX'.out.2.2.2.1]; show ¬ f.se = false; rw [hse'.out]; decide), if_pos (by decide)]
          have E9 := Lib.hid e9
          clear e9
          have tz : ((0 : Int) - 1) = -1 := rfl
          rw [tz] at E9
          clear tz
          refine (ext_fl Y (-1) L _ sY6_.out hY'.out.2.2.2.2.2 hL3.out Y 1 E9.out).mono ?_
          rintro e v8 ⟨U, rfl, hU, sU, hb⟩
          clear hU sU
          have K7_ := Lib.hid (K6_.out.past hb)
          have sX7_ := Lib.hid (sX6_.out.on hb)
          have sY7_ := Lib.hid (sY6_.out.on hb)
          have sZ7_ := Lib.hid (sZ6_.out.on hb)
          clear hb K6_ sX6_ sY6_ sZ6_
          have q8 : Hid ((v8.alloc (.cells (flr fl0) 27)).heap[v8.heap.size]? = some (.cells (flr fl0) 27)) := Lib.hid (by rw [heap_alloc_if, if_pos rfl])
          have K8_ := Lib.hid (K7_.out.lay fl0 U)
          have sX8_ := Lib.hid (sX7_.out.on (lay_below v8 fl0 U))
          have sY8_ := Lib.hid (sY7_.out.on (lay_below v8 fl0 U))
          have sZ8_ := Lib.hid (sZ7_.out.on (lay_below v8 fl0 U))
          clear K7_ sX7_ sY7_ sZ7_
          have g8 : Hid (_ = some (Obj.cells (flr Y) 27)) := Lib.hid (K8_.out.at 2 rfl)
          have g9 : Hid (_ = some (Obj.cells (flr Z) 27)) := Lib.hid (K8_.out.at 1 rfl)
          go_wp2_with (first
            | (with_reducible refine wpList_store_row rfl 27 (.tmp 15) (.tmp 73) rfl _ (flr U) rfl rfl 27 _ q8.out (row27 _) (flr_same _ _) (flr_one _) ?_)
            | (with_reducible refine wpList_load_row_g (by with_unfolding_all rfl) 27 (.tmp 11) rfl _ rfl 27 _ _ g8.out Try.underlying27 rfl (row27 _) ?_)
            | (with_reducible refine wpList_load_row_g (by with_unfolding_all rfl) 27 (.tmp 13) rfl _ rfl 27 _ _ g9.out Try.underlying27 rfl (row27 _) ?_))
          generalize v8.heap.size = b8 at *
          refine (same_true Y Z L _ sY8_.out sZ8_.out hL3.out ((hY'.out.1.trans hX'.out.1).trans hZ'.out.1.symm) ((hY'.out.2.1.trans hX'.out.2.1).trans hZ'.out.2.1.symm) ((hY'.out.2.2.1.trans hX'.out.2.2.1).trans hZ'.out.2.2.1.symm) ((hY'.out.2.2.2.1.trans hX'.out.2.2.2.1).trans hZ'.out.2.2.2.1.symm) (hY'.out.2.2.2.2.1.trans hZ'.out.2.2.2.2.1.symm) hY'.out.2.2.2.2.2 hZ'.out.2.2.2.2.2).mono ?_
          rintro e v9 ⟨rfl, hb⟩
          have K9_ := Lib.hid (K8_.out.past hb)
          have sX9_ := Lib.hid (sX8_.out.on hb)
          have sY9_ := Lib.hid (sY8_.out.on hb)
          have sZ9_ := Lib.hid (sZ8_.out.on hb)
          clear hb K8_ sX8_ sY8_ sZ8_
          have cY9 : v9.cell? ⟨b5, 4, none⟩ = some (.int .i64 0) := by have := K9_.out.cell 2 rfl 4 (y := .int .i64 Y.un) rfl; rw [cu.out] at this; exact this
          go_wp2_with fail
          go_ret
          exact ⟨rfl, K9_.out.bel⟩
        · have e9 : extF Y (b - 1) = (Y, 7) := by
            unfold extF
            rw [if_neg (by rw [hY'.out.2.2.2.1]; show ¬ X.se = false; rw [hX'.out.2.2.2.1]; show ¬ f.se = false; rw [hse'.out]; decide), if_neg (by unfold tmB; simp; omega), if_pos (by rw [cu.out]; omega)]
          have E9 := Lib.hid e9
          clear e9 hb0
          refine (ext_fl Y (b - 1) L _ sY6_.out hY'.out.2.2.2.2.2 hL3.out Y 7 E9.out).mono ?_
          rintro e v8 ⟨U, rfl, hU, sU, hb⟩
          clear hU sU
          have K7_ := Lib.hid (K6_.out.past hb)
          have sX7_ := Lib.hid (sX6_.out.on hb)
          have sY7_ := Lib.hid (sY6_.out.on hb)
          have sZ7_ := Lib.hid (sZ6_.out.on hb)
          clear hb K6_ sX6_ sY6_ sZ6_
          have q8 : Hid ((v8.alloc (.cells (flr fl0) 27)).heap[v8.heap.size]? = some (.cells (flr fl0) 27)) := Lib.hid (by rw [heap_alloc_if, if_pos rfl])
          have K8_ := Lib.hid (K7_.out.lay fl0 U)
          have sX8_ := Lib.hid (sX7_.out.on (lay_below v8 fl0 U))
          have sY8_ := Lib.hid (sY7_.out.on (lay_below v8 fl0 U))
          have sZ8_ := Lib.hid (sZ7_.out.on (lay_below v8 fl0 U))
          clear K7_ sX7_ sY7_ sZ7_
          have g8 : Hid (_ = some (Obj.cells (flr Y) 27)) := Lib.hid (K8_.out.at 2 rfl)
          have g9 : Hid (_ = some (Obj.cells (flr Z) 27)) := Lib.hid (K8_.out.at 1 rfl)
          go_wp2_with (first
            | (with_reducible refine wpList_store_row rfl 27 (.tmp 15) (.tmp 73) rfl _ (flr U) rfl rfl 27 _ q8.out (row27 _) (flr_same _ _) (flr_one _) ?_)
            | (with_reducible refine wpList_load_row_g (by with_unfolding_all rfl) 27 (.tmp 11) rfl _ rfl 27 _ _ g8.out Try.underlying27 rfl (row27 _) ?_)
            | (with_reducible refine wpList_load_row_g (by with_unfolding_all rfl) 27 (.tmp 13) rfl _ rfl 27 _ _ g9.out Try.underlying27 rfl (row27 _) ?_))
          generalize v8.heap.size = b8 at *
          refine (same_true Y Z L _ sY8_.out sZ8_.out hL3.out ((hY'.out.1.trans hX'.out.1).trans hZ'.out.1.symm) ((hY'.out.2.1.trans hX'.out.2.1).trans hZ'.out.2.1.symm) ((hY'.out.2.2.1.trans hX'.out.2.2.1).trans hZ'.out.2.2.1.symm) ((hY'.out.2.2.2.1.trans hX'.out.2.2.2.1).trans hZ'.out.2.2.2.1.symm) (hY'.out.2.2.2.2.1.trans hZ'.out.2.2.2.2.1.symm) hY'.out.2.2.2.2.2 hZ'.out.2.2.2.2.2).mono ?_
          rintro e v9 ⟨rfl, hb⟩
          have K9_ := Lib.hid (K8_.out.past hb)
          have sX9_ := Lib.hid (sX8_.out.on hb)
          have sY9_ := Lib.hid (sY8_.out.on hb)
          have sZ9_ := Lib.hid (sZ8_.out.on hb)
          clear hb K8_ sX8_ sY8_ sZ8_
          have cY9 : v9.cell? ⟨b5, 4, none⟩ = some (.int .i64 b) := by have := K9_.out.cell 2 rfl 4 (y := .int .i64 Y.un) rfl; rw [cu.out] at this; exact this
          go_wp2_with fail
          go_ret
          exact ⟨rfl, K9_.out.bel⟩

set_option maxRecDepth 100000 in
theorem lifted (os : Os) (started : os.Started) (H : Type) (enc : TypeId × Value → H) :
    ReturnsInHanded {} Try.checked os 8 .any (Rows.ruleExtendsSpec.pre6 enc Try.prog Try.f8 Rows.ruleExtendsRow.domain false) (Rows.ruleExtendsSpec.post enc Try.prog Try.f8 false true false false) := by
  refine returnsInHanded_of_change (C := Try.checked) own started (by kernel_rfl) Try.func8
    (ChangeSpec.witness6 (enc := enc) (C := Try.checked) false ⟨#[], #[.agg #[.int .i64 0, .string ByteArray.empty, .string ByteArray.empty, .bool false, .int .i64 0, .slice none 0 0], .int .i64 0, .int .i64 0], []⟩ 8 (by kernel_rfl) (by kernel_rfl) (by kernel_rfl) (by kernel_rfl)) ?_
  intro W base args ds gs before hval0 hW hcnd _
  have hval : ∀ (j : Nat) t v, Try.f8.params[j]? = some t → args[j]? = some v → Value.okWide Try.prog W .any base t v := hval0
  have hW' := hW
  obtain ⟨p, q, hA0, hV, rfl, hfz, hnd⟩ := hW
  have hA : DataW.TrodAll enc Try.prog W 0 (fun _ => true) true Try.f8.params.toList args.toList ds p := hA0
  rw [Try.params8] at hA hval
  obtain ⟨v0, vs0, d0, ds0, p0, q0, hargs, rfl, rfl, h0, r0⟩ := trodAll_cons hA
  obtain ⟨v1, vs1, d1, ds1, p1, q1, rfl, rfl, rfl, h1, r1⟩ := trodAll_cons r0
  obtain ⟨v2, vs2, d2, ds2, p2, q2, rfl, rfl, rfl, h2, r2⟩ := trodAll_cons r1
  obtain ⟨rfl, rfl, rfl⟩ := trodAll_nil r2
  obtain rfl : args = #[v0, v1, v2] := by cases args; simp_all
  obtain ⟨rfl, rfl⟩ := trodVars_none hV
  have k0 := h0
  have lt0 : ∀ x ∈ p0, x.block < W.heap.size := by obtain ⟨m, hm⟩ := k0; exact DataW.trod_lt m _ _ _ hm
  obtain ⟨f0, L0, rfl, wf0⟩ := open_file (hval 0 27 v0 rfl rfl) h0
  obtain ⟨a1, rfl, rfl, rfl, w1⟩ := open_int Try.underlying3 (hval 1 3 v1 rfl rfl) h1
  obtain ⟨a2, rfl, rfl, rfl, w2⟩ := open_int Try.underlying3 (hval 2 3 v2 rfl rfl) h2
  clear hA0 hval0
  refine (walk f0 L0 a1 a2 W wf0 w1 w2).mono fun e W' ⟨he, bel⟩ => ?_
  subst he
  exact ⟨_, rfl, _, _, _, [], _, [], hW', trodAll_mk1 (shut_bool Try.underlying4 _), (trodAll_cons_mk (Below.trod laidOut (by kernel_rfl) (of_decide_eq_true (by kernel_rfl)) k0 bel lt0) (trodAll_cons_mk (shut_int Try.underlying3 w1) (trodAll_cons_mk (shut_int Try.underlying3 w2) trodAll_mk0))), rfl, bel.frame _, fun h => by cases h⟩

theorem over : Rows.ruleExtendsRow.holds Try.pinned (OpenSpec.ofChange Rows.ruleExtendsSpec) :=
  OpenClaim.holds_of_wide 8 Try.f8 rfl rfl rfl rfl rfl rfl rfl ⟨rfl, rfl, rfl, rfl, rfl⟩ rfl rfl rfl rfl rfl (by kernel_rfl) Try.func8 (by kernel_rfl)
    (of_decide_eq_true (by kernel_rfl)) (by unfold Func.isWrapper; first | (rw [if_pos (by decide +kernel)]; kernel_rfl) | (rw [if_neg (by decide +kernel)]; exact ⟨rfl, rfl⟩))
    (fun os started H enc _ => lifted os started H enc)

/-- The given statement. -/
theorem ruleExtends_proved : Rows.RuleExtendsSaid :=
  over
#print axioms ruleExtends_proved
end Go.Proofs.Ytjfgmkgcdkocgaa.ruleExtends
