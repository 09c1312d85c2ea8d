/-
  What Pad and Bytes of the reference return.
-/
import Derived.Test.YtfilolmbppjbjaaGreatGsha
import Derived.Laws.AppendOwn
import Derived.Laws.AppendOwnNone
import Derived.Deep.Upon
namespace Go.Proofs.YtfilolmbppjbjaaGreat.sh
open Go.RowKit

/-- Nothing old has turned, below a block: 'Below' without the tape. -/
structure Belo (B : Nat) (w w' : World) : Prop where
  os : w'.os = w.os
  output : w'.output = w.output
  size : w.heap.size ≤ w'.heap.size
  block : ∀ k, k < B → w'.heap[k]? = w.heap[k]?
set_option maxRecDepth 100000 in
theorem Belo.of {B : Nat} {w w' : World} (h : Below B w w') : Belo B w w' := ⟨h.os, h.output, h.size, h.block⟩
set_option maxRecDepth 100000 in
theorem Belo.refl (B : Nat) (w : World) : Belo B w w := ⟨rfl, rfl, Nat.le_refl _, fun _ _ => rfl⟩
set_option maxRecDepth 100000 in
theorem Belo.trans {B : Nat} {a b c : World} (h : Belo B a b) (k : Belo B b c) : Belo B a c :=
  ⟨k.os.trans h.os, k.output.trans h.output, Nat.le_trans h.size k.size, fun i hi => (k.block i hi).trans (h.block i hi)⟩
set_option maxRecDepth 100000 in
theorem Belo.mono {B B' : Nat} {w w' : World} (h : Belo B w w') (hB : B' ≤ B) : Belo B' w w' := ⟨h.os, h.output, h.size, fun k hk => h.block k (Nat.lt_of_lt_of_le hk hB)⟩
set_option maxRecDepth 100000 in
theorem Belo.frame {W w' : World} (h : Belo W.heap.size W w') (may : MemPlace → Prop) : W.keptBut w' may := by
  refine ⟨h.os, h.output, fun i hi => ?_⟩
  rw [h.block i hi]
  split <;> simp_all

def byteL (l : List UInt8) : List Value := l.map fun b => Value.int .u8 (b.toNat : Int)
set_option maxRecDepth 100000 in
theorem byteL_length (l : List UInt8) : (byteL l).length = l.length := by simp [byteL]
set_option maxRecDepth 100000 in
theorem byteL_append (l m : List UInt8) : byteL (l ++ m) = byteL l ++ byteL m := by simp [byteL]
set_option maxRecDepth 100000 in
theorem byteL_one (l : List UInt8) : ∀ u ∈ byteL l, u.oneCell' = true := by
  intro u hu; unfold byteL at hu; rw [List.mem_map] at hu; obtain ⟨b, _, rfl⟩ := hu; rfl
set_option maxRecDepth 100000 in
theorem byteL_at (l : List UInt8) (j : Nat) : (byteL l)[j]? = l[j]?.map fun b => Value.int .u8 (b.toNat : Int) := by simp [byteL]

set_option maxRecDepth 100000 in
theorem conv_bytes (s : ByteArray) (hs : s.size ≤ 4000) (w : World) : ∃ C W, (convert 9 64 (.string s)).run Tryz.prog w = .ok (.slice (some ⟨w.heap.size, 0, none⟩) s.size C) W ∧
    Came W 1 (some ⟨w.heap.size, 0, none⟩) w.heap.size 0 s.size C (byteL s.data.toList) ∧ C ≤ maxLen ∧ Belo w.heap.size w W ∧ W.heap.size = w.heap.size + 1 := by
  have hr := run_bytes_of_string (P := Tryz.prog) w 9 64 5 s Tryz.underlying9 Tryz.underlying64 Tryz.underlying5
  have hge := grownCap_ge w s.size 0 5
  have hle := grownCap_le_maxLen w s.size 0 5 (by unfold maxLen; omega)
  generalize grownCap w s.size 0 5 = C at hr hge hle
  refine ⟨C, _, hr, ?_, hle, ?_, by simp⟩
  · have hbs : (bytesRow s C).size = C := by simp [bytesRow]; omega
    have hg : (w.drew.alloc (.cells (bytesRow s C) 5 ((bytesRow s C).size, (bytesRow s C).size + 1))).heap[w.heap.size]? = some (.cells (bytesRow s C) 5 ((bytesRow s C).size, (bytesRow s C).size + 1)) := by
      rw [heap_alloc_if, if_pos (by simp)]
    refine ⟨hge, fun _ => rfl, fun _ => by simp, by rw [byteL_length]; simp, fun j u hu => ?_, fun j hj => ?_⟩
    · rw [Nat.zero_add, cell_of_row _ _ j _ _ _ hg]
      rw [byteL_at] at hu
      have hj : j < s.size := by
        cases h : s.data.toList[j]? with
        | none => rw [h] at hu; cases hu
        | some b => have := (List.getElem?_eq_some_iff.1 h).1; simpa using this
      unfold bytesRow
      rw [Array.getElem?_append_left (by simpa using hj), Array.getElem?_map, ← hu]
      simp
    · rw [Nat.zero_add, Nat.mul_one]
      rw [Nat.mul_one] at hj
      constructor
      · rw [cell_of_row _ _ _ _ _ _ hg, Array.getElem?_eq_getElem (by omega)]; rfl
      · unfold World.frozen?
        rw [hg]
        simp [hbs]
        omega
  · exact Belo.of ((Below.refl _ _).drew.alloc (by simp) _)

set_option maxRecDepth 100000 in
theorem info5 : (Tryz.prog.info? 5).map (fun i => (i.zero, i.size, i.bytes)) = some (some (.int .u8 0), 1, 1) := by kernel_rfl
set_option maxRecDepth 100000 in
theorem info5' : ∃ i, Tryz.prog.info? 5 = some i ∧ i.zero = some (.int .u8 0) ∧ i.size = 1 ∧ i.bytes = 1 := by
  have h := info5
  cases hq : Tryz.prog.info? 5 with
  | none => rw [hq] at h; cases h
  | some i =>
    rw [hq] at h
    simp only [Option.map_some, Option.some.injEq, Prod.mk.injEq] at h
    exact ⟨i, rfl, h.1, h.2.1, h.2.2⟩
def sliceLen : Value → Nat
  | .slice _ n _ => n
  | _ => 0
set_option maxRecDepth 100000 in
theorem zer_no (n k : Nat) (h : k < zer n) : (n + 1 + k) % 64 ≠ 56 := by unfold zer at h; omega
set_option maxRecDepth 100000 in
theorem zer_yes (n : Nat) : (n + 1 + zer n) % 64 = 56 := by unfold zer; omega
set_option maxRecDepth 100000 in
theorem src_one (x : UInt8) (w : World) : Src Tryz.prog 1 64 (.slice (some ⟨w.heap.size, 0, none⟩) 1 1) 1 (byteL [x]) (w.alloc (.cells #[.int .u8 (x.toNat : Int)] 5)) :=
  Src.ofSlice _ Tryz.underlying64 _ 1 1 _ rfl (fun j u hu => by
    have hj : j = 0 := by
      have := (List.getElem?_eq_some_iff.1 hu).1
      simp [byteL] at this; omega
    subst hj
    have e : (⟨w.heap.size, 0, none⟩ : Addr).add 0 = ⟨w.heap.size, 0, none⟩ := by unfold Addr.add; split <;> simp_all
    rw [e, cell_of_row _ _ 0 _ _ _ (by rw [heap_alloc_if, if_pos rfl])]
    exact hu) (byteL_one _)

/-- The bytes l lie behind the slice e. -/
def Lies (wr : World) (e : Value) (k : Nat) (l : List UInt8) : Prop :=
  (k = 0 ∧ l = [] ∧ e = .slice none 0 0) ∨ (∃ g o c, e = .slice (some ⟨g, o, none⟩) k c ∧ l.length = k ∧ ∀ j u, (byteL l)[j]? = some u → wr.cell? ⟨g, o + j, none⟩ = some u)
set_option maxRecDepth 100000 in
theorem Lies.shape {wr : World} {e : Value} {k : Nat} {l : List UInt8} (h : Lies wr e k l) : ∃ a c, e = .slice a k c := by
  rcases h with ⟨rfl, _, rfl⟩ | ⟨g, o, c, rfl, _⟩
  · exact ⟨_, _, rfl⟩
  · exact ⟨_, _, rfl⟩
set_option maxRecDepth 100000 in
theorem Lies.src {wr : World} {e : Value} {k : Nat} {l : List UInt8} (h : Lies wr e k l) : Src Tryz.prog 1 64 e k (byteL l) wr := by
  rcases h with ⟨rfl, rfl, rfl⟩ | ⟨g, o, c, rfl, hl, hc⟩
  · exact Src.ofNil _ Tryz.underlying64 0
  · exact Src.ofSlice _ Tryz.underlying64 _ k c _ (by rw [byteL_length, hl, Nat.mul_one]) (fun j u hu => by rw [Addr.add_lit]; exact hc j u hu) (byteL_one _)
set_option maxRecDepth 100000 in
theorem Lies.kept {wr w' : World} {e : Value} {k : Nat} {l : List UInt8} (h : Lies wr e k l) (hb : Belo wr.heap.size wr w') : Lies w' e k l := by
  rcases h with h | ⟨g, o, c, rfl, hl, hc⟩
  · exact .inl h
  · refine .inr ⟨g, o, c, rfl, hl, fun j u hu => ?_⟩
    have := hc j u hu
    have hg : g < wr.heap.size := World.block_lt_of_cell? _ _ this
    rw [← this]
    exact World.cell?_of_block (a := ⟨g, o + j, none⟩) (hb.block g hg)
set_option maxRecDepth 100000 in
theorem belo_alloc (w : World) (o : Obj) : Belo w.heap.size w (w.alloc o) := Belo.of ((Below.refl _ _).alloc (Nat.le_refl _) _)
set_option maxRecDepth 100000 in
theorem came_one (x : UInt8) (w : World) : Came (w.alloc (.cells #[.int .u8 (x.toNat : Int)] 5)) 1 (some ⟨w.heap.size, 0, none⟩) w.heap.size 0 1 1 (byteL [x]) := by
  refine ⟨Nat.le_refl _, fun _ => rfl, fun _ => by simp, rfl, fun j u hu => ?_, fun j hj => by omega⟩
  have hj : j = 0 := by
    have := (List.getElem?_eq_some_iff.1 hu).1
    simp [byteL] at this; omega
  subst hj
  rw [cell_of_row _ _ _ _ _ _ (by rw [heap_alloc_if, if_pos rfl])]
  exact hu
set_option maxRecDepth 100000 in
theorem upon_belo {wr w3 : World} {o : Obj} {ao : Option Addr} {olds ks : List Value} {v : Value} {m r : Nat} (h : Upon (wr.alloc o) 5 1 ao wr.heap.size 0 1 1 olds w3 v m ks r) : Belo wr.heap.size wr w3 := by
  refine ⟨h.kept.1, h.kept.2.1, ?_, fun i hi => ?_⟩
  · have := h.kept.size; simp at this; omega
  · rw [h.kept.block (by simp; omega) (fun p ⟨j, _, e⟩ => by subst e; show wr.heap.size ≠ i; omega)]
    exact Below.heap_alloc wr o i hi
set_option maxRecDepth 100000 in
theorem upon_lies {wr w3 : World} {x : UInt8} {l : List UInt8} {v : Value} {m r : Nat} (h : Upon (wr.alloc (.cells #[.int .u8 (x.toNat : Int)] 5)) 5 1 (some ⟨wr.heap.size, 0, none⟩) wr.heap.size 0 1 1 (byteL [x]) w3 v m (byteL l) r) : Lies w3 v (1 + m) (x :: l) := by
  obtain ⟨g, o', c', rfl, _, _, hc⟩ := h.value (came_one x wr) (by unfold maxLen; omega) (.inl (by omega))
  have hk := h.ksLen
  rw [byteL_length] at hk
  refine .inr ⟨g, o', c', rfl, by simp; omega, fun j u hu => ?_⟩
  have hj := (List.getElem?_eq_some_iff.1 hu).1
  rw [byteL_length] at hj
  simp at hj
  rw [hc j (by omega), ← byteL_append]
  exact hu
set_option maxRecDepth 100000 in
theorem upon_keep {W wr w3 : World} {e : TypeId} {size : Nat} {ao : Option Addr} {b off len cap : Nat} {olds : List Value} {v : Value} {m : Nat} {ks : List Value} {r : Nat} (h : Upon W e size ao b off len cap olds wr v m ks r) (hc : Came W size ao b off len cap olds) (hb : Belo wr.heap.size wr w3) : Upon W e size ao b off len cap olds w3 v m ks r :=
  h.carry hc hb.os hb.output (fun i hi => hb.block i (Nat.lt_of_lt_of_le hi h.kept.size)) (fun g _ hg => hb.block g hg)

/-- The last k bytes of N, the lowest last. -/
def el (N : Nat) : Nat → List UInt8
  | 0 => []
  | k + 1 => UInt8.ofNat (N / 256 ^ k) :: el N k
set_option maxRecDepth 100000 in
theorem el_length (N k : Nat) : (el N k).length = k := by
  induction k with
  | zero => rfl
  | succ k ih => simp [el, ih]
set_option maxRecDepth 100000 in
theorem el_back (N k : Nat) : el N (k + 1) = el (N / 256) k ++ [UInt8.ofNat (N % 256)] := by
  induction k with
  | zero => simp only [el, Nat.pow_zero, Nat.div_one, List.nil_append]; congr 1; apply UInt8.toNat_inj.1; simp
  | succ k ih =>
    rw [show el N (k + 1 + 1) = UInt8.ofNat (N / 256 ^ (k + 1)) :: el N (k + 1) from rfl, ih, show el (N / 256) (k + 1) = UInt8.ofNat (N / 256 / 256 ^ k) :: el (N / 256) k from rfl, Nat.div_div_eq_div_mul, Nat.pow_succ, Nat.mul_comm (256 ^ k)]
    rfl
set_option maxRecDepth 100000 in
theorem el_be (N k : Nat) : el N k = be k N := by
  induction k generalizing N with
  | zero => rfl
  | succ k ih => rw [el_back, ih]; rfl

set_option maxHeartbeats 1000000 in
set_option maxRecDepth 100000 in
theorem rpad_any (s : ByteArray) (hs : s.size ≤ 4000) (w : World) :
    Calls Tryz.prog 57 #[.string s] w fun e w' => e = .returned (.string ⟨(pad s.data.toList).toArray⟩) ∧ Belo w.heap.size w w' := by
  obtain ⟨C, W, hrun, hcame, hCm, hB, hWs⟩ := conv_bytes s hs w
  obtain ⟨i, hi, hz, hsz, hby⟩ := info5'
  have H := Lib.hid (And.intro hcame (And.intro hCm (And.intro hB (And.intro hWs (And.intro hi (And.intro hz (And.intro hsz hby)))))))
  have hz64 : zer s.size < 64 := Nat.mod_lt _ (by decide)
  clear hcame hCm hB hWs hi hz hsz hby
  go_enter Tryz.func57, Tryz.ntmps57
  go_wp2_with (first
    | (at_builtin; refine wpList_append_upon _ rfl (.tmp 9) (.tmp 10) 64 64 rfl H.out.1 i (.int .u8 0) 1 Tryz.underlying64 H.out.2.2.2.2.1 H.out.2.2.2.2.2.1 H.out.2.2.2.2.2.2.1 H.out.2.2.2.2.2.2.2 rfl rfl ((Upon.start H.out.1).alloc H.out.1 _) _ 1 (byteL [128]) rfl (src_one 128 W) (by unfold maxLen; omega) (by omega) ?_)
    | fail)
  intro v' w1 hU1
  obtain ⟨a', c', rfl⟩ := hU1.shape
  have hU1' := Lib.hid hU1
  clear hU1
  go_wp2_with fail
  go_loopw [3] (fun v wr => ∃ (k L r : Nat) (a' : Option Addr) (c' : Nat), k ≤ zer s.size ∧ Hid (L = s.size + (1 + k)) ∧ L ≤ 4100 ∧ v = .slice a' L c' ∧ Hid (Upon W 5 1 (some ⟨w.heap.size, 0, none⟩) w.heap.size 0 s.size C (byteL s.data.toList) wr (.slice a' L c') (1 + k) (byteL ([128] ++ List.replicate k 0)) r)) (fun v _ => s.size + 100 - sliceLen v)
  case atStart => exact ⟨0, s.size + 1, _, a', c', by omega, rfl, by omega, rfl, hU1'.out⟩
  case round =>
    obtain ⟨k, L, r, a', c', hk, hL, hL2, rfl, hU⟩ := hrel
    rename_i wr
    have hLe := hL.out
    by_cases hlt : k < zer s.size
    · have t1 : ((L : Int) % 64 != 56) = true := by
        have := zer_no s.size k hlt
        rw [bne_iff_ne]; omega
      have hb1 : s.size + (1 + k) + 1 ≤ maxLen := by unfold maxLen; omega
      have hb2 : (s.size + (1 + k) + 1) * 1 ≤ 140737488355328 := by omega
      have hsz : Hid (sliceLen (.slice a' L c') = s.size + (1 + k)) := hLe
      clear hLe
      go_wp2_with (first
        | (at_builtin; refine wpList_append_upon _ rfl (.tmp 16) (.tmp 17) 64 64 rfl H.out.1 i (.int .u8 0) 1 Tryz.underlying64 H.out.2.2.2.2.1 H.out.2.2.2.2.2.1 H.out.2.2.2.2.2.2.1 H.out.2.2.2.2.2.2.2 rfl rfl (hU.out.alloc H.out.1 _) _ 1 (byteL [0]) rfl (src_one 0 wr) hb1 hb2 ?_)
        | fail)
      intro v2 w2 hU2
      obtain ⟨a2, c2, rfl⟩ := hU2.shape
      have hU2' := Lib.hid hU2
      clear hU2
      go_wp2_with fail
      go_roundw
      case rel =>
        have e : byteL (128 :: List.replicate k 0) ++ byteL [0] = byteL ([128] ++ List.replicate (k + 1) 0) := by
          rw [← byteL_append, List.replicate_succ']; rfl
        have hu := hU2'.out
        rw [e] at hu
        have hb : s.size + (1 + k + 1) ≤ 4100 := by have := hL.out; omega
        exact ⟨k + 1, s.size + (1 + k + 1), _, a2, c2, by omega, Lib.hid rfl, hb, rfl, Lib.hid hu⟩
      case measure => simp [sliceLen]; have := hL.out; omega
    · obtain rfl : k = zer s.size := by omega
      have t1 : ((L : Int) % 64 != 56) = false := by
        have := zer_yes s.size
        rw [bne_eq_false_iff_eq]; omega
      clear hLe
      go_wp2_with fail
      have hN : s.size * 8 ≤ 32000 := by omega
      rw [show ((s.size : Int) * 8) = ((s.size * 8 : Nat) : Int) by omega]
      revert hN
      generalize hNN : s.size * 8 = N
      intro hN
      go_loopw [4, 5, 6] (fun n e i wr => ∃ (k n' : Nat) (a : Option Addr) (c : Nat), k ≤ 8 ∧ Hid (n' = N / 256 ^ k) ∧ n' ≤ 32000 ∧ n = .int .u64 (n' : Int) ∧ e = .slice a k c ∧ i = .int .i64 (k : Int) ∧ Hid (Lies wr (.slice a k c) k (el N k)) ∧ Hid (Upon W 5 1 (some ⟨w.heap.size, 0, none⟩) w.heap.size 0 s.size C (byteL s.data.toList) wr (.slice a' L c') (1 + zer s.size) (byteL ([128] ++ List.replicate (zer s.size) 0)) r)) (fun _ _ i _ => 8 - (intOf i).toNat)
      case atStart => exact ⟨0, N, none, 0, by omega, by show _ = _; simp, hN, rfl, rfl, rfl, .inl ⟨rfl, rfl, rfl⟩, hU.out⟩
      case round =>
        obtain ⟨k, n', a, c, hk, hn', hn2, rfl, rfl, rfl, hlies, hU⟩ := hrel
        by_cases hlt : k < 8
        · have t1 : decide ((k : Int) < 8) = true := by rw [decide_eq_true_eq]; omega
          have hx : ((UInt8.ofNat n').toNat : Int) = (n' : Int) % 256 := by simp
          have hc1 := came_one (UInt8.ofNat n') wr
          rw [hx] at hc1
          have hs1 := hlies.out.src
          have hb1 : 1 + 0 + k ≤ maxLen := by unfold maxLen; omega
          have hb2 : (1 + 0 + k) * 1 ≤ 140737488355328 := by omega
          have G := Lib.hid (And.intro hc1 ((hlies.out.kept (belo_alloc wr (.cells #[.int .u8 ((n' : Int) % 256)] 5))).src))
          clear hc1 hs1
          go_wp2_with (first
            | (at_builtin; refine wpList_append_upon _ rfl (.tmp 30) (.tmp 31) 64 64 rfl G.out.1 i (.int .u8 0) 1 Tryz.underlying64 H.out.2.2.2.2.1 H.out.2.2.2.2.2.1 H.out.2.2.2.2.2.2.1 H.out.2.2.2.2.2.2.2 rfl rfl (Upon.start G.out.1) _ k (byteL (el N k)) rfl G.out.2 hb1 hb2 ?_)
            | fail)
          intro v3 w3 hU3
          obtain ⟨a3, c3, rfl⟩ := hU3.shape
          have hbb := upon_belo hU3
          have hUk := Lib.hid (upon_keep hU.out H.out.1 hbb)
          have hl3 : Hid (Lies w3 (.slice a3 (k + 1) c3) (k + 1) (el N (k + 1))) := by
            rw [← hx] at hU3
            have := upon_lies hU3
            rw [show 1 + k = k + 1 by omega] at this
            rw [show el N (k + 1) = UInt8.ofNat n' :: el N k by rw [hn'.out]; rfl]
            exact this
          clear hU3 hbb
          rw [show 1 + k = k + 1 by omega]
          go_wp2_with fail
          go_roundw
          case rel => exact ⟨k + 1, n' / 256, a3, c3, by omega, by show _ = _; rw [hn'.out, Nat.pow_succ, Nat.div_div_eq_div_mul], by omega, by simp, rfl, by simp, hl3, hUk⟩
          case measure => simp [intOf]; omega
        · obtain rfl : k = 8 := by omega
          have t1 : decide (((8 : Nat) : Int) < 8) = false := by decide
          have hb1 : s.size + (1 + zer s.size) + 8 ≤ maxLen := by unfold maxLen; omega
          have hb2 : (s.size + (1 + zer s.size) + 8) * 1 ≤ 140737488355328 := by omega
          have G := Lib.hid hlies.out.src
          go_wp2_with (first
            | (at_builtin; refine wpList_append_upon _ rfl (.tmp 35) (.tmp 36) 64 64 rfl H.out.1 i (.int .u8 0) 1 Tryz.underlying64 H.out.2.2.2.2.1 H.out.2.2.2.2.2.1 H.out.2.2.2.2.2.2.1 H.out.2.2.2.2.2.2.2 rfl rfl hU.out _ 8 (byteL (el N 8)) rfl G.out hb1 hb2 ?_)
            | fail)
          intro v3 w3 hU3
          have hbel : Belo w.heap.size w w3 := by
            refine ⟨hU3.kept.1.trans H.out.2.2.1.os, hU3.kept.2.1.trans H.out.2.2.1.output, Nat.le_trans H.out.2.2.1.size hU3.kept.size, fun j hj => ?_⟩
            rw [hU3.kept.block (by rw [H.out.2.2.2.1]; omega) (fun p ⟨j', _, e'⟩ => by subst e'; show w.heap.size ≠ j; omega)]
            exact H.out.2.2.1.block j hj
          obtain ⟨g, o', c9, rfl, _, _, hcl⟩ := hU3.value H.out.1 H.out.2.1 (.inr (by omega))
          have hp : byteL s.data.toList ++ (byteL (128 :: List.replicate (zer s.size) 0) ++ byteL (el N 8)) = byteL (pad s.data.toList) := by
            rw [← byteL_append, ← byteL_append, el_be]
            have e : s.data.toList.length = s.size := by simp
            unfold pad
            rw [e, hNN]
            simp
          have hlen : s.size + (1 + zer s.size + 8) = (pad s.data.toList).length := by
            have := congrArg List.length hp
            simp only [List.length_append, byteL_length, el_length, List.length_replicate, List.length_cons, List.length_nil] at this
            rw [← this]; simp; omega
          have hcv : (convert 64 9 (.slice (some ⟨g, o', none⟩) (s.size + (1 + zer s.size + 8)) c9)).run Tryz.prog w3 = .ok (.string ⟨(pad s.data.toList).toArray⟩) w3 := by
            rw [hlen]
            refine run_convert_bytes_back w3 64 9 5 _ _ _ Tryz.underlying64 Tryz.underlying5 Tryz.underlying9 (fun j hj => ?_)
            rw [Addr.add_lit, hcl j (by omega)]
            rw [hp, byteL_at, List.getElem?_eq_getElem hj]; rfl
          have hU3' := Lib.hid hbel
          clear hU3 hbel hcl hlen hp
          go_wp2_with fail
          go_ret
          exact ⟨rfl, hU3'.out⟩
end Go.Proofs.YtfilolmbppjbjaaGreat.sh
