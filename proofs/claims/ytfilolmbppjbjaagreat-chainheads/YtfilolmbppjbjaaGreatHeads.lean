/-
  Rows of events in memory: what 'valid' and 'Head' return.
-/
import Derived.Test.YtfilolmbppjbjaaGreatChain
namespace Go.Proofs.YtfilolmbppjbjaaGreat
open Go Go.RowKit

/-- A slice that begins at p holds these events, and lies below B. -/
def EvsAt (B : Nat) (w : World) (p : Option Addr) (l : List Ev) : Prop :=
  l = [] ∨ ∃ b o, p = some ⟨b, o, none⟩ ∧ b < B ∧ ∀ k (h : k < l.length), w.rangeAt b (o + k * 37) (evr l[k]).toList
theorem EvsAt.past {B : Nat} {w v : World} {p : Option Addr} {l : List Ev} (h : EvsAt B w p l) (hb : Below B w v) : EvsAt B v p l := by
  rcases h with h | ⟨b, o, hp, hB, hr⟩
  · exact .inl h
  · refine .inr ⟨b, o, hp, hB, fun k hk j x hx => ?_⟩
    rw [hb.cell (p := ⟨b, _, none⟩) hB]
    exact hr k hk j x hx
theorem EvsAt.at {B : Nat} {w : World} {p : Option Addr} {l : List Ev} (h : EvsAt B w p l) (k : Nat) (hk : k < l.length) : ∃ b o, p = some ⟨b, o, none⟩ ∧ ∀ (v : World), Below B w v → v.rangeAt b (o + k * 37) (evr l[k]).toList := by
  rcases h with h | ⟨b, o, hp, hB, hr⟩
  · subst h; simp at hk
  · refine ⟨b, o, hp, fun v hb j x hx => ?_⟩
    rw [hb.cell (p := ⟨b, _, none⟩) hB]
    exact hr k hk j x hx
theorem EvsAt.mono {B B' : Nat} {w : World} {p : Option Addr} {l : List Ev} (h : EvsAt B w p l) (hB : B ≤ B') : EvsAt B' w p l := by
  rcases h with h | ⟨b, o, hp, hb, hr⟩
  · exact .inl h
  · exact .inr ⟨b, o, hp, by omega, hr⟩
theorem wpList_load_ev {ops : Array Oper} {rest : List Oper} {op : Oper} {a : Act} {w : World} {Q : Exit → Act → World → Prop} (hgd : op.guard = none) (x : Operand) (ho : op.op = .load 34 x)
    (b o : Nat) (hx : a.eval x = .pointer (some ⟨b, o, none⟩)) (e : Ev) (hs : e.sum.length = 32) (hr : w.rangeAt b o (evr e).toList) (h : wpList Tryz.prog ops Q rest (a.put op.dst (.agg (evr e))) w) : wpList Tryz.prog ops Q (op :: rest) a w := by
  refine wpList_load_mid hgd 34 x ho b o hx (evr e).toList _ hr Tryz.underlying34 rfl (by rw [Array.length_toList, evr_size, hs]; exact info41) ?_
  rw [Array.toArray_toList]; exact h

/-- Events that are walked. -/
def Fit (l : List Ev) : Prop := ∀ e ∈ l, e.fit
theorem z41 (w : World) : (zeroValue 34).run Tryz.prog w = .ok (.agg (evr zeroE)) w := (Tryz.zeroValue34 w).trans rfl
theorem row41 (e : Ev) (hs : e.sum.length = 32) : (Tryz.prog.info? 34).map (·.size) = some (evr e).size := by rw [evr_size, hs]; exact info41
theorem evr_same (a b : Ev) (ha : a.sum.length = 32) (hb : b.sum.length = 32) : (evr a).size = (evr b).size := by rw [evr_size, evr_size, ha, hb]

set_option maxRecDepth 100000 in
set_option maxHeartbeats 1000000 in
theorem valid_all (l : List Ev) (hl : Fit l) (hn : l.length ≤ 1000) (p : Option Addr) (cap : Nat) (w : World) (hE : EvsAt w.heap.size w p l) :
    Calls Tryz.prog 35 #[.slice p l.length cap] w fun r w' => r = .returned (.bool (l.all okP)) ∧ Below w.heap.size w w' := by
  have hz := z41
  have hE' := Lib.hid hE
  have hfit := Lib.hid hl
  have hll : (l.length : Int) ≤ 1000 := by omega
  clear hE hl
  go_enter Tryz.func35, Tryz.ntmps35
  go_wp2_with fail
  go_loopw [7] (fun i wr => ∃ k : Nat, k ≤ l.length ∧ i = .int .i64 (k : Int) ∧ Hid ((l.take k).all okP = true) ∧ Hid (KW w.heap.size w [] wr)) (fun i _ => l.length - (intOf i).toNat)
  case atStart => exact ⟨0, Nat.zero_le _, rfl, Lib.hid rfl, Lib.hid (KW.start w)⟩
  case round =>
    obtain ⟨k, hk, rfl, hall, hK⟩ := hrel
    by_cases hlt : k < l.length
    · have hb : (k : Int) < (l.length : Int) := by omega
      obtain ⟨b, o, rfl, hr⟩ := hE'.out.at k hlt
      have hr' := Lib.hid (hr wr hK.out.bel)
      have hft := Lib.hid (hfit.out _ (List.getElem_mem hlt))
      have hts : Hid ((l.take (k + 1)).all okP = okP l[k]) := Lib.hid (by rw [List.take_succ_eq_append_getElem hlt, List.all_append, hall.out]; simp)
      have hno : Hid (okP l[k] = false → l.all okP = false) := Lib.hid (fun h => by rw [List.all_eq_false]; exact ⟨_, List.getElem_mem hlt, by rw [h]; decide⟩)
      clear hr
      generalize l[k] = e at *
      have cv := Lib.hid (fun v => evalid_any e hft.out.w.s (by have := hft.out.n; omega) v)
      have hK1 := Lib.hid (hK.out.new (.cells (evr zeroE) 34))
      have hK2 := Lib.hid (hK1.out.row 0 rfl hK.out.size (evr e))
      generalize okP e = bb at *
      go_wp2_with (first
        | (with_reducible refine wpList_load_ev rfl (.tmp 9) rfl b (o + k * 37) rfl e hft.out.w.s hr'.out ?_)
        | (with_reducible refine wpList_store_row rfl 34 (.tmp 4) (.tmp 10) rfl _ (evr e) rfl rfl 34 _ (hK1.out.at 0 rfl) (row41 e hft.out.w.s) (evr_same _ _ rfl hft.out.w.s) (evr_one e) ?_)
        | (with_reducible refine wpList_load_row rfl 34 (.tmp 4) rfl _ rfl 34 (evr e) _ (hK2.out.at 0 rfl) Tryz.underlying34 rfl (row41 e hft.out.w.s) ?_))
      refine (cv.out _).mono ?_
      rintro r u ⟨rfl, hu⟩
      have hK3 := Lib.hid (hK2.out.past hu).drop
      clear hu
      cases bb
      · have hq := Lib.hid (hno.out rfl)
        clear hno hts
        go_wp2_with fail
        go_ret
        exact ⟨by rw [hq.out]; rfl, hK3.out.bel⟩
      · clear hno
        go_wp2_with fail
        go_roundw
        case rel => exact ⟨k + 1, by omega, by go_num, hts, hK3⟩
        case measure => simp [intOf]; omega
    · obtain rfl : k = l.length := by omega
      have hb : ¬ (l.length : Int) < (l.length : Int) := by omega
      have hall' : Hid (l.all okP = true) := Lib.hid (by have := hall.out; rwa [List.take_length] at this)
      go_wp2_with fail
      go_ret
      exact ⟨by rw [hall'.out]; rfl, hK.out.bel⟩
end Go.Proofs.YtfilolmbppjbjaaGreat
