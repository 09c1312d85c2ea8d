/-
  Which files are due: what due, with whatever loop it is told to, and Due of the program return.
-/
import Derived.Test.YtjfgmkgcdkocgaaLeafs
import Derived.Test.YtjfgmkgcdkocgaaCollect
namespace Go.Proofs.Ytjfgmkgcdkocgaa
open Go Go.RowKit
attribute [local go_sem] Oper.semAt_some

/-- Files that lie at an address, below B. -/
def FilesAt (B : Nat) (w : World) (p : Option Addr) (l : List Fl) : Prop :=
  l = [] ∨ ∃ b o, p = some ⟨b, o, none⟩ ∧ b < B ∧ ∀ k (hk : k < l.length), w.rangeAt b (o + k * 6) (flr l[k]).toList
theorem rangeAt_past {B b o : Nat} {w v : World} {cs : List Value} (h : w.rangeAt b o cs) (hb : Below B w v) (hB : b < B) : v.rangeAt b o cs := fun j x hx => (hb.cell (p := ⟨b, o + j, none⟩) hB).trans (h j x hx)
theorem FilesAt.past {B : Nat} {w v : World} {p : Option Addr} {l : List Fl} (h : FilesAt B w p l) (hb : Below B w v) : FilesAt B v p l := by
  rcases h with h | ⟨b, o, h1, h2, h3⟩
  · exact .inl h
  · exact .inr ⟨b, o, h1, h2, fun k hk => rangeAt_past (h3 k hk) hb h2⟩
theorem FilesAt.mono {B B' : Nat} {w : World} {p : Option Addr} {l : List Fl} (h : FilesAt B w p l) (hb : B ≤ B') : FilesAt B' w p l := by
  rcases h with h | ⟨b, o, h1, h2, h3⟩
  · exact .inl h
  · exact .inr ⟨b, o, h1, by omega, h3⟩
theorem FilesAt.at {B : Nat} {w : World} {p : Option Addr} {l : List Fl} (h : FilesAt B w p l) (k : Nat) (hk : k < l.length) : ∃ b o, p = some ⟨b, o, none⟩ ∧ b < B ∧ ∀ v, Below B w v → v.rangeAt b (o + k * 6) (flr l[k]).toList := by
  rcases h with h | ⟨b, o, h1, h2, h3⟩
  · rw [h] at hk; cases hk
  · exact ⟨b, o, h1, h2, fun v hv => rangeAt_past (h3 k hk) hv h2⟩

def dueL (l : List Fl) (fl : Int) : List Int := (l.filter fun f => mayC f fl == 0).map Fl.id
theorem due_yes (l : List Fl) (fl : Int) (k : Nat) (hk : k < l.length) (h : mayC l[k] fl = 0) : dueL (l.take (k + 1)) fl = dueL (l.take k) fl ++ [l[k].id] := by
  rw [List.take_succ_eq_append_getElem hk]
  unfold dueL
  rw [List.filter_append, List.map_append]
  simp [h]
theorem due_no (l : List Fl) (fl : Int) (k : Nat) (hk : k < l.length) (h : mayC l[k] fl ≠ 0) : dueL (l.take (k + 1)) fl = dueL (l.take k) fl := by
  rw [List.take_succ_eq_append_getElem hk]
  unfold dueL
  rw [List.filter_append, List.map_append]
  simp [h]
theorem due_pre (l : List Fl) (fl : Int) (k : Nat) : dueL (l.take k) fl <+: dueL l fl := by
  refine ⟨dueL (l.drop k) fl, ?_⟩
  unfold dueL
  rw [← List.map_append, ← List.filter_append, List.take_append_drop]
def encI (x : Int) : Array Value := #[.int .i64 x]

/-- What the iterator knows between two rounds. -/
structure DW (J : List Int → World → Prop) (A : Nat → World → Prop) (n₀ : Nat) (W0 : World) (cb fb : Nat) (cc : Array Value) (ct : TypeId) (fc : Array Value) (ft : TypeId) (pre : List Int) (v : World) : Prop where
  j : J pre v
  ac : A cb v ∨ cb < n₀
  hc : v.heap[cb]? = some (.cells cc ct)
  af : A fb v ∨ fb < n₀
  hf : v.heap[fb]? = some (.cells fc ft)
  bel : Below n₀ W0 v
  le : n₀ ≤ W0.heap.size
section
variable {J : List Int → World → Prop} {A : Nat → World → Prop} {n₀ : Nat} {W0 : World} {cb fb : Nat} {cc fc : Array Value} {ct ft : TypeId} {pre : List Int} {v : World}
theorem DW.past (h : DW J A n₀ W0 cb fb cc ct fc ft pre v) (hJg : ∀ s X Y, J s X → Below X.heap.size X Y → J s Y) (hAg : ∀ b X Y, A b X → Below X.heap.size X Y → A b Y) {v' : World} (hB : Below v.heap.size v v') : DW J A n₀ W0 cb fb cc ct fc ft pre v' :=
  { h with
    j := hJg _ _ _ h.j hB
    ac := h.ac.imp (fun q => hAg _ _ _ q hB) id
    hc := (hB.block _ (lt_of_some h.hc)).trans h.hc
    af := h.af.imp (fun q => hAg _ _ _ q hB) id
    hf := (hB.block _ (lt_of_some h.hf)).trans h.hf
    bel := h.bel.trans (hB.mono (Nat.le_trans h.le h.bel.size)) }
theorem DW.round (h : DW J A n₀ W0 cb fb cc ct fc ft pre v) {pre' : List Int} {v' : World} (hj : J pre' v') (hk : Keep n₀ A v v') : DW J A n₀ W0 cb fb cc ct fc ft pre' v' :=
  { h with
    j := hj
    ac := h.ac.imp (fun q => (hk.2 _ _ _ q h.hc).1) id
    hc := h.ac.elim (fun q => (hk.2 _ _ _ q h.hc).2) (fun q => (hk.1.block _ q).trans h.hc)
    af := h.af.imp (fun q => (hk.2 _ _ _ q h.hf).1) id
    hf := h.af.elim (fun q => (hk.2 _ _ _ q h.hf).2) (fun q => (hk.1.block _ q).trans h.hf)
    bel := h.bel.trans hk.1 }
end
theorem wpListIn_load_fl {F : Fence} {n : Nat} {ops : Array Oper} {rest : List Oper} {o : Oper} {a : Act} {w : World} {Q : Exit → Act → World → Prop} (hg : o.guard = none) (x : Operand) (ho : o.op = .load 27 x) (b k : Nat) (hx : a.eval x = .pointer (some ⟨b, k, none⟩)) (f : Fl) (hr : w.rangeAt b k (flr f).toList)
    (h : wpListIn F n Try.prog ops Q rest (a.put o.dst (.agg (flr f))) w) : wpListIn F n Try.prog ops Q (o :: rest) a w :=
  wpListIn_load_mid hg 27 x ho b k hx (flr f).toList _ hr Try.underlying27 rfl info27 h

set_option maxRecDepth 100000 in
set_option maxHeartbeats 1000000 in
theorem due1 (l : List Fl) (fl : Int) (hn : l.length ≤ 1000) (p : Option Addr) (cap n₀ cb fb : Nat) (w : World) (hn₀ : n₀ ≤ w.heap.size) (hE : FilesAt n₀ w p l) (m : Nat) (hm : 1 ≤ m) :
    SeqX Fence.wide m Try.prog 36 #[.pointer (some ⟨cb, 0, none⟩), .pointer (some ⟨fb, 0, none⟩)] encI n₀ [(cb, .cells #[.slice p l.length cap] 22), (fb, .cells #[.int .i64 fl] 3)] (dueL l fl) w := by
  intro lp J Jx A W hW hcap hJg hJr hAg hAr hAn hY h0
  obtain ⟨hAc, hcb⟩ := hcap (cb, .cells #[.slice p l.length cap] 22) (by simp)
  obtain ⟨hAf, hfb⟩ := hcap (fb, .cells #[.int .i64 fl] 3) (by simp)
  have hE' := Lib.hid (hE.past (hW.mono hn₀))
  have hll : (l.length : Int) ≤ 1000 := by omega
  have hnW : Hid (n₀ ≤ W.heap.size) := Lib.hid (Nat.le_trans hn₀ hW.size)
  have hcell : W.cell? ⟨cb, 0, none⟩ = some (.slice p l.length cap) := cell_of_row W cb 0 _ _ _ hcb
  have hL0 : Hid (DW J A n₀ W cb fb #[.slice p l.length cap] 22 #[.int .i64 fl] 3 [] W) := Lib.hid ⟨h0, hAc, hcb, hAf, hfb, Below.refl _ _, hnW.out⟩
  have hz := zero27
  clear hE hW hn₀ hcap hcb hfb hAc hAf h0
  refine callsIn_of_wp Try.func36 rfl trivial ?_ rfl
  simp only [Try.ntmps36, List.size_toArray, List.length_cons, List.length_nil, Nat.reduceAdd, Nat.reduceSub, Array.replicate_succ, Array.replicate_zero, List.push_toArray, List.append_toArray, List.nil_append, List.cons_append]
  gi_wp2_with fail
  gi_loopw [8] (fun i wr => ∃ k : Nat, k ≤ l.length ∧ i = .int .i64 (k : Int) ∧ Hid (DW J A n₀ W cb fb #[.slice p l.length cap] 22 #[.int .i64 fl] 3 (dueL (l.take k) fl) wr)) (fun i _ => l.length - (intOf i).toNat)
  case atStart => exact ⟨0, Nat.zero_le _, rfl, hL0⟩
  case round =>
    obtain ⟨k, hk, rfl, hL⟩ := hrel
    rename_i wr
    by_cases hlt : k < l.length
    · have hb : (k : Int) < (l.length : Int) := by omega
      obtain ⟨b, o, rfl, _, hr⟩ := hE'.out.at k hlt
      have hr' := Lib.hid (hr wr hL.out.bel)
      have hyes := Lib.hid (due_yes l fl k hlt)
      have hno := Lib.hid (due_no l fl k hlt)
      have hpre := Lib.hid (due_pre l fl (k + 1))
      clear hr hcell
      generalize l[k] = f at *
      have cm := Lib.hid (fun v => may_any f fl v)
      have hB0 : Hid (Below wr.heap.size wr ((wr.alloc (.cells (flr fl0) 27)).setRow wr.heap.size (flr f))) := Lib.hid (below_setRow ((Below.refl _ _).alloc (Nat.le_refl _) _) (Nat.le_refl _) _)
      have hE0 : Hid ((wr.alloc (.cells (flr fl0) 27)).heap[wr.heap.size]? = some (.cells (flr fl0) 27)) := Lib.hid (by rw [heap_alloc_if, if_pos rfl])
      have hE1 := Lib.hid (setRow_heap _ _ _ (flr f) _ _ hE0.out)
      have hL1 := Lib.hid (hL.out.past hJg hAg hB0.out)
      have hcf := cell_of_row _ fb 0 _ _ _ hL1.out.hf
      simp only [List.getElem?_toArray, List.getElem?_cons_zero] at hcf
      by_cases hm0 : mayC f fl = 0
      · have hd := Lib.hid (hyes.out hm0)
        rw [hm0] at cm
        clear hyes hno hm0
        gi_wp2_with (first
          | (with_reducible refine wpListIn_load_fl rfl (.tmp 10) rfl b (o + k * 6) rfl f hr'.out ?_)
          | (with_reducible refine wpListIn_store_row rfl 27 (.tmp 5) (.tmp 11) rfl _ (flr f) rfl rfl 27 _ hE0.out (row27 f) (flr_same _ _) (flr_one f) ?_)
          | (with_reducible refine wpListIn_load_row rfl 27 (.tmp 5) rfl _ rfl 27 (flr f) _ hE1.out Try.underlying27 rfl (row27 f) ?_))
        refine ⟨trivial, (callsIn_wide.2 (cm.out _)).mono ?_⟩
        rintro r V ⟨rfl, hB5⟩
        have hL2 := Lib.hid (hL1.out.past hJg hAg hB5)
        have hE2 := Lib.hid ((hB5.block _ (lt_of_some hE1.out)).trans hE1.out)
        have hci := cell_of_row _ wr.heap.size 0 _ _ _ hE2.out
        have hci' : V.cell? ⟨wr.heap.size, 0, none⟩ = some (.int .i64 f.id) := hci
        obtain ⟨fn, tmps, assign, body, hy, hR⟩ := hY _ f.id _ (by rw [← hd.out]; exact hpre.out) hL2.out.j
        dsimp only [encI] at hy
        have hR' := Lib.hid hR
        clear hB5 hR hcf hci
        gi_wp2_with fail
        refine hR'.out.mono ?_
        rintro e V3 (⟨rfl, hJ3, hk3⟩ | ⟨rfl, hJx3⟩)
        · have hL8 := Lib.hid (hL2.out.round hJ3 hk3)
          clear hJ3 hk3 hy hR'
          gi_wp2_with fail
          go_roundw
          case rel => exact ⟨k + 1, by omega, by go_num, Lib.hid (by rw [hd.out]; exact hL8.out)⟩
          case measure => simp [intOf]; omega
        · have hpf : Hid (dueL (l.take k) fl ++ [f.id] <+: dueL l fl) := Lib.hid (by rw [← hd.out]; exact hpre.out)
          gi_wp2_with fail
          refine bodyPost_ret (results_none rfl _ _ _) rfl ?_
          exact ⟨⟨_, rfl⟩, .inr ⟨_, hpf.out, hJx3⟩⟩
      · have hd := Lib.hid (hno.out hm0)
        have t1 : (mayC f fl == 0) = false := by simpa using hm0
        clear hyes hno hm0
        generalize mayC f fl = M at *
        gi_wp2_with (first
          | (with_reducible refine wpListIn_load_fl rfl (.tmp 10) rfl b (o + k * 6) rfl f hr'.out ?_)
          | (with_reducible refine wpListIn_store_row rfl 27 (.tmp 5) (.tmp 11) rfl _ (flr f) rfl rfl 27 _ hE0.out (row27 f) (flr_same _ _) (flr_one f) ?_)
          | (with_reducible refine wpListIn_load_row rfl 27 (.tmp 5) rfl _ rfl 27 (flr f) _ hE1.out Try.underlying27 rfl (row27 f) ?_))
        refine ⟨trivial, (callsIn_wide.2 (cm.out _)).mono ?_⟩
        rintro r V ⟨rfl, hB5⟩
        have hL2 := Lib.hid (hL1.out.past hJg hAg hB5)
        clear hB5 hcf
        have w1 : IntKind.i64.wrap ((k : Int) + 1) = (k : Int) + 1 := by rw [IntKind.wrap_i64]; omega
        gi_wp2_with (refine ⟨(fun _ hf => by cases hf), ?_⟩)
        go_roundw
        case rel => exact ⟨k + 1, by omega, by go_num, Lib.hid (by rw [hd.out]; exact hL2.out)⟩
        case measure => simp [intOf]; omega
    · obtain rfl : k = l.length := by omega
      have hb : ¬ (l.length : Int) < (l.length : Int) := by omega
      have hj : Hid (J (dueL l fl) wr) := Lib.hid (by have := hL.out.j; rw [List.take_length] at this; exact this)
      gi_wp2_with fail
      go_end0
      exact ⟨⟨_, rfl⟩, .inl hj.out⟩

set_option maxHeartbeats 1000000 in
theorem dueF_any (p : Option Addr) (k cap : Nat) (fl : Int) (w : World) :
    Calls Try.prog 25 #[.slice p k cap, .int .i64 fl] w fun e w' => e = .returned (.func (.func 36) #[] #[.pointer (some ⟨w.heap.size, 0, none⟩), .pointer (some ⟨w.heap.size + 1, 0, none⟩)]) ∧ w' = (w.alloc (.cells #[.slice p k cap] 22)).alloc (.cells #[.int .i64 fl] 3) := by
  go_enter Try.func25, Try.ntmps25
  go_wp2_with fail
  go_ret
  exact ⟨rfl, rfl⟩

theorem keepsFrom_below {B : Nat} {W W' : World} (h : Below W.heap.size W W') : KeepsFrom B W W' := ⟨h.size, fun k _ _ hk _ => (h.block k (lt_of_some hk)).trans hk⟩
def ids (l : List Int) : List Value := l.map (Value.int .i64)
theorem ids_snoc (l : List Int) (x : Int) : ids (l ++ [x]) = ids l ++ [.int .i64 x] := by simp [ids]
theorem info3' : (Try.prog.info? 3).map (fun i => (i.zero, i.size, i.bytes)) = some (some (.int .i64 0), 1, 8) := by kernel_rfl

theorem cell_new (w : World) (c : Array Value) (t : TypeId) (j : Nat) (v : Value) (h : c[j]? = some v) : (w.alloc (.cells c t)).cell? ⟨w.heap.size, j, none⟩ = some v := by
  rw [cell_of_row _ w.heap.size j c t (0, 0) (by rw [heap_alloc_if, if_pos rfl])]; exact h
set_option maxRecDepth 100000 in
set_option maxHeartbeats 1000000 in
theorem due_any (l : List Fl) (fl : Int) (hn : l.length ≤ 1000) (p : Option Addr) (cap : Nat) (w : World) (hE : FilesAt w.heap.size w p l) :
    Calls Try.prog 15 #[.slice p l.length cap, .int .i64 fl] w fun r w' => ∃ v, r = .returned v ∧ w'.ownsRow w.heap.size 3 1 v (dueL l fl).length (ids (dueL l fl)) ∧ Below w.heap.size w w' := by
  refine (callsIn_wide (n := 5)).1 ?_
  have hTl : Hid ((dueL l fl).length ≤ 1000) := Lib.hid (by unfold dueL; rw [List.length_map]; exact Nat.le_trans (List.length_filter_le _ _) hn)
  have hseq := Lib.hid (fun v hv he => due1 l fl hn p cap w.heap.size (w.heap.size + 1) (w.heap.size + 2) v hv he 4 (by decide))
  refine callsIn_of_wp_marks Try.func15 rfl trivial ?_ rfl
  simp only [Try.ntmps15, List.size_toArray, List.length_cons, List.length_nil, Nat.reduceAdd, Nat.reduceSub, Array.replicate_succ, Array.replicate_zero, List.push_toArray, List.append_toArray, List.nil_append, List.cons_append]
  gi_wp2_with fail
  refine ⟨trivial, (callsIn_wide.2 (dueF_any p l.length cap fl _)).mono ?_⟩
  rintro e w1 ⟨rfl, rfl⟩
  gi_wp2_with fail
  have hE1 : Hid (FilesAt w.heap.size (((w.alloc (.cells #[.slice none 0 0] 32)).alloc (.cells #[.slice p l.length cap] 22)).alloc (.cells #[.int .i64 fl] 3)) p l) := Lib.hid (hE.past ((((Below.refl _ _).alloc (Nat.le_refl _) _).alloc (by simp) _).alloc (by simp; omega) _))
  have hK1 : Hid (KW w.heap.size w [] (((w.alloc (.cells #[.slice none 0 0] 32)).alloc (.cells #[.slice p l.length cap] 22)).alloc (.cells #[.int .i64 fl] 3))) := Lib.hid ((((KW.start w).new _).new _).new _).drop.drop.drop
  have hbx : Hid (Boxed (((w.alloc (.cells #[.slice none 0 0] 32)).alloc (.cells #[.slice p l.length cap] 22)).alloc (.cells #[.int .i64 fl] 3)) w.heap.size 32 (.slice none 0 0)) := Lib.hid (((Boxed.new w 32 _).alloc _).alloc _)
  have hcb : Hid ((((w.alloc (.cells #[.slice none 0 0] 32)).alloc (.cells #[.slice p l.length cap] 22)).alloc (.cells #[.int .i64 fl] 3)).heap[w.heap.size + 1]? = some (.cells #[.slice p l.length cap] 22)) := Lib.hid (by rw [heap_alloc_if, if_neg (by simp), heap_alloc_if, if_pos (by simp)])
  have hfb : Hid ((((w.alloc (.cells #[.slice none 0 0] 32)).alloc (.cells #[.slice p l.length cap] 22)).alloc (.cells #[.int .i64 fl] 3)).heap[w.heap.size + 2]? = some (.cells #[.int .i64 fl] 3)) := Lib.hid (by rw [heap_alloc_if, if_pos (by simp)])
  have hsz : (((w.alloc (.cells #[.slice none 0 0] 32)).alloc (.cells #[.slice p l.length cap] 22)).alloc (.cells #[.int .i64 fl] 3)).heap.size = w.heap.size + 3 := by simp
  generalize ((w.alloc (.cells #[.slice none 0 0] 32)).alloc (.cells #[.slice p l.length cap] 22)).alloc (.cells #[.int .i64 fl] 3) = V at *
  refine wpIn_rangeX rfl (by decide) (gf := 36) (lb := #[.pointer (some ⟨w.heap.size + 1, 0, none⟩), .pointer (some ⟨w.heap.size + 2, 0, none⟩)]) rfl trivial (enters_of Try.func36 (by kernel_rfl) rfl)
    (hseq.out V (by omega) hE1.out) (by omega) (fun _ => rfl)
    (fun b W => w.heap.size ≤ b ∧ SB w.heap.size 32 b W)
    (fun pre W => KW w.heap.size w [] W ∧ SC w.heap.size w.heap.size 32 3 1 pre.length (ids pre) W)
    (fun _ _ _ => False)
    { grow := fun s X Y h hb => ⟨h.1.past hb, h.2.grow hb⟩
      row := fun s b X c h hb => ⟨h.1.rowOther hb.1 (by simp) c, h.2.row hb.2 c⟩
      obj := fun s k X o o' h hk hh ho => ⟨h.1.obj (by simp) o' (by omega) hh ho, h.2.obj o' hh ho⟩ }
    (fun _ _ _ _ _ _ h _ _ _ => h)
    { grow := fun b X Y h hb => ⟨h.1, h.2.grow hb⟩
      row := fun b b' X c h h' => ⟨h.1, h.2.row h'.2 c⟩
      obj := fun b k X o o' h hk hh ho => ⟨h.1, h.2.obj o' hh ho⟩
      new := fun X o h => ⟨h.1.size, SB.new h.2 o⟩ }
    ⟨hK1.out, _, hbx.out, World.ownsRow_nil _ _ _ _, fun _ => rfl⟩
    (fun x hx => by
      simp only [List.mem_cons, List.not_mem_nil, or_false] at hx
      rcases hx with rfl | rfl
      · exact ⟨.inl ⟨by simp, by simp, _, hbx.out, by simp; omega, fun g hg => by cases hg⟩, hcb.out⟩
      · exact ⟨.inl ⟨by simp, by simp, _, hbx.out, by simp; omega, fun g hg => by cases hg⟩, hfb.out⟩)
    (fun x a' W => a' = { tmps := #[.slice p l.length cap, .int .i64 fl, undef, undef, .slice none 0 0, .pointer (some ⟨w.heap.size, 0, none⟩), .int .i64 x, .slice p l.length cap, .int .i64 fl, .func (.func 36) #[] #[.pointer (some ⟨w.heap.size + 1, 0, none⟩), .pointer (some ⟨w.heap.size + 2, 0, none⟩)], .int .i64 x, undef, undef, undef, undef, undef], defers := [] })
    ?ax ?assign ?body ?done ?stop
  case ax => exact fun x a' k X o o' h _ _ _ => h
  case assign =>
    rintro lp pre x W K hpx hI hK
    dsimp only [encI]
    gi_wp2_with fail
    exact hK _ _ (keepsFrom_below (Below.refl _ _)) ⟨Below.refl _ _, fun b _ _ ha hb => ⟨ha, hb⟩⟩ hI rfl
  case body =>
    rintro lp pre x a' W hpx ⟨hK, v, hv, hown, hv0⟩ rfl
    have hpl : pre.length + 1 ≤ (dueL l fl).length := by have := hpx.length_le; simpa using this
    have hTl' := hTl.out
    obtain ⟨base, hob, hb1, hb2, hb3⟩ := own_base hown hK.size
    have hcv := hv.cell
    obtain ⟨i0, hi, hz0, hz1, hz2⟩ := info_parts info3'
    have hnil : v = .slice none 0 0 ∨ ∃ g m c, v = .slice (some ⟨g, 0, none⟩) m c := by
      rcases hown.2 with ⟨h, _⟩ | ⟨g, c, _, h, _⟩
      · exact .inl h
      · exact .inr ⟨g, _, c, h⟩
    have hcx : Hid (∀ j u, [Value.int .i64 x][j]? = some u → (W.alloc (.cells #[.int .i64 x] 3)).cell? ((⟨W.heap.size, 0, none⟩ : Addr).add j) = some u) := Lib.hid (fun j u hu => by
      rw [Addr.add_mid, Nat.zero_add]
      exact cell_new W _ 3 j u (by simpa using hu))
    have hob' := Lib.hid (hob.alloc (.cells #[.int .i64 x] 3))
    have hone : Hid (∀ u ∈ [Value.int .i64 x], u.oneCell' = true) := Lib.hid (by simp [Value.oneCell'])
    rcases hnil with rfl | ⟨g, m, c, rfl⟩
    all_goals
      gi_wp2_with (gi_at_builtin; refine wpListIn_append_own _ rfl _ _ 32 rfl base 3 i0 (.int .i64 0) 1 8 Try.underlying32 hi hz0 hz1 hz2 rfl (by decide) _ pre.length (ids pre) rfl hob'.out ⟨W.heap.size, 0, none⟩ 1 1 [.int .i64 x] rfl rfl hcx.out hone.out (by unfold maxLen; omega) (by omega) (by simp; omega) ?_; intro v' w1 hown' hgrow _; obtain ⟨g', cap', rfl⟩ := ownsRow_succ hown'; obtain ⟨hv1, hv2, hr2, hk2, hb2⟩ := hv.appended (by decide) hown hK.size (Nat.le_refl _) (own_mono hown' hb1) hgrow; have hkp := appended_keep hv (by decide) hown hb3 hown' hgrow; have hc1 := hv1.cell; have hf1 := hv1.frozen)
    all_goals exact ⟨hk2.from _, ⟨hb2, fun b c t' ha hb => by obtain ⟨p1, p2⟩ := hkp b c t' ha.2 hb; exact ⟨⟨ha.1, p1⟩, p2⟩⟩, ⟨hK.le, hK.bel.trans hb2, fun _ h => (by cases h), hK.nd⟩, _, hv2, by rw [ids_snoc]; simpa using hr2, by simp⟩
  case done =>
    rintro D W hD ⟨hK, v, hv, hown, _⟩ hdef
    have hcv := hv.cell
    gi_wp2_with fail
    refine ⟨by simp, .inl ⟨_, _, rfl, run_takeDeferred hdef, ?_⟩⟩
    refine ⟨_, results_tmp rfl _ _ _, v, rfl, ownsRow_putObj hown _ hdef rfl, ?_⟩
    exact hK.bel.trans (belowK_b (w := w) (Nat.le_refl _) W D _ _ (by omega) hdef rfl rfl)
  case stop => exact fun _ _ _ _ _ _ h _ => h.elim
end Go.Proofs.Ytjfgmkgcdkocgaa
