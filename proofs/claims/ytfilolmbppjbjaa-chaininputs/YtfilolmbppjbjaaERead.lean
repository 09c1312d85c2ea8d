/-
  What 'read' returns of a text that begins with parts.
-/
import Derived.Test.YtfilolmbppjbjaaEGets
import Derived.Test.YtfilolmbppjbjaaGevent
namespace Go.Proofs.Ytfilolmbppjbjaa
open Go Go.RowKit

theorem zero26' (w : World) : (zeroValue 26).run Try.prog w = .ok (.agg (row zs)) w := (Try.zeroValue26 w).trans rfl
theorem row26' (d : List UInt8) (hd : d.length = 32) : (Try.prog.info? 26).map (·.size) = some (row d).size := by rw [row_size, hd]; exact info28
theorem row_eq' (c d : List UInt8) (hc : c.length = 32) (hd : d.length = 32) : (row c).size = (row d).size := by rw [row_size, row_size, hc, hd]
set_option maxRecDepth 100000 in
set_option maxHeartbeats 1000000 in
theorem sum_get (z d : List UInt8) (hd : d.length = 32) (r : List UInt8) (_hr : (d ++ r).length ≤ 9223372036854775807) (w : World) :
    Calls Try.prog 110 #[.agg (row z), .string (mk (d ++ r))] w fun e w' => e = .returned (.tuple #[.iface 99 (.agg (row d)), .string (mk r), .bool true]) ∧ Below w.heap.size w w' := by
  have c := Lib.hid (fun v => getSum_any (mk (d ++ r)) v)
  rw [li_mk', sR_some (gs_app hd r)] at c
  have hz := zero26'
  have hd' := Lib.hid hd
  have hB0 : Hid (Below w.heap.size w (w.alloc (.cells (row z) 99))) := Lib.hid ((Below.refl _ _).alloc (Nat.le_refl _) _)
  generalize mk (d ++ r) = s at *
  clear _hr hd
  go_enter Try.func110, Try.ntmps110
  go_wp2_with fail
  refine (c.out _).mono ?_
  rintro e v ⟨rfl, hb⟩
  have hE0 : Hid ((v.alloc (.cells (row zs) 26)).heap[v.heap.size]? = some (.cells (row zs) 26)) := Lib.hid (by rw [heap_alloc_if, if_pos rfl])
  have hE1 := Lib.hid (setRow_heap _ _ _ (row d) _ _ hE0.out)
  have hB2 : Hid (Below w.heap.size w ((v.alloc (.cells (row zs) 26)).setRow v.heap.size (row d))) := Lib.hid ((hB0.out.trans (hb.mono hB0.out.size)).trans ((below_setRow ((Below.refl v.heap.size v).alloc (Nat.le_refl _) _) (Nat.le_refl _) _).mono (Nat.le_trans hB0.out.size hb.size)))
  clear hb
  go_wp2_with (first
    | (with_reducible refine wpList_store_row rfl 26 (.tmp 7) (.tmp 13) rfl _ (row d) rfl rfl 26 _ hE0.out (row26' d hd'.out) (row_eq' _ _ (by decide) hd'.out) (row_one d) ?_)
    | (with_reducible refine wpList_load_row rfl 26 (.tmp 7) rfl _ rfl 26 (row d) _ hE1.out Try.underlying26 rfl (row26' d hd'.out) ?_))
  go_returns
  exact ⟨rfl, hB2.out⟩

/-- Parts of one type. -/
def like : Pt → Pt → Prop
  | .kind _, .kind _ => True
  | .id _, .id _ => True
  | .label _, .label _ => True
  | .moment _, .moment _ => True
  | .added _, .added _ => True
  | .length _, .length _ => True
  | .sum _, .sum _ => True
  | _, _ => False
/-- A part that is read again as it was put. -/
def Pt.good : Pt → Prop
  | .label l => l.length ≤ 100
  | .sum d => d.length = 32
  | .kind n | .id n | .moment n | .added n | .length n => 0 ≤ n ∧ n ≤ 1099511627776
theorem clI_good {n : Int} (h : 0 ≤ n ∧ n ≤ 1099511627776) : ((clI n : Nat) : Int) = n ∧ clI n ≤ big := by
  unfold clI big
  constructor <;> omega
theorem info65' : (Try.prog.info? 65).map (fun i => (i.zero, i.size, i.bytes)) = some (some .nilIface, 1, 16) := by kernel_rfl
theorem iface_new (w : World) (u : Value) (t : TypeId) : ∀ j x, [u][j]? = some x → (w.alloc (.cells #[u] t)).cell? ((⟨w.heap.size, 0, none⟩ : Addr).add j) = some x := by
  intro j x h
  rw [Addr.add_mid, Nat.zero_add]
  exact cell_new w _ t j x (by simpa using h)
theorem putL_cons (p : Pt) (l : List Pt) : putL (p :: l) = putP p ++ putL l := rfl
theorem putL_drop (l : List Pt) (k : Nat) (h : k < l.length) (r : List UInt8) : putL (l.drop k) ++ r = putP l[k] ++ (putL (l.drop (k + 1)) ++ r) := by
  rw [List.drop_eq_getElem_cons h, putL_cons, List.append_assoc]
theorem putL_drop_le (l : List Pt) (k : Nat) : (putL (l.drop k)).length ≤ (putL l).length := by
  induction l generalizing k with
  | nil => simp
  | cons p l ih =>
    cases k with
    | zero => exact Nat.le_refl _
    | succ k =>
      have := ih k
      rw [List.drop_succ_cons, putL_cons, List.length_append]; omega
theorem own_at' {n₀ : Nat} {e : TypeId} {sz k : Nat} {xs : List Value} {W : World} {v : Value} (h : W.ownsRow n₀ e sz v k xs) {g : Nat} (hg : v.ownBlock = some g) : ∃ c, W.heap[g]? = some (.cells c e) ∧ n₀ ≤ g := by
  rcases h.2 with ⟨rfl, _⟩ | ⟨g', cap, cur, rfl, h1, h2, _⟩
  · cases hg
  · cases hg; exact ⟨cur, h2, h1⟩
theorem own_past' {n₀ : Nat} {e : TypeId} {sz k : Nat} {xs : List Value} {W W' : World} {v : Value} (h : W.ownsRow n₀ e sz v k xs) (hb : Below W.heap.size W W') : W'.ownsRow n₀ e sz v k xs := by
  refine ⟨h.1, ?_⟩
  rcases h.2 with h0 | ⟨g, cap, cur, rfl, h1, h2, h3⟩
  · exact .inl h0
  · exact .inr ⟨g, cap, cur, rfl, h1, (hb.block _ (lt_of_some h2)).trans h2, h3⟩
def encs (l : List Pt) : List Value := l.map Pt.enc
theorem encs_snoc (l : List Pt) (p : Pt) : encs (l ++ [p]) = encs l ++ [p.enc] := by simp [encs]

set_option maxRecDepth 100000 in
set_option maxHeartbeats 2000000 in
theorem read_any (q l : List Pt) (hql : q.length = l.length) (hlk : ∀ k (h1 : k < q.length) (h2 : k < l.length), like q[k] l[k]) (hgd : ∀ p ∈ l, p.good) (r : List UInt8) (hr : (putL l ++ r).length ≤ 100000) (hn : l.length ≤ 5) (w : World) (g : Nat) (hg : w.heap[g]? = some (.cells (pts q) 65)) :
    Calls Try.prog 29 #[.slice (some ⟨g, 0, none⟩) q.length q.length, .string (mk (putL l ++ r))] w fun e w' => ∃ u, e = .returned (.tuple #[u, .string (mk r), .bool true]) ∧ w'.ownsRow w.heap.size 65 1 u l.length (encs l) ∧ Below w.heap.size w w' := by
  have hgl := lt_of_some hg
  have hcell : Hid (∀ v, Below w.heap.size w v → ∀ k (h : k < q.length), v.cell? ⟨g, k, none⟩ = some (q[k]).enc) := Lib.hid (fun v hb k h => by
    rw [hb.cell (p := ⟨g, k, none⟩) hgl, cell_of_row w g k _ _ _ hg]; exact pts_at q k h)
  obtain ⟨i0, hi, hz0, hz1, hz2⟩ := info_parts info65'
  have H := Lib.hid (And.intro hi (And.intro hz0 (And.intro hz1 hz2)))
  have hstart : Hid (w.ownsRow w.heap.size 65 1 (.slice none 0 0) (l.take 0).length (encs (l.take 0))) := Lib.hid (World.ownsRow_nil _ _ _ _)
  have hlk' := Lib.hid hlk
  have hgd' := Lib.hid hgd
  have hql' := Lib.hid hql
  have hqn : (q.length : Int) ≤ 5 := by omega
  have hrb := Lib.hid hr
  have hn' := Lib.hid hn
  clear hg hgl hi hz0 hz1 hz2 hlk hgd hql hr hn
  go_enter Try.func29, Try.ntmps29
  go_wp2_with fail
  go_loopw [1, 7, 15] (fun s u i wr => ∃ (k : Nat), k ≤ q.length ∧ i = .int .i64 (k : Int) ∧ s = .string (mk (putL (l.drop k) ++ r)) ∧ Hid (wr.ownsRow w.heap.size 65 1 u (l.take k).length (encs (l.take k))) ∧ Hid (Below w.heap.size w wr)) (fun _ _ i _ => q.length - (intOf i).toNat)
  case atStart => exact ⟨0, Nat.zero_le _, rfl, rfl, hstart, Lib.hid (Below.refl _ _)⟩
  case round =>
    obtain ⟨k, hk, rfl, rfl, ho, hB⟩ := hrel
    rename_i wr _ _
    by_cases hlt : k < q.length
    · have hb : (k : Int) < (q.length : Int) := by omega
      have hl2 : k < l.length := by have := hql'.out; omega
      have hc := hcell.out wr hB.out k hlt
      have hlike := hlk'.out k hlt hl2
      have hgood := hgd'.out _ (List.getElem_mem hl2)
      have htk := List.take_succ_eq_append_getElem hl2
      have hpd := putL_drop l k hl2 r
      have hR : (putP l[k] ++ (putL (l.drop (k + 1)) ++ r)).length ≤ 100000 := by
        rw [← hpd]
        have := putL_drop_le l k
        have := hrb.out
        rw [List.length_append] at *; omega
      have hlen : (l.take k).length ≤ 5 := by have := List.length_take_le k l; have := hn'.out; omega
      rw [hpd]
      generalize hRR : putL (l.drop (k + 1)) ++ r = R at *
      generalize hz : q[k] = z at *
      generalize hp : l[k] = p at *
      have htk' := Lib.hid htk
      have HR' := Lib.hid hRR
      have hsz := hB.out.size
      have hb1 : (l.take k).length + 1 ≤ maxLen := by unfold maxLen; omega
      have hb16 : ((l.take k).length + 1) * 16 ≤ 140737488355328 := by omega
      clear hz hp hpd htk hRR
      cases z <;> cases p <;> try exact hlike.elim
      case kind.kind z0 X =>
        obtain ⟨hX1, hX2⟩ := clI_good hgood
        have cc := Lib.hid (fun (z : Int) v => kind_get z (clI X) hX2 R (by have h2 := hR; simp only [putP] at h2; omega) v)
        rw [hX1] at cc
        have hc' := hc
        simp only [Pt.enc] at hc'
        have hpe : Hid (putP (.kind X) = num (clI X)) := Lib.hid rfl
        rw [hpe.out]
        have ho2 := Lib.hid (encs_snoc (l.take k) (.kind X))
        clear hc hlike hgood hR hpe
        go_wp2_with fail
        refine (cc.out _ _).mono ?_
        rintro e v ⟨rfl, hbv⟩
        have B2 := Lib.hid (hB.out.trans (hbv.mono hsz))
        have O2 := Lib.hid (own_past' ho.out hbv)
        have hsz2 := B2.out.size
        clear hbv ho hB hc'
        go_wp2_with (at_builtin; refine wpList_append_own _ rfl (.tmp 28) (.tmp 30) 69 rfl w.heap.size 65 i0 .nilIface 1 16 Try.underlying69 H.out.1 H.out.2.1 H.out.2.2.1 H.out.2.2.2 rfl (by decide) _ _ _ rfl (O2.out.alloc _) _ 1 1 [.iface 67 (.int .i64 X)] rfl rfl (iface_new _ _ _) (by simp [Value.oneCell']) hb1 hb16 (Nat.le_trans hsz2 (by simp)) ?_)
        intro v' w' o1 g1 _
        have o2 : Hid (w'.ownsRow w.heap.size 65 1 v' (l.take (k + 1)).length (encs (l.take (k + 1)))) := Lib.hid (by
          rw [htk'.out, ho2.out, List.length_append, List.length_take]
          exact o1)
        have b2 := Lib.hid ((B2.out.alloc hsz2 (.cells #[.iface 67 (.int .i64 X)] 65)).grown g1 (Nat.le_trans hsz2 (by simp)) (fun kk hkk => by obtain ⟨_, _, hq⟩ := own_at' O2.out hkk; exact hq))
        clear o1 g1 O2 B2
        go_wp2_with fail
        go_roundw
        case rel => exact ⟨k + 1, by omega, by go_num, by rw [HR'.out], o2, b2⟩
        case measure => simp [intOf]; omega
      case id.id z0 X =>
        obtain ⟨hX1, hX2⟩ := clI_good hgood
        have cc := Lib.hid (fun (z : Int) v => id_get z (clI X) hX2 R (by have h2 := hR; simp only [putP] at h2; omega) v)
        rw [hX1] at cc
        have hc' := hc
        simp only [Pt.enc] at hc'
        have hpe : Hid (putP (.id X) = num (clI X)) := Lib.hid rfl
        rw [hpe.out]
        have ho2 := Lib.hid (encs_snoc (l.take k) (.id X))
        clear hc hlike hgood hR hpe
        go_wp2_with fail
        refine (cc.out _ _).mono ?_
        rintro e v ⟨rfl, hbv⟩
        have B2 := Lib.hid (hB.out.trans (hbv.mono hsz))
        have O2 := Lib.hid (own_past' ho.out hbv)
        have hsz2 := B2.out.size
        clear hbv ho hB hc'
        go_wp2_with (at_builtin; refine wpList_append_own _ rfl (.tmp 28) (.tmp 30) 69 rfl w.heap.size 65 i0 .nilIface 1 16 Try.underlying69 H.out.1 H.out.2.1 H.out.2.2.1 H.out.2.2.2 rfl (by decide) _ _ _ rfl (O2.out.alloc _) _ 1 1 [.iface 100 (.int .i64 X)] rfl rfl (iface_new _ _ _) (by simp [Value.oneCell']) hb1 hb16 (Nat.le_trans hsz2 (by simp)) ?_)
        intro v' w' o1 g1 _
        have o2 : Hid (w'.ownsRow w.heap.size 65 1 v' (l.take (k + 1)).length (encs (l.take (k + 1)))) := Lib.hid (by
          rw [htk'.out, ho2.out, List.length_append, List.length_take]
          exact o1)
        have b2 := Lib.hid ((B2.out.alloc hsz2 (.cells #[.iface 100 (.int .i64 X)] 65)).grown g1 (Nat.le_trans hsz2 (by simp)) (fun kk hkk => by obtain ⟨_, _, hq⟩ := own_at' O2.out hkk; exact hq))
        clear o1 g1 O2 B2
        go_wp2_with fail
        go_roundw
        case rel => exact ⟨k + 1, by omega, by go_num, by rw [HR'.out], o2, b2⟩
        case measure => simp [intOf]; omega
      case label.label z0 X =>
        have cc := Lib.hid (fun (z : ByteArray) v => label_get z X hgood R (by have h2 := hR; simp only [putP] at h2; omega) v)
        have hc' := hc
        simp only [Pt.enc] at hc'
        have hpe : Hid (putP (.label X) = text X) := Lib.hid rfl
        rw [hpe.out]
        have ho2 := Lib.hid (encs_snoc (l.take k) (.label X))
        clear hc hlike hgood hR hpe
        go_wp2_with fail
        refine (cc.out _ _).mono ?_
        rintro e v ⟨rfl, hbv⟩
        have B2 := Lib.hid (hB.out.trans (hbv.mono hsz))
        have O2 := Lib.hid (own_past' ho.out hbv)
        have hsz2 := B2.out.size
        clear hbv ho hB hc'
        go_wp2_with (at_builtin; refine wpList_append_own _ rfl (.tmp 28) (.tmp 30) 69 rfl w.heap.size 65 i0 .nilIface 1 16 Try.underlying69 H.out.1 H.out.2.1 H.out.2.2.1 H.out.2.2.2 rfl (by decide) _ _ _ rfl (O2.out.alloc _) _ 1 1 [.iface 95 (.string ⟨X.toArray⟩)] rfl rfl (iface_new _ _ _) (by simp [Value.oneCell']) hb1 hb16 (Nat.le_trans hsz2 (by simp)) ?_)
        intro v' w' o1 g1 _
        have o2 : Hid (w'.ownsRow w.heap.size 65 1 v' (l.take (k + 1)).length (encs (l.take (k + 1)))) := Lib.hid (by
          rw [htk'.out, ho2.out, List.length_append, List.length_take]
          exact o1)
        have b2 := Lib.hid ((B2.out.alloc hsz2 (.cells #[.iface 95 (.string ⟨X.toArray⟩)] 65)).grown g1 (Nat.le_trans hsz2 (by simp)) (fun kk hkk => by obtain ⟨_, _, hq⟩ := own_at' O2.out hkk; exact hq))
        clear o1 g1 O2 B2
        go_wp2_with fail
        go_roundw
        case rel => exact ⟨k + 1, by omega, by go_num, by rw [HR'.out], o2, b2⟩
        case measure => simp [intOf]; omega
      case moment.moment z0 X =>
        obtain ⟨hX1, hX2⟩ := clI_good hgood
        have cc := Lib.hid (fun (z : Int) v => moment_get z (clI X) hX2 R (by have h2 := hR; simp only [putP] at h2; omega) v)
        rw [hX1] at cc
        have hc' := hc
        simp only [Pt.enc] at hc'
        have hpe : Hid (putP (.moment X) = num (clI X)) := Lib.hid rfl
        rw [hpe.out]
        have ho2 := Lib.hid (encs_snoc (l.take k) (.moment X))
        clear hc hlike hgood hR hpe
        go_wp2_with fail
        refine (cc.out _ _).mono ?_
        rintro e v ⟨rfl, hbv⟩
        have B2 := Lib.hid (hB.out.trans (hbv.mono hsz))
        have O2 := Lib.hid (own_past' ho.out hbv)
        have hsz2 := B2.out.size
        clear hbv ho hB hc'
        go_wp2_with (at_builtin; refine wpList_append_own _ rfl (.tmp 28) (.tmp 30) 69 rfl w.heap.size 65 i0 .nilIface 1 16 Try.underlying69 H.out.1 H.out.2.1 H.out.2.2.1 H.out.2.2.2 rfl (by decide) _ _ _ rfl (O2.out.alloc _) _ 1 1 [.iface 97 (.int .i64 X)] rfl rfl (iface_new _ _ _) (by simp [Value.oneCell']) hb1 hb16 (Nat.le_trans hsz2 (by simp)) ?_)
        intro v' w' o1 g1 _
        have o2 : Hid (w'.ownsRow w.heap.size 65 1 v' (l.take (k + 1)).length (encs (l.take (k + 1)))) := Lib.hid (by
          rw [htk'.out, ho2.out, List.length_append, List.length_take]
          exact o1)
        have b2 := Lib.hid ((B2.out.alloc hsz2 (.cells #[.iface 97 (.int .i64 X)] 65)).grown g1 (Nat.le_trans hsz2 (by simp)) (fun kk hkk => by obtain ⟨_, _, hq⟩ := own_at' O2.out hkk; exact hq))
        clear o1 g1 O2 B2
        go_wp2_with fail
        go_roundw
        case rel => exact ⟨k + 1, by omega, by go_num, by rw [HR'.out], o2, b2⟩
        case measure => simp [intOf]; omega
      case added.added z0 X =>
        obtain ⟨hX1, hX2⟩ := clI_good hgood
        have cc := Lib.hid (fun (z : Int) v => added_get z (clI X) hX2 R (by have h2 := hR; simp only [putP] at h2; omega) v)
        rw [hX1] at cc
        have hc' := hc
        simp only [Pt.enc] at hc'
        have hpe : Hid (putP (.added X) = num (clI X)) := Lib.hid rfl
        rw [hpe.out]
        have ho2 := Lib.hid (encs_snoc (l.take k) (.added X))
        clear hc hlike hgood hR hpe
        go_wp2_with fail
        refine (cc.out _ _).mono ?_
        rintro e v ⟨rfl, hbv⟩
        have B2 := Lib.hid (hB.out.trans (hbv.mono hsz))
        have O2 := Lib.hid (own_past' ho.out hbv)
        have hsz2 := B2.out.size
        clear hbv ho hB hc'
        go_wp2_with (at_builtin; refine wpList_append_own _ rfl (.tmp 28) (.tmp 30) 69 rfl w.heap.size 65 i0 .nilIface 1 16 Try.underlying69 H.out.1 H.out.2.1 H.out.2.2.1 H.out.2.2.2 rfl (by decide) _ _ _ rfl (O2.out.alloc _) _ 1 1 [.iface 96 (.int .i64 X)] rfl rfl (iface_new _ _ _) (by simp [Value.oneCell']) hb1 hb16 (Nat.le_trans hsz2 (by simp)) ?_)
        intro v' w' o1 g1 _
        have o2 : Hid (w'.ownsRow w.heap.size 65 1 v' (l.take (k + 1)).length (encs (l.take (k + 1)))) := Lib.hid (by
          rw [htk'.out, ho2.out, List.length_append, List.length_take]
          exact o1)
        have b2 := Lib.hid ((B2.out.alloc hsz2 (.cells #[.iface 96 (.int .i64 X)] 65)).grown g1 (Nat.le_trans hsz2 (by simp)) (fun kk hkk => by obtain ⟨_, _, hq⟩ := own_at' O2.out hkk; exact hq))
        clear o1 g1 O2 B2
        go_wp2_with fail
        go_roundw
        case rel => exact ⟨k + 1, by omega, by go_num, by rw [HR'.out], o2, b2⟩
        case measure => simp [intOf]; omega
      case length.length z0 X =>
        obtain ⟨hX1, hX2⟩ := clI_good hgood
        have cc := Lib.hid (fun (z : Int) v => length_get z (clI X) hX2 R (by have h2 := hR; simp only [putP] at h2; omega) v)
        rw [hX1] at cc
        have hc' := hc
        simp only [Pt.enc] at hc'
        have hpe : Hid (putP (.length X) = num (clI X)) := Lib.hid rfl
        rw [hpe.out]
        have ho2 := Lib.hid (encs_snoc (l.take k) (.length X))
        clear hc hlike hgood hR hpe
        go_wp2_with fail
        refine (cc.out _ _).mono ?_
        rintro e v ⟨rfl, hbv⟩
        have B2 := Lib.hid (hB.out.trans (hbv.mono hsz))
        have O2 := Lib.hid (own_past' ho.out hbv)
        have hsz2 := B2.out.size
        clear hbv ho hB hc'
        go_wp2_with (at_builtin; refine wpList_append_own _ rfl (.tmp 28) (.tmp 30) 69 rfl w.heap.size 65 i0 .nilIface 1 16 Try.underlying69 H.out.1 H.out.2.1 H.out.2.2.1 H.out.2.2.2 rfl (by decide) _ _ _ rfl (O2.out.alloc _) _ 1 1 [.iface 98 (.int .i64 X)] rfl rfl (iface_new _ _ _) (by simp [Value.oneCell']) hb1 hb16 (Nat.le_trans hsz2 (by simp)) ?_)
        intro v' w' o1 g1 _
        have o2 : Hid (w'.ownsRow w.heap.size 65 1 v' (l.take (k + 1)).length (encs (l.take (k + 1)))) := Lib.hid (by
          rw [htk'.out, ho2.out, List.length_append, List.length_take]
          exact o1)
        have b2 := Lib.hid ((B2.out.alloc hsz2 (.cells #[.iface 98 (.int .i64 X)] 65)).grown g1 (Nat.le_trans hsz2 (by simp)) (fun kk hkk => by obtain ⟨_, _, hq⟩ := own_at' O2.out hkk; exact hq))
        clear o1 g1 O2 B2
        go_wp2_with fail
        go_roundw
        case rel => exact ⟨k + 1, by omega, by go_num, by rw [HR'.out], o2, b2⟩
        case measure => simp [intOf]; omega
      case sum.sum z0 X =>
        have cc := Lib.hid (fun (z : List UInt8) v => sum_get z X hgood R (by have h2 := hR; simp only [putP] at h2; omega) v)
        have hc' := hc
        simp only [Pt.enc] at hc'
        have hpe : Hid (putP (.sum X) = X) := Lib.hid rfl
        rw [hpe.out]
        have ho2 := Lib.hid (encs_snoc (l.take k) (.sum X))
        clear hc hlike hgood hR hpe
        go_wp2_with fail
        refine (cc.out _ _).mono ?_
        rintro e v ⟨rfl, hbv⟩
        have B2 := Lib.hid (hB.out.trans (hbv.mono hsz))
        have O2 := Lib.hid (own_past' ho.out hbv)
        have hsz2 := B2.out.size
        clear hbv ho hB hc'
        go_wp2_with (at_builtin; refine wpList_append_own _ rfl (.tmp 28) (.tmp 30) 69 rfl w.heap.size 65 i0 .nilIface 1 16 Try.underlying69 H.out.1 H.out.2.1 H.out.2.2.1 H.out.2.2.2 rfl (by decide) _ _ _ rfl (O2.out.alloc _) _ 1 1 [.iface 99 (.agg (row X))] rfl rfl (iface_new _ _ _) (by simp [Value.oneCell']) hb1 hb16 (Nat.le_trans hsz2 (by simp)) ?_)
        intro v' w' o1 g1 _
        have o2 : Hid (w'.ownsRow w.heap.size 65 1 v' (l.take (k + 1)).length (encs (l.take (k + 1)))) := Lib.hid (by
          rw [htk'.out, ho2.out, List.length_append, List.length_take]
          exact o1)
        have b2 := Lib.hid ((B2.out.alloc hsz2 (.cells #[.iface 99 (.agg (row X))] 65)).grown g1 (Nat.le_trans hsz2 (by simp)) (fun kk hkk => by obtain ⟨_, _, hq⟩ := own_at' O2.out hkk; exact hq))
        clear o1 g1 O2 B2
        go_wp2_with fail
        go_roundw
        case rel => exact ⟨k + 1, by omega, by go_num, by rw [HR'.out], o2, b2⟩
        case measure => simp [intOf]; omega
    · obtain rfl : k = q.length := by omega
      have hb : ¬ (q.length : Int) < (q.length : Int) := by omega
      have e1 : l.drop q.length = [] := List.drop_eq_nil_of_le (by have := hql'.out; omega)
      have e2 : l.take q.length = l := List.take_of_length_le (by have := hql'.out; omega)
      rw [e1]
      rw [e2] at ho
      have e3 : putL [] ++ r = r := rfl
      rw [e3]
      clear hlt
      go_wp2_with fail
      go_returns
      exact ⟨_, rfl, ho.out, hB.out⟩
end Go.Proofs.Ytfilolmbppjbjaa
