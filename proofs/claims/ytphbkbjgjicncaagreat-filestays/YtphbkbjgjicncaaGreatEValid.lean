/-
  Whether an event may be: what 'Valid' returns.
-/
import Derived.Test.YtphbkbjgjicncaaGreatEJoined
namespace Go.Proofs.YtphbkbjgjicncaaGreat.ev
open Go Go.RowKit
set_option linter.unusedVariables false


def validP : Pt → Bool
  | .kind n => wi n 0 7
  | .id n => wi n 1 1099511627776
  | .label l => nm.vld l
  | .moment n => wi n 0 1099511627776
  | .added n => wi n 1 600
  | .length n => wi n 0 600
  | .sum _ => true
/-- Names are not too long to be walked. -/
def Pt.short : Pt → Prop
  | .label l => l.length ≤ 1099511627776
  | _ => True
def okP (e : Ev) : Bool := (partsOf e).all validP && evB (jn (partsOf e)) e
theorem partsOf_fine (e : Ev) (hs : e.sum.length = 32) : ∀ p ∈ partsOf e, p.fine := by
  have h : (aboutP e).fine := by unfold aboutP; split <;> trivial
  unfold partsOf
  intro p hp
  repeat' split at hp
  all_goals (simp only [List.mem_cons, List.not_mem_nil, or_false] at hp; rcases hp with rfl | rfl | rfl | rfl | rfl) <;> first | trivial | exact h | exact hs
theorem partsOf_short (e : Ev) (hs : e.name.length ≤ 1099511627776) : ∀ p ∈ partsOf e, p.short := by
  have h : (aboutP e).short := by unfold aboutP; split <;> trivial
  unfold partsOf
  intro p hp
  repeat' split at hp
  all_goals (simp only [List.mem_cons, List.not_mem_nil, or_false] at hp; rcases hp with rfl | rfl | rfl | rfl | rfl) <;> first | trivial | exact h | exact hs
theorem partsOf_len (e : Ev) : (partsOf e).length ≤ 5 := by
  unfold partsOf
  repeat' split
  all_goals simp

theorem ent23 : ∀ args w, (callFunc 23 args).run Tryz.prog w = .ok (.enter 23 args) w := enters_of Tryz.func23 (by kernel_rfl) rfl
theorem mk_size (l : List UInt8) : (⟨l.toArray⟩ : ByteArray).size = l.length := by simp [ByteArray.size]
theorem li_label (l : List UInt8) : nm.li ⟨l.toArray⟩ = l := by simp [nm.li]

set_option maxRecDepth 100000 in
set_option maxHeartbeats 1000000 in
theorem evalid_any (e : Ev) (hs : e.sum.length = 32) (hn : e.name.length ≤ 1099511627776) (w : World) :
    Calls Tryz.prog 9 #[.agg (evr e)] w fun r w' => r = .returned (.bool (okP e)) ∧ Below w.heap.size w w' := by
  have hi : Hid ((Tryz.prog.info? 35).map (·.size) = some (evr e).size) := Lib.hid (by rw [evr_size, hs]; exact info41)
  have hK0 : Hid (KW w.heap.size w [(w.heap.size, .cells (evr e) 35)] (w.alloc (.cells (evr e) 35))) := Lib.hid ((KW.start w).new _)
  have cp := Lib.hid (fun v => parts_any e hs v)
  have hpf := Lib.hid (partsOf_fine e hs)
  have hps := Lib.hid (partsOf_short e hn)
  have hpl := partsOf_len e
  have hok : Hid (okP e = ((partsOf e).all validP && evB (jn (partsOf e)) e)) := Lib.hid rfl
  have hes := Lib.hid hs
  obtain ⟨l, hl⟩ : ∃ l, partsOf e = l := ⟨_, rfl⟩
  rw [hl] at cp hpf hps hpl hok
  clear hl hs hn
  go_enter Tryz.func9, Tryz.ntmps9
  go_wp2_with (with_reducible refine wpList_load_row rfl 35 (.tmp 1) rfl _ rfl 35 (evr e) _ (hK0.out.at 0 rfl) Tryz.underlying35 rfl hi.out ?_)
  refine (cp.out _).mono ?_
  rintro r v ⟨g, rfl, hg0, hg, hB⟩
  have hK1 : Hid (KW w.heap.size w [(g, .cells (pts l) 57), (w.heap.size, .cells (evr e) 35)] v) := Lib.hid ((hK0.out.past hB).know g _ hg (by simp at hg0 ⊢; omega))
  have hll : (l.length : Int) ≤ 5 := by omega
  clear hg0 hg hB hK0
  go_wp2_with fail
  go_loopw [10] (fun i wr => ∃ k : Nat, k ≤ l.length ∧ i = .int .i64 (k : Int) ∧ Hid ((l.take k).all validP = true) ∧ Hid (KW w.heap.size w [(g, .cells (pts l) 57), (w.heap.size, .cells (evr e) 35)] wr)) (fun i _ => l.length - (intOf i).toNat)
  case atStart => exact ⟨0, Nat.zero_le _, rfl, Lib.hid rfl, hK1⟩
  case round =>
    obtain ⟨k, hk, rfl, hall, hK⟩ := hrel
    by_cases hlt : k < l.length
    · have hb : (k : Int) < (l.length : Int) := by omega
      have hc := hK.out.cell 0 rfl k (pts_at l k hlt)
      have hts : Hid ((l.take (k + 1)).all validP = validP l[k]) := Lib.hid (by rw [List.take_succ_eq_append_getElem hlt, List.all_append, hall.out]; simp)
      have hno : Hid (validP l[k] = false → l.all validP = false) := Lib.hid (fun h => by rw [List.all_eq_false]; exact ⟨_, List.getElem_mem hlt, by rw [h]; decide⟩)
      cases hp : l[k] with
      | kind n =>
        rw [hp] at hc hts hno
        simp only [Pt.enc] at hc
        have cc := Lib.hid (fun v => kind_valid n v)
        have hv : Hid (validP (.kind n) = wi n 0 7) := Lib.hid rfl
        rw [hv.out] at hts hno
        clear hp hv
        generalize wi n 0 7 = bb at *
        go_wp2_with fail
        refine (cc.out _).mono ?_
        rintro r u ⟨rfl, rfl⟩
        cases bb
        · have hq := Lib.hid (hno.out rfl)
          clear hno hts
          go_wp2_with fail
          go_ret
          exact ⟨by rw [hok.out, hq.out]; rfl, hK.out.bel⟩
        · clear hno
          go_wp2_with fail
          go_roundw
          case rel => exact ⟨k + 1, by omega, by go_num, hts, hK⟩
          case measure => simp [intOf]; omega
      | id n =>
        rw [hp] at hc hts hno
        simp only [Pt.enc] at hc
        have cc := Lib.hid (fun v => id_valid n v)
        have hv : Hid (validP (.id n) = wi n 1 1099511627776) := Lib.hid rfl
        rw [hv.out] at hts hno
        clear hp hv
        generalize wi n 1 1099511627776 = bb at *
        go_wp2_with fail
        refine (cc.out _).mono ?_
        rintro r u ⟨rfl, rfl⟩
        cases bb
        · have hq := Lib.hid (hno.out rfl)
          clear hno hts
          go_wp2_with fail
          go_ret
          exact ⟨by rw [hok.out, hq.out]; rfl, hK.out.bel⟩
        · clear hno
          go_wp2_with fail
          go_roundw
          case rel => exact ⟨k + 1, by omega, by go_num, hts, hK⟩
          case measure => simp [intOf]; omega
      | label t =>
        rw [hp] at hc hts hno
        simp only [Pt.enc] at hc
        have hsz : Hid ((⟨t.toArray⟩ : ByteArray).size ≤ 1099511627776) := Lib.hid (by have := hps.out _ (List.getElem_mem hlt); rw [hp] at this; rw [mk_size]; exact this)
        have cc := Lib.hid (fun v => label_valid ⟨t.toArray⟩ hsz.out v)
        have hv : Hid (validP (.label t) = nm.vld t) := Lib.hid rfl
        rw [hv.out] at hts hno
        rw [li_label] at cc
        clear hp hv
        generalize nm.vld t = bb at *
        go_wp2_with fail
        refine (cc.out _).mono ?_
        rintro r u ⟨rfl, hu⟩
        have hK2 := Lib.hid (hK.out.past hu)
        clear hu
        cases bb
        · have hq := Lib.hid (hno.out rfl)
          clear hno hts
          go_wp2_with fail
          go_ret
          exact ⟨by rw [hok.out, hq.out]; rfl, hK2.out.bel⟩
        · clear hno
          go_wp2_with fail
          go_roundw
          case rel => exact ⟨k + 1, by omega, by go_num, hts, hK2⟩
          case measure => simp [intOf]; omega
      | moment n =>
        rw [hp] at hc hts hno
        simp only [Pt.enc] at hc
        have cc := Lib.hid (fun v => moment_valid n v)
        have hv : Hid (validP (.moment n) = wi n 0 1099511627776) := Lib.hid rfl
        rw [hv.out] at hts hno
        clear hp hv
        generalize wi n 0 1099511627776 = bb at *
        go_wp2_with fail
        refine (cc.out _).mono ?_
        rintro r u ⟨rfl, rfl⟩
        cases bb
        · have hq := Lib.hid (hno.out rfl)
          clear hno hts
          go_wp2_with fail
          go_ret
          exact ⟨by rw [hok.out, hq.out]; rfl, hK.out.bel⟩
        · clear hno
          go_wp2_with fail
          go_roundw
          case rel => exact ⟨k + 1, by omega, by go_num, hts, hK⟩
          case measure => simp [intOf]; omega
      | added n =>
        rw [hp] at hc hts hno
        simp only [Pt.enc] at hc
        have cc := Lib.hid (fun v => added_valid n v)
        have hv : Hid (validP (.added n) = wi n 1 600) := Lib.hid rfl
        rw [hv.out] at hts hno
        clear hp hv
        generalize wi n 1 600 = bb at *
        go_wp2_with fail
        refine (cc.out _).mono ?_
        rintro r u ⟨rfl, rfl⟩
        cases bb
        · have hq := Lib.hid (hno.out rfl)
          clear hno hts
          go_wp2_with fail
          go_ret
          exact ⟨by rw [hok.out, hq.out]; rfl, hK.out.bel⟩
        · clear hno
          go_wp2_with fail
          go_roundw
          case rel => exact ⟨k + 1, by omega, by go_num, hts, hK⟩
          case measure => simp [intOf]; omega
      | length n =>
        rw [hp] at hc hts hno
        simp only [Pt.enc] at hc
        have cc := Lib.hid (fun v => length_valid n v)
        have hv : Hid (validP (.length n) = wi n 0 600) := Lib.hid rfl
        rw [hv.out] at hts hno
        clear hp hv
        generalize wi n 0 600 = bb at *
        go_wp2_with fail
        refine (cc.out _).mono ?_
        rintro r u ⟨rfl, rfl⟩
        cases bb
        · have hq := Lib.hid (hno.out rfl)
          clear hno hts
          go_wp2_with fail
          go_ret
          exact ⟨by rw [hok.out, hq.out]; rfl, hK.out.bel⟩
        · clear hno
          go_wp2_with fail
          go_roundw
          case rel => exact ⟨k + 1, by omega, by go_num, hts, hK⟩
          case measure => simp [intOf]; omega
      | sum d =>
        rw [hp] at hc hts hno
        simp only [Pt.enc] at hc
        have cc := Lib.hid (fun v => sum_valid d v)
        have hv : Hid (validP (.sum d) = true) := Lib.hid rfl
        rw [hv.out] at hts hno
        clear hp hv
        go_wp2_with fail
        refine (cc.out _).mono ?_
        rintro r u ⟨rfl, hu⟩
        have hK2 := Lib.hid (hK.out.past hu)
        clear hu
        clear hno
        go_wp2_with fail
        go_roundw
        case rel => exact ⟨k + 1, by omega, by go_num, hts, hK2⟩
        case measure => simp [intOf]; omega
    · obtain rfl : k = l.length := by omega
      have hb : ¬ (l.length : Int) < (l.length : Int) := by omega
      have hall' : Hid (l.all validP = true) := Lib.hid (by have := hall.out; rwa [List.take_length] at this)
      have hKd := Lib.hid hK.out.drew
      have cj : Hid (∀ v, KW w.heap.size w [(g, .cells (pts l) 57), (w.heap.size, .cells (evr e) 35)] v → Calls Tryz.prog 23 #[.slice (some ⟨g, 0, none⟩) l.length l.length] v fun r v' => r = .returned (.agg (evr (jn l))) ∧ KW w.heap.size w [(g, .cells (pts l) 57), (w.heap.size, .cells (evr e) 35)] v') :=
        Lib.hid (fun v h => (joined_any l hpf.out (by omega) v g (h.at 0 rfl)).mono fun _ _ q => ⟨q.1, h.past q.2⟩)
      have he := Lib.hid (eql_ev (jn l) e (jn_sum l hpf.out) hes.out)
      go_wp2_with (refine park_region (fun Pk hX => ?_))
      refine hX.out ?_
      refine wp_region_class (KW w.heap.size w [(g, .cells (pts l) 57), (w.heap.size, .cells (evr e) 35)]) (by kernel_rfl) (by kernel_rfl) hKd.out ?_
      refine wpQuiet_move (by rfl) _ (.inl rfl) (.slice (some ⟨g, 0, none⟩) l.length l.length) rfl ?_
      refine wpQuiet_call1 (by rfl) 23 (.tmp 18) _ rfl ent23 (.slice (some ⟨g, 0, none⟩) l.length l.length) rfl _ cj.out ?_
      refine wpQuiet_load (by rfl) 35 (.tmp 1) rfl _ rfl 35 (evr e) _ (fun _ h => h.at 1 rfl) Tryz.underlying35 rfl hi.out ?_
      simp only [Act.put, List.setIfInBounds_toArray, List.set_cons_zero, List.set_cons_succ]
      refine wpQuiet_deq (by rfl) _ _ _ _ rfl (evr (jn l)) (evr e) rfl rfl (by kernel_rfl) _ he.out ?_
      refine wpQuiet_move (by rfl) _ (.inr rfl) (.bool (evB (jn l) e)) rfl ?_
      simp only [Act.put, List.setIfInBounds_toArray, List.set_cons_zero, List.set_cons_succ]
      refine wpQuiet_nil ?_
      intro u hu
      go_wp2_with fail
      go_ret
      exact ⟨by rw [hok.out, hall'.out]; rfl, hu.bel⟩
end Go.Proofs.YtphbkbjgjicncaaGreat.ev
