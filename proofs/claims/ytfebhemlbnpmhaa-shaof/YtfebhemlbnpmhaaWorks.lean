/-
  The document's examples of layer 2 hold at the program: works returns true.
-/
import Derived.Test.YtfebhemlbnpmhaaSame
import Derived.Test.YtfebhemlbnpmhaaQuiet
namespace Go.Proofs.Ytfebhemlbnpmhaa
open Go.RowKit

theorem hex_none : hex (sha []) = [101, 51, 98, 48, 99, 52, 52, 50, 57, 56, 102, 99, 49, 99, 49, 52, 57, 97, 102, 98, 102, 52, 99, 56, 57, 57, 54, 102, 98, 57, 50, 52, 50, 55, 97, 101, 52, 49, 101, 52, 54, 52, 57, 98, 57, 51, 52, 99, 97, 52, 57, 53, 57, 57, 49, 98, 55, 56, 53, 50, 98, 56, 53, 53] := by decide +kernel
theorem apart_ab : smB [97] [98] = false := by decide +kernel
theorem pad_abc : (pad [97, 98, 99]).length = 64 := by decide +kernel

/-- The two digests of the call. -/
structure WkW (w : World) (b1 b2 : Nat) (dA dE : List UInt8) (v : World) : Prop where
  bel : Below w.heap.size w v
  one : v.heap[b1]? = some (.cells (row dA) 23)
  two : v.heap[b2]? = some (.cells (row dE) 23)
  la : dA.length = 32
  bz : w.heap.size ≤ b1
theorem WkW.past {w v v' : World} {b1 b2 : Nat} {dA dE : List UInt8} (h : WkW w b1 b2 dA dE v) (hb : Below v.heap.size v v') : WkW w b1 b2 dA dE v' :=
  { h with bel := h.bel.trans (hb.mono h.bel.size), one := (hb.block _ (lt_of_some h.one)).trans h.one, two := (hb.block _ (lt_of_some h.two)).trans h.two }
theorem WkW.conv {w v : World} {b1 b2 : Nat} {dA dE : List UInt8} (h : WkW w b1 b2 dA dE v) {DA : ByteArray} (hD : DA = ⟨dA.toArray⟩) : (convert 33 9 (.slice (some ⟨b1, 0, none⟩) 32 32)).run Try.prog v = .ok (.string DA) v := by
  subst hD; exact conv_row _ _ _ _ _ h.la h.one
theorem wk_in {w : World} {b1 b2 : Nat} {dA dE : List UInt8} {f : Nat} {args : Array Value} {r : Value} (hc : ∀ v, Calls Try.prog f args v fun e v' => e = .returned r ∧ Below v.heap.size v v') (v : World) (hv : WkW w b1 b2 dA dE v) :
    Calls Try.prog f args v fun e v' => e = .returned r ∧ WkW w b1 b2 dA dE v' :=
  (hc v).mono fun _ _ ⟨he, hb⟩ => ⟨he, hv.past hb⟩
theorem slice_all (b : Nat) (w : World) : (do pure (Next.value (← Instr.sliceAt 23 (.pointer (some ⟨b, 0, none⟩)) none none none)) : Sem Next).run Try.prog w = .ok (.value (.slice (some ⟨b, 0, none⟩) 32 32)) w := by
  have ht : Try.prog.underlying 23 = some (.array (Try.prog.arrayLen 23) (Try.prog.elem 23)) := by kernel_rfl
  have e1 : Try.prog.elem 23 = 5 := by kernel_rfl
  have e2 : Try.prog.arrayLen 23 = 32 := by kernel_rfl
  rw [Sem.run_bind, run_sliceAt_array_all (P := Try.prog) w 23 ⟨b, 0, none⟩ ht, e1, e2, Try.sizeOf5]
  rfl
theorem ent10 : ∀ args w, (callFunc 10 args).run Try.prog w = .ok (.enter 10 args) w := enters_of Try.func10 (by kernel_rfl) rfl
theorem ent12 : ∀ args w, (callFunc 12 args).run Try.prog w = .ok (.enter 12 args) w := enters_of Try.func12 (by kernel_rfl) rfl
theorem ent14 : ∀ args w, (callFunc 14 args).run Try.prog w = .ok (.enter 14 args) w := enters_of Try.func14 (by kernel_rfl) rfl
theorem ent16 : ∀ args w, (callFunc 16 args).run Try.prog w = .ok (.enter 16 args) w := enters_of Try.func16 (by kernel_rfl) rfl
theorem ent18 : ∀ args w, (callFunc 18 args).run Try.prog w = .ok (.enter 18 args) w := enters_of Try.func18 (by kernel_rfl) rfl

set_option maxHeartbeats 1000000 in
set_option maxRecDepth 100000 in
theorem works_any (w : World) :
    Calls Try.prog 9 #[] w fun e w' => e = .returned (.bool true) ∧ Below w.heap.size w w' := by
  obtain ⟨dA, hdA⟩ : ∃ dA, sha [97, 98, 99] = dA := ⟨_, rfl⟩
  obtain ⟨dE, hdE⟩ : ∃ dE, sha [] = dE := ⟨_, rfl⟩
  have lA : dA.length = 32 := by rw [← hdA, sha_length]
  have lE : dE.length = 32 := by rw [← hdE, sha_length]
  obtain ⟨DA, hDA⟩ : ∃ DA, DA = ByteArray.mk dA.toArray := ⟨_, rfl⟩
  have sDA : DA.size = 32 := by rw [hDA]; show dA.toArray.size = 32; simpa using lA
  obtain ⟨PB, hPB⟩ : ∃ PB, PB = ByteArray.mk (pad [97, 98, 99]).toArray := ⟨_, rfl⟩
  have sPB : ((PB.size : Int) == 64) = true := by
    have : PB.size = 64 := by rw [hPB]; show (pad [97, 98, 99]).toArray.size = 64; simpa using pad_abc
    rw [this]; rfl
  have ofA : Hid (∀ v, Calls Try.prog 10 #[.string ⟨#[97, 98, 99]⟩] v fun e v' => e = .returned (.agg (row dA)) ∧ Below v.heap.size v v') := fun v => by
    have := of_any ⟨#[97, 98, 99]⟩ (by decide) v
    rw [show sha (ByteArray.mk #[97, 98, 99]).data.toList = dA from hdA] at this
    exact this
  have ofE : Hid (∀ v, Calls Try.prog 10 #[.string ⟨#[]⟩] v fun e v' => e = .returned (.agg (row dE)) ∧ Below v.heap.size v v') := fun v => by
    have := of_any ⟨#[]⟩ (by decide) v
    rw [show sha (ByteArray.mk #[]).data.toList = dE from hdE] at this
    exact this
  have ofD : ∀ v, Calls Try.prog 10 #[.string DA] v fun e v' => e = .returned (.agg (row (sha dA))) ∧ Below v.heap.size v v' := fun v => by
    have := of_any DA (by omega) v
    rw [show DA.data.toList = dA by rw [hDA]] at this
    exact this
  have txA : ∀ v, Calls Try.prog 14 #[.agg (row dA)] v fun e v' => e = .returned (.string ⟨#[98, 97, 55, 56, 49, 54, 98, 102, 56, 102, 48, 49, 99, 102, 101, 97, 52, 49, 52, 49, 52, 48, 100, 101, 53, 100, 97, 101, 50, 50, 50, 51, 98, 48, 48, 51, 54, 49, 97, 51, 57, 54, 49, 55, 55, 97, 57, 99, 98, 52, 49, 48, 102, 102, 54, 49, 102, 50, 48, 48, 49, 53, 97, 100]⟩) ∧ Below v.heap.size v v' := fun v => by
    have := text_any dA lA v
    rw [← hdA, hex_abc, hdA] at this
    exact this
  have txE : ∀ v, Calls Try.prog 14 #[.agg (row dE)] v fun e v' => e = .returned (.string ⟨#[101, 51, 98, 48, 99, 52, 52, 50, 57, 56, 102, 99, 49, 99, 49, 52, 57, 97, 102, 98, 102, 52, 99, 56, 57, 57, 54, 102, 98, 57, 50, 52, 50, 55, 97, 101, 52, 49, 101, 52, 54, 52, 57, 98, 57, 51, 52, 99, 97, 52, 57, 53, 57, 57, 49, 98, 55, 56, 53, 50, 98, 56, 53, 53]⟩) ∧ Below v.heap.size v v' := fun v => by
    have := text_any dE lE v
    rw [← hdE, hex_none, hdE] at this
    exact this
  have pdA : ∀ v, Calls Try.prog 12 #[.string ⟨#[97, 98, 99]⟩] v fun e v' => e = .returned (.string PB) ∧ Below v.heap.size v v' := fun v => by
    rw [hPB]; exact pad_any ⟨#[97, 98, 99]⟩ (by decide) v
  have sab : ∀ v, Calls Try.prog 18 #[.string ⟨#[97]⟩, .string ⟨#[98]⟩] v fun e v' => e = .returned (.bool false) ∧ Below v.heap.size v v' := fun v => by
    have := same_any ⟨#[97]⟩ ⟨#[98]⟩ (by decide) (by decide) v
    rw [show smB (ByteArray.mk #[97]).data.toList (ByteArray.mk #[98]).data.toList = false from apart_ab] at this
    exact this
  have saa : ∀ v, Calls Try.prog 18 #[.string ⟨#[97]⟩, .string ⟨#[97]⟩] v fun e v' => e = .returned (.bool false) ∧ Below v.heap.size v v' := fun v => by
    have := same_any ⟨#[97]⟩ ⟨#[97]⟩ (by decide) (by decide) v
    rw [show smB (ByteArray.mk #[97]).data.toList (ByteArray.mk #[97]).data.toList = false by unfold smB; simp] at this
    exact this
  have lnk : ∀ v, Calls Try.prog 16 #[.agg (row dA), .string ⟨#[]⟩] v fun e v' => e = .returned (.agg (row (sha dA))) ∧ Below v.heap.size v v' := fun v => by
    have := link_any dA lA ⟨#[]⟩ (by decide) v
    rw [show dA ++ (ByteArray.mk #[]).data.toList = dA by simp] at this
    exact this
  have eqd : ∀ v, (Op.equalIn 10000 23 (.agg (row (sha dA))) (.agg (row (sha dA)))).run Try.prog v = .ok true v := fun v => by
    rw [eql_dig _ _ (sha_length _) (sha_length _)]; simp
  obtain ⟨dL, hdL⟩ : ∃ dL, sha dA = dL := ⟨_, rfl⟩
  rw [hdL] at ofD lnk eqd
  have cs := Lib.hid (And.intro txA (And.intro txE (And.intro pdA (And.intro sab (And.intro saa (And.intro lnk ofD))))))
  have hlen := Lib.hid (And.intro lA (And.intro lE hDA))
  clear txA txE pdA sab saa lnk ofD hdA hdE hdL lA lE hDA hPB sDA
  have i0 : Hid ((Try.prog.info? 23).map (·.size) = some (row dA).size) := by show _ = _; rw [row_size, hlen.out.1]; kernel_rfl
  have i1 : Hid ((Try.prog.info? 23).map (·.size) = some (row dE).size) := by show _ = _; rw [row_size, hlen.out.2.1]; kernel_rfl
  have o0 : Hid (d0.size = (row dA).size) := by show _ = _; rw [row_size, hlen.out.1]; kernel_rfl
  have o1 : Hid (d0.size = (row dE).size) := by show _ = _; rw [row_size, hlen.out.2.1]; kernel_rfl
  go_enter Try.func9, Try.ntmps9
  go_wp2_with fail
  refine (ofA.out _).mono ?_
  rintro e v1 ⟨rfl, h1⟩
  go_wp2_with (with_reducible refine wpList_store_row rfl 23 (.tmp 1) (.tmp 3) rfl _ (row dA) rfl rfl 23 d0 ?hg1 i0.out o0.out (row_one _) ?_)
  case hg1 => rw [d0_zero, heap_alloc_if, if_pos rfl]
  rw [World.setRow_alloc_new]
  go_wp2_with fail
  refine (ofE.out _).mono ?_
  rintro e v2 ⟨rfl, h2⟩
  go_wp2_with (with_reducible refine wpList_store_row rfl 23 (.tmp 2) (.tmp 4) rfl _ (row dE) rfl rfl 23 d0 ?hg2 i1.out o1.out (row_one _) ?_)
  case hg2 => rw [d0_zero, heap_alloc_if, if_pos rfl]
  rw [World.setRow_alloc_new]
  have hlt : v1.heap.size < v2.heap.size := by have := h2.size; simp at this; omega
  have hW : WkW w v1.heap.size v2.heap.size dA dE (v2.alloc (.cells (row dE) 23)).drew := {
    bel := ((h1.alloc h1.size _).trans ((h2.mono (by have := h1.size; simp; omega)).alloc (by have := h1.size; omega) _)).drew
    one := by
      show (v2.alloc _).heap[_]? = _
      rw [heap_alloc_if, if_neg (by omega), h2.block _ (by simp), heap_alloc_if, if_pos rfl]
    two := by
      show (v2.alloc _).heap[_]? = _
      rw [heap_alloc_if, if_pos rfl]
    la := hlen.out.1
    bz := h1.size }
  have hWh := Lib.hid hW
  clear hW ofA ofE h1 h2
  refine wp_region_class (WkW w v1.heap.size v2.heap.size dA dE) (by kernel_rfl) (by kernel_rfl) hWh.out ?_
  refine wpQuiet_load (by rfl) 23 (.tmp 1) rfl _ rfl 23 (row dA) _ (fun _ h => h.one) Try.underlying23 rfl i0.out ?_
  refine wpQuiet_call1 (by rfl) 14 (.tmp 5) _ rfl ent14 (.agg (row dA)) rfl _ (wk_in cs.out.1) ?_
  simp only [Act.put, List.setIfInBounds_toArray, List.set_cons_zero, List.set_cons_succ]
  refine wpQuiet_seq (by rfl) _ _ _ _ rfl _ _ rfl rfl true (by simp) ?_
  refine wpQuiet_move (by rfl) _ (.inl rfl) (.bool true) rfl ?_
  simp only [Act.put, List.setIfInBounds_toArray, List.set_cons_zero, List.set_cons_succ]
  refine wpQuiet_load (by rfl) 23 (.tmp 2) rfl _ rfl 23 (row dE) _ (fun _ h => h.two) Try.underlying23 rfl i1.out ?_
  refine wpQuiet_call1 (by rfl) 14 (.tmp 9) _ rfl ent14 (.agg (row dE)) rfl _ (wk_in cs.out.2.1) ?_
  simp only [Act.put, List.setIfInBounds_toArray, List.set_cons_zero, List.set_cons_succ]
  refine wpQuiet_seq (by rfl) _ _ _ _ rfl _ _ rfl rfl true (by simp) ?_
  refine wpQuiet_pick (by rfl) _ _ _ rfl true rfl (.bool true) rfl ?_
  refine wpQuiet_move (by rfl) _ (.inl rfl) (.bool true) rfl ?_
  simp only [Act.put, List.setIfInBounds_toArray, List.set_cons_zero, List.set_cons_succ]
  refine wpQuiet_call1 (by rfl) 12 (.const (.string ⟨#[97, 98, 99]⟩)) _ rfl ent12 (.string ⟨#[97, 98, 99]⟩) rfl _ (wk_in cs.out.2.2.1) ?_
  refine wpQuiet_len (by rfl) _ _ rfl PB rfl Try.underlying9 ?_
  refine wpQuiet_ieq (by rfl) _ _ _ _ rfl .i64 _ _ rfl rfl true sPB ?_
  refine wpQuiet_pick (by rfl) _ _ _ rfl true rfl (.bool true) rfl ?_
  refine wpQuiet_move (by rfl) _ (.inl rfl) (.bool true) rfl ?_
  simp only [Act.put, List.setIfInBounds_toArray, List.set_cons_zero, List.set_cons_succ]
  refine wpQuiet_call2 (by rfl) 18 (.const (.string ⟨#[97]⟩)) (.const (.string ⟨#[98]⟩)) _ rfl ent18 (.string ⟨#[97]⟩) (.string ⟨#[98]⟩) rfl rfl _ (wk_in cs.out.2.2.2.1) ?_
  refine wpQuiet_not (by rfl) _ _ rfl false rfl ?_
  refine wpQuiet_pick (by rfl) _ _ _ rfl true rfl (.bool true) rfl ?_
  refine wpQuiet_move (by rfl) _ (.inl rfl) (.bool true) rfl ?_
  simp only [Act.put, List.setIfInBounds_toArray, List.set_cons_zero, List.set_cons_succ]
  refine wpQuiet_call2 (by rfl) 18 (.const (.string ⟨#[97]⟩)) (.const (.string ⟨#[97]⟩)) _ rfl ent18 (.string ⟨#[97]⟩) (.string ⟨#[97]⟩) rfl rfl _ (wk_in cs.out.2.2.2.2.1) ?_
  refine wpQuiet_not (by rfl) _ _ rfl false rfl ?_
  refine wpQuiet_pick (by rfl) _ _ _ rfl true rfl (.bool true) rfl ?_
  refine wpQuiet_move (by rfl) _ (.inl rfl) (.bool true) rfl ?_
  simp only [Act.put, List.setIfInBounds_toArray, List.set_cons_zero, List.set_cons_succ]
  refine wpQuiet_load (by rfl) 23 (.tmp 1) rfl _ rfl 23 (row dA) _ (fun _ h => h.one) Try.underlying23 rfl i0.out ?_
  refine wpQuiet_call2 (by rfl) 16 (.tmp 27) (.const (.string ⟨#[]⟩)) _ rfl ent16 (.agg (row dA)) (.string ⟨#[]⟩) rfl rfl _ (wk_in cs.out.2.2.2.2.2.1) ?_
  refine wpQuiet_val (by rfl) (.slice (some ⟨v1.heap.size, 0, none⟩) 32 32) (fun u _ => slice_all v1.heap.size u) ?_
  refine wpQuiet_conv (by rfl) _ _ _ rfl _ (.string DA) rfl (fun _ h => h.conv hlen.out.2.2) ?_
  simp only [Act.put, List.setIfInBounds_toArray, List.set_cons_zero, List.set_cons_succ]
  refine wpQuiet_call1 (by rfl) 10 (.tmp 30) _ rfl ent10 (.string DA) rfl _ (wk_in cs.out.2.2.2.2.2.2) ?_
  refine wpQuiet_deq (by rfl) _ _ _ _ rfl (row dL) (row dL) rfl rfl (by kernel_rfl) true eqd ?_
  refine wpQuiet_pick (by rfl) _ _ _ rfl true rfl (.bool true) rfl ?_
  refine wpQuiet_move (by rfl) _ (.inr rfl) (.bool true) rfl ?_
  simp only [Act.put, List.setIfInBounds_toArray, List.set_cons_zero, List.set_cons_succ]
  refine wpQuiet_nil ?_
  intro u hu
  go_wp2_with fail
  go_ret
  exact ⟨rfl, hu.bel⟩
end Go.Proofs.Ytfebhemlbnpmhaa
