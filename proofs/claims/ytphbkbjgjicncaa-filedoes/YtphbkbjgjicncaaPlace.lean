/-
  Where a hold belongs: what IndexFunc, with the method value, and place of the program return.
-/
import Derived.Test.YtphbkbjgjicncaaInsert
import Derived.Test.YtphbkbjgjicncaaNLess
namespace Go.Proofs.Ytphbkbjgjicncaa
open Go Go.RowKit

/-- Is a ahead of b? -/
def lsB (a b : ByteArray) : Bool := nm.lxl (nm.pl (nm.li a)) (nm.pl (nm.li b))
theorem ahead_any (x y : ByteArray) (hx : x.size ≤ 1099511627776) (hy : y.size ≤ 1099511627776) (w : World) :
    Calls Try.prog 101 #[.string x, .string y] w fun e w' => e = .returned (.bool (!lsB y x)) ∧ Below w.heap.size w w' := by
  have c := Lib.hid (fun v => nm.less_any y x hy hx v)
  have hl : Hid (nm.lxl (nm.pl (nm.li y)) (nm.pl (nm.li x)) = lsB y x) := Lib.hid rfl
  rw [hl.out] at c
  clear hl hx hy
  generalize lsB y x = r at *
  go_enter Try.func101, Try.ntmps101
  go_wp2_with fail
  refine (c.out _).mono ?_
  rintro e v ⟨rfl, hb⟩
  go_wp2_with fail
  go_ret
  exact ⟨rfl, hb⟩
/-- How many of a row, from its beginning on, are ahead of x. -/
def plc (x : ByteArray) : List ByteArray → Nat
  | [] => 0
  | y :: l => if lsB y x = true then plc x l + 1 else 0
theorem plc_le (x : ByteArray) (L : List ByteArray) : plc x L ≤ L.length := by
  induction L with
  | nil => exact Nat.le_refl _
  | cons y l ih => unfold plc; split <;> simp <;> omega
theorem plc_drop (x : ByteArray) (L : List ByteArray) (k : Nat) (h : plc x L = k + plc x (L.drop k)) (hk : k < L.length) (hl : lsB L[k] x = true) : plc x L = k + 1 + plc x (L.drop (k + 1)) := by
  rw [h, List.drop_eq_getElem_cons hk, plc, if_pos hl]; omega
theorem plc_stop (x : ByteArray) (L : List ByteArray) (k : Nat) (h : plc x L = k + plc x (L.drop k)) (hk : k < L.length) (hl : lsB L[k] x = false) : plc x L = k := by
  rw [h, List.drop_eq_getElem_cons hk, plc, if_neg (by rw [hl]; decide)]; omega
def plI (x : ByteArray) (L : List ByteArray) : Int := if plc x L < L.length then (plc x L : Int) else -1
theorem ent101 : ∀ args w, (callFunc 101 args).run Try.prog w = .ok (.enter 101 args) w := enters_of Try.func101 (by kernel_rfl) rfl

set_option maxHeartbeats 1000000 in
theorem indexFunc_any (a : Option Addr) (c : Nat) (L : List ByteArray) (x : ByteArray) (w : World) (h : StrAt w.heap.size w a L) (hL : L.length ≤ 1000) (hs : ∀ y ∈ L, y.size ≤ 1099511627776) (hx : x.size ≤ 1099511627776) :
    Calls Try.prog 100 #[.slice a L.length c, .func (.func 101) #[.string x] #[]] w fun e w' => e = .returned (.int .i64 (plI x L)) ∧ Below w.heap.size w w' := by
  have h' := Lib.hid h
  have hs' := Lib.hid hs
  have ca := Lib.hid (fun y (hy : y.size ≤ 1099511627776) v => ahead_any x y hx hy v)
  clear h hs hx
  go_enter Try.func100, Try.ntmps100
  go_wp2_with fail
  go_loopw [8] (fun i wr => ∃ k : Nat, k ≤ L.length ∧ i = .int .i64 (k : Int) ∧ Hid (plc x L = k + plc x (L.drop k)) ∧ Hid (Below w.heap.size w wr)) (fun i _ => L.length - (intOf i).toNat)
  case atStart => exact ⟨0, Nat.zero_le _, rfl, Lib.hid (by simp), Lib.hid (Below.refl _ _)⟩
  case round =>
    obtain ⟨k, hk, rfl, hp, hB⟩ := hrel
    rename_i wr
    by_cases hlt : k < L.length
    · have hlt' : (k : Int) < (L.length : Int) := by omega
      have hat := h'.out.past hB.out
      rcases hat with hn | ⟨b, o, rfl, _, hc⟩
      · rw [hn] at hlt; simp at hlt
      have hc1 := hc k hlt
      have hy := Lib.hid (hs'.out _ (List.getElem_mem hlt))
      have hnx := Lib.hid (plc_drop x L k hp.out hlt)
      have hst := Lib.hid (plc_stop x L k hp.out hlt)
      clear hc
      generalize L[k] = y at *
      have cy := Lib.hid (fun v => ca.out y hy.out v)
      cases hl : lsB y x with
      | true =>
        rw [hl] at cy
        have hp1 := Lib.hid (hnx.out hl)
        clear hl hnx hst
        go_wp2_with fail
        refine (cy.out _).mono ?_
        rintro e v ⟨rfl, hb⟩
        have hB2 := Lib.hid (hB.out.trans (hb.mono hB.out.size))
        clear hb
        go_wp2_with fail
        go_roundw
        case rel => exact ⟨k + 1, by omega, by go_num, hp1, hB2⟩
        case measure => simp [intOf]; omega
      | false =>
        rw [hl] at cy
        have hp1 : Hid (plI x L = (k : Int)) := Lib.hid (by unfold plI; rw [hst.out hl, if_pos hlt])
        clear hl hnx hst
        go_wp2_with fail
        refine (cy.out _).mono ?_
        rintro e v ⟨rfl, hb⟩
        have hB2 := Lib.hid (hB.out.trans (hb.mono hB.out.size))
        clear hb
        go_wp2_with fail
        go_ret
        exact ⟨by rw [hp1.out]; rfl, hB2.out⟩
    · obtain rfl : k = L.length := by omega
      have hlt' : ¬ (L.length : Int) < (L.length : Int) := by omega
      have hp1 : Hid (plI x L = -1) := Lib.hid (by
        unfold plI
        rw [if_neg]
        rw [hp.out]; omega)
      go_wp2_with fail
      go_ret
      exact ⟨by rw [hp1.out]; rfl, hB.out⟩

set_option maxHeartbeats 1000000 in
theorem place_any (a : Option Addr) (c : Nat) (L : List ByteArray) (x : ByteArray) (w : World) (h : StrAt w.heap.size w a L) (hL : L.length ≤ 1000) (hs : ∀ y ∈ L, y.size ≤ 1099511627776) (hx : x.size ≤ 1099511627776) :
    Calls Try.prog 90 #[.slice a L.length c, .string x] w fun e w' => e = .returned (.int .i64 (plc x L : Int)) ∧ Below w.heap.size w w' := by
  have ci := Lib.hid (fun v (hb : Below w.heap.size w v) => indexFunc_any a c L x v (h.on hb) hL hs hx)
  have hle := Lib.hid (plc_le x L)
  have hd : Hid (plI x L = if plc x L < L.length then (plc x L : Int) else -1) := Lib.hid rfl
  clear h hs hx
  generalize plI x L = r at *
  generalize plc x L = p at *
  by_cases hp : p < L.length
  · obtain rfl : r = (p : Int) := by rw [hd.out, if_pos hp]
    have t1 : decide ((p : Int) < 0) = false := by simp
    clear hp hd
    go_enter Try.func90, Try.ntmps90
    go_wp2_with fail
    refine (ci.out _ (Below.refl _ _)).mono ?_
    rintro e v ⟨rfl, hb⟩
    go_wp2_with fail
    go_ret
    exact ⟨rfl, hb⟩
  · obtain rfl : r = -1 := by rw [hd.out, if_neg hp]
    obtain rfl : p = L.length := by have := hle.out; omega
    clear hp hd
    go_enter Try.func90, Try.ntmps90
    go_wp2_with fail
    refine (ci.out _ (Below.refl _ _)).mono ?_
    rintro e v ⟨rfl, hb⟩
    go_wp2_with fail
    go_ret
    exact ⟨rfl, hb⟩
end Go.Proofs.Ytphbkbjgjicncaa
