/-
  What each part's get reads of a text that begins with it.
-/
import Derived.Test.YtfilolmbppjbjaaGevent
namespace Go.Proofs.Ytfilolmbppjbjaa
open Go Go.RowKit
set_option linter.unusedVariables false

theorem gs_app {d : List UInt8} (hd : d.length = 32) (r : List UInt8) : gs (d ++ r) = some (d, r) := by
  unfold gs
  rw [if_pos (by simp; omega), show 32 = d.length from hd.symm, List.take_left, List.drop_left]
theorem kind_get (z : Int) (n : Nat) (hn : n ≤ big) (r : List UInt8) (hr : (num n ++ r).length ≤ 9223372036854775807) (w : World) :
    Calls Try.prog 28 #[.int .i64 z, .string (mk (num n ++ r))] w fun e w' => e = .returned (.tuple #[.iface 67 (.int .i64 (n : Int)), .string (mk r), .bool true]) ∧ Below w.heap.size w w' := by
  have c := Lib.hid (getNum_any (mk (num n ++ r)) (by rw [← li_len, li_mk']; exact hr) w)
  rw [li_mk', nR_some (gn_num hn r)] at c
  generalize mk (num n ++ r) = s at *
  clear hr
  go_enter Try.func28, Try.ntmps28
  go_wp2_with fail
  refine c.out.mono ?_
  rintro e v ⟨rfl, hb⟩
  go_wp2_with fail
  go_returns
  exact ⟨rfl, hb⟩
theorem id_get (z : Int) (n : Nat) (hn : n ≤ big) (r : List UInt8) (hr : (num n ++ r).length ≤ 9223372036854775807) (w : World) :
    Calls Try.prog 118 #[.int .i64 z, .string (mk (num n ++ r))] w fun e w' => e = .returned (.tuple #[.iface 100 (.int .i64 (n : Int)), .string (mk r), .bool true]) ∧ Below w.heap.size w w' := by
  have c := Lib.hid (getNum_any (mk (num n ++ r)) (by rw [← li_len, li_mk']; exact hr) w)
  rw [li_mk', nR_some (gn_num hn r)] at c
  generalize mk (num n ++ r) = s at *
  clear hr
  go_enter Try.func118, Try.ntmps118
  go_wp2_with fail
  refine c.out.mono ?_
  rintro e v ⟨rfl, hb⟩
  go_wp2_with fail
  go_returns
  exact ⟨rfl, hb⟩
theorem moment_get (z : Int) (n : Nat) (hn : n ≤ big) (r : List UInt8) (hr : (num n ++ r).length ≤ 9223372036854775807) (w : World) :
    Calls Try.prog 102 #[.int .i64 z, .string (mk (num n ++ r))] w fun e w' => e = .returned (.tuple #[.iface 97 (.int .i64 (n : Int)), .string (mk r), .bool true]) ∧ Below w.heap.size w w' := by
  have c := Lib.hid (getNum_any (mk (num n ++ r)) (by rw [← li_len, li_mk']; exact hr) w)
  rw [li_mk', nR_some (gn_num hn r)] at c
  generalize mk (num n ++ r) = s at *
  clear hr
  go_enter Try.func102, Try.ntmps102
  go_wp2_with fail
  refine c.out.mono ?_
  rintro e v ⟨rfl, hb⟩
  go_wp2_with fail
  go_returns
  exact ⟨rfl, hb⟩
theorem added_get (z : Int) (n : Nat) (hn : n ≤ big) (r : List UInt8) (hr : (num n ++ r).length ≤ 9223372036854775807) (w : World) :
    Calls Try.prog 98 #[.int .i64 z, .string (mk (num n ++ r))] w fun e w' => e = .returned (.tuple #[.iface 96 (.int .i64 (n : Int)), .string (mk r), .bool true]) ∧ Below w.heap.size w w' := by
  have c := Lib.hid (getNum_any (mk (num n ++ r)) (by rw [← li_len, li_mk']; exact hr) w)
  rw [li_mk', nR_some (gn_num hn r)] at c
  generalize mk (num n ++ r) = s at *
  clear hr
  go_enter Try.func98, Try.ntmps98
  go_wp2_with fail
  refine c.out.mono ?_
  rintro e v ⟨rfl, hb⟩
  go_wp2_with fail
  go_returns
  exact ⟨rfl, hb⟩
theorem length_get (z : Int) (n : Nat) (hn : n ≤ big) (r : List UInt8) (hr : (num n ++ r).length ≤ 9223372036854775807) (w : World) :
    Calls Try.prog 106 #[.int .i64 z, .string (mk (num n ++ r))] w fun e w' => e = .returned (.tuple #[.iface 98 (.int .i64 (n : Int)), .string (mk r), .bool true]) ∧ Below w.heap.size w w' := by
  have c := Lib.hid (getNum_any (mk (num n ++ r)) (by rw [← li_len, li_mk']; exact hr) w)
  rw [li_mk', nR_some (gn_num hn r)] at c
  generalize mk (num n ++ r) = s at *
  clear hr
  go_enter Try.func106, Try.ntmps106
  go_wp2_with fail
  refine c.out.mono ?_
  rintro e v ⟨rfl, hb⟩
  go_wp2_with fail
  go_returns
  exact ⟨rfl, hb⟩
theorem label_get (z : ByteArray) (l : List UInt8) (hl : l.length ≤ 100) (r : List UInt8) (hr : (text l ++ r).length ≤ 9223372036854775807) (w : World) :
    Calls Try.prog 88 #[.string z, .string (mk (text l ++ r))] w fun e w' => e = .returned (.tuple #[.iface 95 (.string (mk l)), .string (mk r), .bool true]) ∧ Below w.heap.size w w' := by
  have c := Lib.hid (getText_any (mk (text l ++ r)) (by rw [← li_len, li_mk']; exact hr) 100 w)
  rw [li_mk', tR_some (gt_text (by unfold big; omega) (by omega) r)] at c
  generalize mk (text l ++ r) = s at *
  clear hr
  go_enter Try.func88, Try.ntmps88
  go_wp2_with fail
  refine c.out.mono ?_
  rintro e v ⟨rfl, hb⟩
  go_wp2_with fail
  go_returns
  exact ⟨rfl, hb⟩
end Go.Proofs.Ytfilolmbppjbjaa
