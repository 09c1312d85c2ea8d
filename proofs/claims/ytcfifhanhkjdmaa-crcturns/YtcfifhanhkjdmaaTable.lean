/-
  What table of the program returns.
-/
import Derived.Test.YtcfifhanhkjdmaaWalks
namespace Go.Proofs.Ytcfifhanhkjdmaa
open Go.RowKit

set_option maxHeartbeats 1000000 in
theorem table_any (w : World) :
    Calls Try.prog 21 #[] w fun e w' => e = .returned (.agg #[.int .u32 (T 0), .int .u32 (T 1), .int .u32 (T 2), .int .u32 (T 3), .int .u32 (T 4), .int .u32 (T 5), .int .u32 (T 6), .int .u32 (T 7), .int .u32 (T 8), .int .u32 (T 9), .int .u32 (T 10), .int .u32 (T 11), .int .u32 (T 12), .int .u32 (T 13), .int .u32 (T 14), .int .u32 (T 15)]) ∧ Below w.heap.size w w' := by
  go_enter Try.func21, Try.ntmps21
  go_wp2_with fail
  refine wp_loop_rounds 17 ?_
  repeat any_goals (rw [rounds_succ]; go_wp2_with (go_at_call 22; refine (halve_T _ (by omega) (by omega) _).mono ?_; rintro e w' ⟨rfl, rfl⟩))
  go_returns
  exact ⟨rfl, by go_grown⟩

end Go.Proofs.Ytcfifhanhkjdmaa
