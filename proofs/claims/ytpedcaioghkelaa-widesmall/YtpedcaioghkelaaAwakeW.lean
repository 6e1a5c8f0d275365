/-
  The first line of each statement on package wide, 'awake', answers true. Conditions: none.
-/
import Derived.Test.YtpedcaioghkelaaWide
namespace Go.Proofs.Ytpedcaioghkelaa
open Go.RowKit

theorem aww_mul (w : World) : Calls Try.prog 9 #[.int .u64 9223372036854775808, .int .u64 4] w fun e w' => e = .returned (.tuple #[.int .u64 2, .int .u64 0]) ∧ w = w' :=
  wmul_any 9223372036854775808 4 (by omega) (by omega) (by omega) (by omega) w
theorem aww_muldiv (w : World) : Calls Try.prog 14 #[.int .u64 7, .int .u64 3, .int .u64 2] w fun e w' => e = .returned (.int .u64 10) ∧ w = w' :=
  wmuldiv_any 7 3 2 (by omega) (by omega) (by omega) (by omega) (by omega) (by omega) w

set_option maxHeartbeats 400000 in
theorem awakew_any (w : World) : Calls Try.prog 13 #[] w fun e w' => e = .returned (.bool true) ∧ w = w' := by
  go_enter Try.func13, Try.ntmps13
  go_wp2_with (first
    | (go_at_call 9; refine (aww_mul _).mono ?_; rintro e w' ⟨rfl, rfl⟩)
    | (go_at_call 14; refine (aww_muldiv _).mono ?_; rintro e w' ⟨rfl, rfl⟩))
  go_ret
  exact ⟨rfl, rfl⟩
end Go.Proofs.Ytpedcaioghkelaa
