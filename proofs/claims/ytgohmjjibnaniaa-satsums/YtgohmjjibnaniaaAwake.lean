/-
  The first line of each statement on package sat, 'awake', answers true. Conditions: none.
-/
import Derived.Test.YtgohmjjibnaniaaSum
namespace Go.Proofs.Ytgohmjjibnaniaa
open Go.RowKit

theorem aw_add (w : World) : Calls Try.prog 11 #[.int .u64 1, .int .u64 2] w fun e w' => e = .returned (.int .u64 3) ∧ w = w' :=
  add_any 1 2 (by omega) (by omega) (by omega) (by omega) w
theorem aw_mul (w : World) : Calls Try.prog 15 #[.int .u64 2, .int .u64 3] w fun e w' => e = .returned (.int .u64 6) ∧ w = w' :=
  mul_any 2 3 (by omega) (by omega) (by omega) (by omega) w
theorem aw_sub (w : World) : Calls Try.prog 13 #[.int .u64 3, .int .u64 2] w fun e w' => e = .returned (.int .u64 1) ∧ w = w' :=
  sub_any 3 2 (by omega) (by omega) (by omega) (by omega) w
theorem aw_int (w : World) : Calls Try.prog 17 #[.int .u64 7] w fun e w' => e = .returned (.int .i64 7) ∧ w = w' :=
  int_any 7 (by omega) (by omega) w
theorem aw_sum (w : World) : Calls Try.prog 9 #[.slice (some ⟨w.heap.size, 0, none⟩) 2 2] (w.alloc (.cells #[.int .u64 1, .int .u64 2] 22)) fun e w' =>
    e = .returned (.tuple #[.int .u64 3, .int .i64 0]) ∧ w.alloc (.cells #[.int .u64 1, .int .u64 2] 22) = w' := by
  refine sum_any (some ⟨w.heap.size, 0, none⟩) 2 [1, 2] _ (by decide) ?_ ?_
  · intro k hk
    have : k = 0 ∨ k = 1 := by simp at hk; omega
    refine ⟨w.heap.size, 0, rfl, by simp, ?_⟩
    rcases this with rfl | rfl <;> simp [go_sem]
  · intro k hk
    have : k = 0 ∨ k = 1 := by simp at hk; omega
    rcases this with rfl | rfl <;> simp

set_option maxHeartbeats 400000 in
theorem awake_any (w : World) :
    Calls Try.prog 7 #[] w fun e w' => e = .returned (.bool true) ∧ w.alloc (.cells #[.int .u64 1, .int .u64 2] 22) = w' := by
  go_enter Try.func7, Try.ntmps7
  go_wp2_with (first
    | (go_at_call 9; refine (aw_sum _).mono ?_; rintro e w' ⟨rfl, rfl⟩)
    | (go_at_call 11; refine (aw_add _).mono ?_; rintro e w' ⟨rfl, rfl⟩)
    | (go_at_call 15; refine (aw_mul _).mono ?_; rintro e w' ⟨rfl, rfl⟩)
    | (go_at_call 13; refine (aw_sub _).mono ?_; rintro e w' ⟨rfl, rfl⟩)
    | (go_at_call 17; refine (aw_int _).mono ?_; rintro e w' ⟨rfl, rfl⟩))
  go_ret
  exact ⟨rfl, rfl⟩
end Go.Proofs.Ytgohmjjibnaniaa
