/-
  The plain definitions Add, Sub, Mul of package canterref01 answer the same mathematics as package sat. Conditions: the numbers are of their kind.
-/
import Derived.Test.YtbimmadllfgmiaaGreatSat
namespace Go.Proofs.YtbimmadllfgmiaaGreat
open Go.RowKit
set_option maxRecDepth 100000

set_option maxHeartbeats 400000 in
theorem radd_any (a b : Int) (ha0 : 0 ≤ a) (ha : a ≤ 18446744073709551615) (hb0 : 0 ≤ b) (hb : b ≤ 18446744073709551615) (w : World) :
    Calls Tryz.prog 67 #[.int .u64 a, .int .u64 b] w fun e w' => e = .returned (.int .u64 (satAdd a b)) ∧ w = w' := by
  by_cases h : a + b ≤ 18446744073709551615
  · have Hf := Lib.hid (satAdd_le h)
    have h2 : a ≤ 18446744073709551615 - b := by omega
    go_enter Tryz.func67, Tryz.ntmps67
    go_wp2
    go_ret
    exact ⟨ret_int Hf.out.symm, rfl⟩
  · have h : 18446744073709551615 < a + b := by omega
    have h2 : 18446744073709551615 - b < a := by omega
    have Hf := Lib.hid (satAdd_gt h)
    go_enter Tryz.func67, Tryz.ntmps67
    go_wp2
    go_ret
    exact ⟨ret_int Hf.out.symm, rfl⟩
set_option maxHeartbeats 400000 in
theorem rsub_any (a b : Int) (ha0 : 0 ≤ a) (ha : a ≤ 18446744073709551615) (hb0 : 0 ≤ b) (hb : b ≤ 18446744073709551615) (w : World) :
    Calls Tryz.prog 43 #[.int .u64 a, .int .u64 b] w fun e w' => e = .returned (.int .u64 (satSub a b)) ∧ w = w' := by
  by_cases h : a < b
  · have Hf := Lib.hid (satSub_lt h)
    go_enter Tryz.func43, Tryz.ntmps43
    go_wp2
    go_ret
    exact ⟨ret_int Hf.out.symm, rfl⟩
  · have h : b ≤ a := by omega
    have Hf := Lib.hid (satSub_ge h)
    go_enter Tryz.func43, Tryz.ntmps43
    go_wp2
    go_ret
    exact ⟨ret_int Hf.out.symm, rfl⟩
theorem mul_fits {a b : Int} (hb : 0 < b) (h : a ≤ 18446744073709551615 / b) : a * b ≤ 18446744073709551615 :=
  Int.le_trans (Int.mul_le_mul_of_nonneg_right h (by omega)) (Int.ediv_mul_le _ (by omega))
theorem mul_over {a b : Int} (hb : 0 < b) (h : 18446744073709551615 / b < a) : 18446744073709551615 < a * b :=
  Int.lt_mul_of_ediv_lt hb h

set_option maxHeartbeats 400000 in
theorem rmul_any (a b : Int) (ha0 : 0 ≤ a) (_ha : a ≤ 18446744073709551615) (hb0 : 0 ≤ b) (hb : b ≤ 18446744073709551615) (w : World) :
    Calls Tryz.prog 101 #[.int .u64 a, .int .u64 b] w fun e w' => e = .returned (.int .u64 (satMul a b)) ∧ w = w' := by
  by_cases h0 : b = 0
  · subst h0
    have Hf : Hid (satMul a 0 = 0) := Lib.hid (by unfold satMul; rw [Int.mul_zero]; rfl)
    go_enter Tryz.func101, Tryz.ntmps101
    go_wp2
    go_ret
    exact ⟨ret_int Hf.out.symm, rfl⟩
  · have hp : 0 < b := by omega
    clear h0
    by_cases h : 18446744073709551615 / b < a
    · have Hf := Lib.hid (satMul_gt (mul_over hp h))
      go_enter Tryz.func101, Tryz.ntmps101
      go_wp2
      go_ret
      exact ⟨ret_int Hf.out.symm, rfl⟩
    · have h : a ≤ 18446744073709551615 / b := by omega
      have hm := mul_fits hp h
      have hn : 0 ≤ a * b := Int.mul_nonneg ha0 hb0
      have Hf := Lib.hid (satMul_le hm)
      go_enter Tryz.func101, Tryz.ntmps101
      go_wp2
      go_ret
      exact ⟨ret_int Hf.out.symm, rfl⟩
end Go.Proofs.YtbimmadllfgmiaaGreat
