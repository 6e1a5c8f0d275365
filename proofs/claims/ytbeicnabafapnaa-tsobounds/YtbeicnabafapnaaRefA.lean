/-
  The plain definitions Add, Sub, Mul of package canterref01 answer the same mathematics as package sat. Conditions: the numbers are of their kind.
-/
import Derived.Test.YtbeicnabafapnaaSat
namespace Go.Proofs.Ytbeicnabafapnaa
open Go.RowKit

set_option maxHeartbeats 400000 in
theorem radd_any (a b : Int) (ha0 : 0 ≤ a) (ha : a ≤ 18446744073709551615) (hb0 : 0 ≤ b) (hb : b ≤ 18446744073709551615) (w : World) :
    Calls Try.prog 10 #[.int .u64 a, .int .u64 b] w fun e w' => e = .returned (.int .u64 (satAdd a b)) ∧ w = w' := by
  by_cases h : a + b ≤ 18446744073709551615
  · have Hf := Lib.hid (satAdd_le h)
    have h2 : a ≤ 18446744073709551615 - b := by omega
    go_enter Try.func10, Try.ntmps10
    go_wp2
    go_ret
    exact ⟨ret_int Hf.out.symm, rfl⟩
  · have h : 18446744073709551615 < a + b := by omega
    have h2 : 18446744073709551615 - b < a := by omega
    have Hf := Lib.hid (satAdd_gt h)
    go_enter Try.func10, Try.ntmps10
    go_wp2
    go_ret
    exact ⟨ret_int Hf.out.symm, rfl⟩
end Go.Proofs.Ytbeicnabafapnaa
