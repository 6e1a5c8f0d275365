/-
  The plain definitions of package canterref01 (Add, Sub, Mul, Int, Sum) answer the same mathematics as package sat. Conditions: the numbers are of their kind; Sum's numbers lie in memory as a slice does.
-/
import Derived.Test.YtgohmjjibnaniaaSum
namespace Go.Proofs.Ytgohmjjibnaniaa
open Go.RowKit

set_option maxHeartbeats 400000 in
theorem radd_any (a b : Int) (ha0 : 0 ≤ a) (ha : a ≤ 18446744073709551615) (hb0 : 0 ≤ b) (hb : b ≤ 18446744073709551615) (w : World) :
    Calls Try.prog 12 #[.int .u64 a, .int .u64 b] w fun e w' => e = .returned (.int .u64 (satAdd a b)) ∧ w = w' := by
  by_cases h : a + b ≤ 18446744073709551615
  · have Hf := Lib.hid (satAdd_le h)
    have h2 : a ≤ 18446744073709551615 - b := by omega
    go_enter Try.func12, Try.ntmps12
    go_wp2
    go_ret
    exact ⟨ret_int Hf.out.symm, rfl⟩
  · have h : 18446744073709551615 < a + b := by omega
    have h2 : 18446744073709551615 - b < a := by omega
    have Hf := Lib.hid (satAdd_gt h)
    go_enter Try.func12, Try.ntmps12
    go_wp2
    go_ret
    exact ⟨ret_int Hf.out.symm, rfl⟩

set_option maxHeartbeats 400000 in
theorem rsub_any (a b : Int) (ha0 : 0 ≤ a) (ha : a ≤ 18446744073709551615) (hb0 : 0 ≤ b) (hb : b ≤ 18446744073709551615) (w : World) :
    Calls Try.prog 14 #[.int .u64 a, .int .u64 b] w fun e w' => e = .returned (.int .u64 (satSub a b)) ∧ w = w' := by
  by_cases h : a < b
  · have Hf := Lib.hid (satSub_lt h)
    go_enter Try.func14, Try.ntmps14
    go_wp2
    go_ret
    exact ⟨ret_int Hf.out.symm, rfl⟩
  · have h : b ≤ a := by omega
    have Hf := Lib.hid (satSub_ge h)
    go_enter Try.func14, Try.ntmps14
    go_wp2
    go_ret
    exact ⟨ret_int Hf.out.symm, rfl⟩

theorem mul_fits {a b : Int} (hb : 0 < b) (h : a ≤ 18446744073709551615 / b) : a * b ≤ 18446744073709551615 :=
  Int.le_trans (Int.mul_le_mul_of_nonneg_right h (by omega)) (Int.ediv_mul_le _ (by omega))
theorem mul_over {a b : Int} (hb : 0 < b) (h : 18446744073709551615 / b < a) : 18446744073709551615 < a * b :=
  Int.lt_mul_of_ediv_lt hb h

set_option maxHeartbeats 400000 in
theorem rmul_any (a b : Int) (ha0 : 0 ≤ a) (_ha : a ≤ 18446744073709551615) (hb0 : 0 ≤ b) (hb : b ≤ 18446744073709551615) (w : World) :
    Calls Try.prog 16 #[.int .u64 a, .int .u64 b] w fun e w' => e = .returned (.int .u64 (satMul a b)) ∧ w = w' := by
  by_cases h0 : b = 0
  · subst h0
    have Hf : Hid (satMul a 0 = 0) := Lib.hid (by unfold satMul; rw [Int.mul_zero]; rfl)
    go_enter Try.func16, Try.ntmps16
    go_wp2
    go_ret
    exact ⟨ret_int Hf.out.symm, rfl⟩
  · have hp : 0 < b := by omega
    clear h0
    by_cases h : 18446744073709551615 / b < a
    · have Hf := Lib.hid (satMul_gt (mul_over hp h))
      go_enter Try.func16, Try.ntmps16
      go_wp2
      go_ret
      exact ⟨ret_int Hf.out.symm, rfl⟩
    · have h : a ≤ 18446744073709551615 / b := by omega
      have hm := mul_fits hp h
      have hn : 0 ≤ a * b := Int.mul_nonneg ha0 hb0
      have Hf := Lib.hid (satMul_le hm)
      go_enter Try.func16, Try.ntmps16
      go_wp2
      go_ret
      exact ⟨ret_int Hf.out.symm, rfl⟩

set_option maxHeartbeats 400000 in
theorem rint_any (a : Int) (ha0 : 0 ≤ a) (ha : a ≤ 18446744073709551615) (w : World) :
    Calls Try.prog 18 #[.int .u64 a] w fun e w' => e = .returned (.int .i64 (satInt a)) ∧ w = w' := by
  by_cases h : 9223372036854775807 < a
  · have Hf := Lib.hid (satInt_gt h)
    go_enter Try.func18, Try.ntmps18
    go_wp2
    go_ret
    exact ⟨ret_int Hf.out.symm, rfl⟩
  · have h : a ≤ 9223372036854775807 := by omega
    have Hf := Lib.hid (satInt_le h)
    go_enter Try.func18, Try.ntmps18
    go_wp2
    all_goals go_ret
    all_goals exact ⟨ret_int Hf.out.symm, rfl⟩

set_option maxHeartbeats 400000 in
theorem rsum_any (a : Option Addr) (cap : Nat) (zs : List Int) (w : World) (hlen : zs.length ≤ 9223372036854775807) (hc : Rd .u64 w a zs)
    (hb : ∀ k, k < zs.length → 0 ≤ zs.getD k 0 ∧ zs.getD k 0 ≤ 18446744073709551615) :
    Calls Try.prog 10 #[.slice a zs.length cap] w fun e w' => e = .returned (.tuple #[.int .u64 (sumV zs), .int .i64 (sumE zs)]) ∧ w = w' := by
  have HC := Lib.hid hc; have HB := Lib.hid hb; clear hc hb
  go_enter Try.func10, Try.ntmps10
  go_wp2
  go_loop [4, 5] (fun t i => ∃ k : Nat, k ≤ zs.length ∧ i = .int .i64 k ∧ (zs.take k).sum ≤ 18446744073709551615 ∧ t = .int .u64 (zs.take k).sum) (fun _ i => zs.length - (intOf i).toNat)
  case atStart => exact ⟨0, Nat.zero_le _, rfl, by simp, rfl⟩
  case round =>
    obtain ⟨k, hk, rfl, hle, rfl⟩ := hrel
    have h0 := sum_take_nonneg zs (fun j hj => (HB.out j hj).1) k hk
    by_cases hlt : k < zs.length
    · obtain ⟨hx0, hx1⟩ := HB.out k hlt
      obtain ⟨b, off, rfl, _, hcell⟩ := HC.out k hlt
      have hs := sum_take_succ zs k hlt
      have hmono := sum_take_le zs (fun j hj => (HB.out j hj).1) (k + 1) zs.length (by omega) (by omega)
      rw [hs, List.take_length] at hmono
      have HS := Lib.hid hs; clear hs
      generalize zs.getD k 0 = x at *
      generalize hT : (zs.take k).sum = T at *
      have HT := Lib.hid hT; clear hT
      by_cases hfit : T + x ≤ 18446744073709551615
      · have h2 : T ≤ 18446744073709551615 - x := by omega
        go_wp2
        go_round
        case rel => exact ⟨k + 1, by omega, by go_num, by rw [HS.out]; exact hfit, by rw [HS.out]⟩
        case measure => simp [intOf]; omega
      · have h2 : 18446744073709551615 - x < T := by omega
        have Hv : Hid (sumV zs = 0) := Lib.hid (if_neg (by omega))
        have He : Hid (sumE zs = 3) := Lib.hid (if_neg (by omega))
        go_wp2
        go_ret2
        exact ⟨ret_two Hv.out.symm He.out.symm, rfl⟩
    · have hk' : k = zs.length := by omega
      subst hk'
      rw [List.take_length] at hle
      have Hv : Hid (zs.sum = sumV zs) := Lib.hid (if_pos hle).symm
      have He : Hid (sumE zs = 0) := Lib.hid (if_pos hle)
      go_wp2
      go_ret2
      exact ⟨ret_two Hv.out He.out.symm, rfl⟩
end Go.Proofs.Ytgohmjjibnaniaa
