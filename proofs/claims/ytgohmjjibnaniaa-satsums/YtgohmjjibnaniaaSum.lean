/-
  sat.Sum answers the sum of all its numbers, or 0 and ErrOver where it is more than 2^64 - 1. Conditions: the numbers lie in memory as a slice does.
-/
import Derived.Test.YtgohmjjibnaniaaSat
import Derived.Test.YtgohmjjibnaniaaMem
import Derived.LoopTactic
import Derived.Deep.LoopGhost
namespace Go.Proofs.Ytgohmjjibnaniaa
open Go.RowKit

def sumV (l : List Int) : Int := if l.sum ≤ 18446744073709551615 then l.sum else 0
def sumE (l : List Int) : Int := if l.sum ≤ 18446744073709551615 then 0 else 3

theorem sum_take_succ (zs : List Int) (k : Nat) (h : k < zs.length) : (zs.take (k + 1)).sum = (zs.take k).sum + zs.getD k 0 := by
  rw [List.take_succ_eq_append_getElem h, List.sum_append]
  simp [List.getD_eq_getElem?_getD, h]
theorem sum_take_le (zs : List Int) (hb : ∀ k, k < zs.length → 0 ≤ zs.getD k 0) (j k : Nat) (hjk : j ≤ k) (hk : k ≤ zs.length) : (zs.take j).sum ≤ (zs.take k).sum := by
  induction k with
  | zero => have : j = 0 := by omega
            subst this; exact Int.le_refl _
  | succ k ih =>
    by_cases h : j = k + 1
    · subst h; exact Int.le_refl _
    · have h1 := ih (by omega) (by omega)
      have h2 := sum_take_succ zs k (by omega)
      have h3 := hb k (by omega)
      omega
theorem sum_take_nonneg (zs : List Int) (hb : ∀ k, k < zs.length → 0 ≤ zs.getD k 0) (k : Nat) (hk : k ≤ zs.length) : 0 ≤ (zs.take k).sum := by
  have := sum_take_le zs hb 0 k (by omega) hk
  simpa using this

set_option maxHeartbeats 400000 in
theorem sum_any (a : Option Addr) (cap : Nat) (zs : List Int) (w : World) (hlen : zs.length ≤ 9223372036854775807) (hc : Rd .u64 w a zs)
    (hb : ∀ k, k < zs.length → 0 ≤ zs.getD k 0 ∧ zs.getD k 0 ≤ 18446744073709551615) :
    Calls Try.prog 9 #[.slice a zs.length cap] w fun e w' => e = .returned (.tuple #[.int .u64 (sumV zs), .int .i64 (sumE zs)]) ∧ w = w' := by
  have HC := Lib.hid hc; have HB := Lib.hid hb; clear hc hb
  go_enter Try.func9, Try.ntmps9
  go_wp2
  go_step3
  go_wp2
  go_step3
  go_wp2
  go_loop [4, 5, 12] (fun t e i => ∃ k : Nat, k ≤ zs.length ∧ i = .int .i64 k ∧ e = .int .i64 0 ∧ (zs.take k).sum ≤ 18446744073709551615 ∧ t = .int .u64 (zs.take k).sum) (fun _ _ i => zs.length - (intOf i).toNat)
  case atStart => exact ⟨0, Nat.zero_le _, rfl, rfl, by simp, rfl⟩
  case round =>
    obtain ⟨k, hk, rfl, rfl, hle, rfl⟩ := hrel
    have h0 := sum_take_nonneg zs (fun j hj => (HB.out j hj).1) k hk
    by_cases hlt : k < zs.length
    · obtain ⟨hx0, hx1⟩ := HB.out k hlt
      obtain ⟨b, off, rfl, _, hcell⟩ := HC.out k hlt
      have hs := sum_take_succ zs k hlt
      have hmono := sum_take_le zs (fun j hj => (HB.out j hj).1) (k + 1) zs.length (by omega) (by omega)
      rw [hs, List.take_length] at hmono
      have HS := Lib.hid hs; clear hs
      generalize zs.getD k 0 = x at *
      generalize hT : (zs.take k).sum = T at *
      have HT := Lib.hid hT; clear hT
      by_cases hfit : T + x ≤ 18446744073709551615
      · have hq : ((T + x) / 18446744073709551616 == 0) = true := by
          have : (T + x) / 18446744073709551616 = 0 := by omega
          rw [this]; rfl
        have Hm : Hid ((T + x) % 18446744073709551616 = T + x) := Lib.hid (by omega)
        go_wp2_with (simp only [add64_0 T x h0 hx0])
        go_round
        case rel => exact ⟨k + 1, by omega, by go_num, rfl, by rw [HS.out]; exact hfit, by rw [HS.out, Hm.out]⟩
        case measure => simp [intOf]; omega
      · have hq : ((T + x) / 18446744073709551616 == 0) = false := by
          have : (T + x) / 18446744073709551616 = 1 := by omega
          rw [this]; rfl
        have Hv : Hid (sumV zs = 0) := Lib.hid (if_neg (by omega))
        have He : Hid (sumE zs = 3) := Lib.hid (if_neg (by omega))
        go_wp2_with (simp only [add64_0 T x h0 hx0])
        try rw [Exit.noGoto_ret]
        go_ret2
        exact ⟨ret_two Hv.out.symm He.out.symm, rfl⟩
    · have hk' : k = zs.length := by omega
      subst hk'
      rw [List.take_length] at hle
      have Hv : Hid (zs.sum = sumV zs) := Lib.hid (if_pos hle).symm
      have He : Hid (sumE zs = 0) := Lib.hid (if_pos hle)
      go_wp2
      try rw [Exit.noGoto_ret]
      go_ret2
      exact ⟨ret_two Hv.out He.out.symm, rfl⟩
end Go.Proofs.Ytgohmjjibnaniaa
