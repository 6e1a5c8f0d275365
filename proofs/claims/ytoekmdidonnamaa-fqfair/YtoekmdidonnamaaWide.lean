/-
  The calls of package wide (Mul, Div, MulDiv) answer what the document says, at all numbers of 64 bits. Conditions: none beyond that the arguments are numbers of their kind.
-/
import Derived.Test.YtoekmdidonnamaaSat
import Derived.Test.YtoekmdidonnamaaWideMath
import Derived.LoopTactic
set_option linter.unusedVariables false
namespace Go.Proofs.Ytoekmdidonnamaa
open Go.RowKit
set_option maxRecDepth 100000

set_option maxHeartbeats 400000 in
theorem wmul_any (x y : Int) (hx0 : 0 ≤ x) (hx : x ≤ 18446744073709551615) (hy0 : 0 ≤ y) (hy : y ≤ 18446744073709551615) (w : World) :
    Calls Try.prog 90 #[.int .u64 x, .int .u64 y] w fun e w' => e = .returned (.tuple #[.int .u64 (x * y / 18446744073709551616), .int .u64 (x * y % 18446744073709551616)]) ∧ w = w' := by
  go_enter Try.func90, Try.ntmps90
  go_wp2_with (go_at_call 94; refine (mul64_any _ _ hx0 hx hy0 hy _).mono ?_; rintro e w' ⟨rfl, rfl⟩)
  go_ret2
  exact ⟨rfl, rfl⟩

set_option maxHeartbeats 1000000 in
theorem divide_nat (r0 l0 c : Nat) (hr : r0 < c) (hc : c < 18446744073709551616) (hl : l0 < 18446744073709551616) (w : World) :
    Calls Try.prog 95 #[.int .u64 r0, .int .u64 l0, .int .u64 c] w fun e w' => e = .returned (.int .u64 (((r0 * 18446744073709551616 + l0) / c : Nat) : Int)) ∧ w = w' := by
  have H0 := Lib.hid (DivAt.start (hi := r0) (lo := l0) (c := c) hl hr)
  rw [show (2 : Nat) ^ 64 = 18446744073709551616 from rfl] at H0
  generalize r0 * 18446744073709551616 + l0 = N at *
  go_enter Try.func95, Try.ntmps95
  go_wp2
  go_step3
  go_wp2
  go_step3
  go_wp2
  go_loop [0, 1, 7, 11] (fun r l q i => ∃ k R L Q z : Nat, k ≤ 64 ∧ DivAt N c k R L z ∧ Hid (z * 2 ^ (64 - k) = Q) ∧ i = .int .i64 k ∧ r = .int .u64 R ∧ l = .int .u64 L ∧ q = .int .u64 Q) (fun _ _ _ i => 64 - (intOf i).toNat)
  case atStart => exact ⟨0, r0, l0, 0, 0, by omega, H0.out, Lib.hid (by omega), rfl, rfl, rfl, rfl⟩
  case round =>
    clear H0
    obtain ⟨k, R, L, Q, z, hk, hD, HQ, rfl, rfl, rfl, rfl⟩ := hrel
    obtain ⟨hL, hR, hz⟩ := hD.lt hk
    have hQ := quot_lt k z hk hz
    rw [HQ.out] at hQ
    by_cases hlt : k < 64
    · have hz0 := or_zero R L (by omega) hL
      by_cases hzero : R = 0 ∧ L = 0
      · obtain ⟨rfl, rfl⟩ := hzero
        have HE := Lib.hid hD.empty
        rw [HQ.out] at HE
        clear hz0 hD hz
        go_wp2
        try rw [Exit.noGoto_ret]
        go_ret
        exact ⟨ret_int (by rw [HE.out]), rfl⟩
      · have hz1 : (bits .or .u64 (R : Int) (L : Int) == 0) = false := by rw [hz0]; exact decide_eq_false hzero
        clear hz0 hzero
        have HO := Lib.hid (or_quot k z hlt hz)
        rw [HQ.out] at HO
        have hL2 : IntKind.u64.wrap ((L : Int) * 2) = ((2 * L % 18446744073709551616 : Nat) : Int) := by rw [IntKind.wrap_u64]; omega
        have ht := hD.top hlt
        have hor := or_next R L hL
        by_cases hge : c ≤ 2 * R + L / 9223372036854775808
        · have HD := Lib.hid (hD.one hlt hge)
          have Hsub : Hid (IntKind.u64.wrap ((((2 * R + L / 9223372036854775808) % 18446744073709551616 : Nat) : Int) - (c : Int)) = ((2 * R + L / 9223372036854775808 - c : Nat) : Int)) := Lib.hid (by rw [IntKind.wrap_u64]; omega)
          have hQ2 := HO.out
          by_cases hov : R < 9223372036854775808
          · have ho : ((R : Int) / 9223372036854775808 == 1) = false := by rw [beq_eq_false_iff_ne]; omega
            have hor' := or_next' R L hov hL
            have hx : c ≤ (2 * R + L / 9223372036854775808) % 18446744073709551616 := by omega
            have hx2 : (2 * R + L / 9223372036854775808) % 18446744073709551616 < 18446744073709551616 := by omega
            clear hD hz HO
            generalize (2 * R + L / 9223372036854775808) % 18446744073709551616 = X at *
            generalize 2 * R + L / 9223372036854775808 - c = R' at *
            generalize 2 * L % 18446744073709551616 = L' at *
            generalize hQ' : (2 * z + 1) * 2 ^ (63 - k) = Q' at *
            have HQ' := Lib.hid hQ'; clear hQ'
            clear ht hge
            go_wp2
            go_round
            case rel => exact ⟨k + 1, R', L', Q', 2 * z + 1, by omega, HD.out, Lib.hid (by rw [show 64 - (k + 1) = 63 - k from by omega]; exact HQ'.out), by go_num, by first | rw [Hsub.out] | (have := Hsub.out; rw [IntKind.wrap_u64] at this; congr 1; omega), rfl, rfl⟩
            case measure => simp [intOf]; omega
          · have ho : ((R : Int) / 9223372036854775808 == 1) = true := by rw [beq_iff_eq]; omega
            clear hD hz HO
            generalize (2 * R + L / 9223372036854775808) % 18446744073709551616 = X at *
            generalize 2 * R + L / 9223372036854775808 - c = R' at *
            generalize 2 * L % 18446744073709551616 = L' at *
            generalize hQ' : (2 * z + 1) * 2 ^ (63 - k) = Q' at *
            have HQ' := Lib.hid hQ'; clear hQ'
            clear ht hge
            go_wp2
            go_round
            case rel => exact ⟨k + 1, R', L', Q', 2 * z + 1, by omega, HD.out, Lib.hid (by rw [show 64 - (k + 1) = 63 - k from by omega]; exact HQ'.out), by go_num, by rw [Hsub.out], rfl, rfl⟩
            case measure => simp [intOf]; omega
        · have hlt2 : 2 * R + L / 9223372036854775808 < c := by omega
          have HD := Lib.hid (hD.none hlt hlt2)
          have hov : R < 9223372036854775808 := by omega
          have ho : ((R : Int) / 9223372036854775808 == 1) = false := by rw [beq_eq_false_iff_ne]; omega
          have hor' := or_next' R L hov hL
          rw [Nat.mod_eq_of_lt (by omega)] at hor hor'
          have HQ' : Hid (2 * z * 2 ^ (64 - (k + 1)) = Q) := Lib.hid (by
            rw [← HQ.out, show 64 - k = (64 - (k + 1)) + 1 from by omega, Nat.pow_succ]
            generalize 2 ^ (64 - (k + 1)) = P
            grind)
          clear hD hz HO
          generalize 2 * R + L / 9223372036854775808 = X at *
          generalize 2 * L % 18446744073709551616 = L' at *
          clear ht hge
          go_wp2
          go_round
          case rel => exact ⟨k + 1, X, L', Q, 2 * z, by omega, HD.out, HQ', by go_num, rfl, rfl, rfl⟩
          case measure => simp [intOf]; omega
    · have hk' : k = 64 := by omega
      subst hk'
      have HE := Lib.hid hD.done
      have HQ2 : Hid (z = Q) := Lib.hid (by have := HQ.out; simpa using this)
      clear hD hz hQ
      go_wp2
      try rw [Exit.noGoto_ret]
      go_ret
      exact ⟨ret_int (by rw [← HE.out, HQ2.out]), rfl⟩

theorem divide_any (hi lo c : Int) (h0 : 0 ≤ hi) (hr : hi < c) (hc : c ≤ 18446744073709551615) (l0 : 0 ≤ lo) (hl : lo ≤ 18446744073709551615) (w : World) :
    Calls Try.prog 95 #[.int .u64 hi, .int .u64 lo, .int .u64 c] w fun e w' => e = .returned (.int .u64 (divV hi lo c)) ∧ w = w' := by
  have e : divV hi lo c = (hi * 18446744073709551616 + lo) / c := by unfold divV; rw [if_neg (by omega), if_neg (by omega)]
  obtain ⟨x, rfl⟩ := Int.eq_ofNat_of_zero_le h0
  obtain ⟨y, rfl⟩ := Int.eq_ofNat_of_zero_le l0
  obtain ⟨z, rfl⟩ := Int.eq_ofNat_of_zero_le (show 0 ≤ c by omega)
  rw [e]
  exact divide_nat x y z (by omega) (by omega) (by omega) w

set_option maxHeartbeats 400000 in
theorem wdiv_any (hi lo c : Int) (h0 : 0 ≤ hi) (h1 : hi ≤ 18446744073709551615) (l0 : 0 ≤ lo) (l1 : lo ≤ 18446744073709551615) (c0 : 0 ≤ c) (c1 : c ≤ 18446744073709551615) (w : World) :
    Calls Try.prog 91 #[.int .u64 hi, .int .u64 lo, .int .u64 c] w fun e w' => e = .returned (.tuple #[.int .u64 (divV hi lo c), .int .i64 (divE hi lo c)]) ∧ w = w' := by
  by_cases hc : c = 0
  · subst hc
    go_enter Try.func91, Try.ntmps91
    go_wp2
    go_ret2
    exact ⟨rfl, rfl⟩
  · have hcb : (c == 0) = false := by rw [beq_eq_false_iff_ne]; exact hc
    have hc' : 0 < c := by omega
    by_cases h : c ≤ hi
    · have Hv : Hid (divV hi lo c = 0) := Lib.hid (by unfold divV; rw [if_neg hc, if_pos h])
      have He : Hid (divE hi lo c = 3) := Lib.hid (by unfold divE; rw [if_neg hc, if_pos h])
      clear hc
      go_enter Try.func91, Try.ntmps91
      go_wp2
      go_ret2
      exact ⟨ret_two Hv.out.symm He.out.symm, rfl⟩
    · have He : Hid (divE hi lo c = 0) := Lib.hid (by unfold divE; rw [if_neg hc, if_neg h])
      clear hc
      go_enter Try.func91, Try.ntmps91
      go_wp2_with (go_at_call 95; refine (divide_any _ _ _ h0 (by omega) c1 l0 l1 _).mono ?_; rintro e w' ⟨rfl, rfl⟩)
      go_ret2
      exact ⟨ret_two rfl He.out.symm, rfl⟩

theorem or_zero_int {a b : Int} (a0 : 0 ≤ a) (a1 : a ≤ 18446744073709551615) (b0 : 0 ≤ b) (b1 : b ≤ 18446744073709551615) : (bits .or .u64 a b == 0) = decide (a = 0 ∧ b = 0) := by
  obtain ⟨x, rfl⟩ := Int.eq_ofNat_of_zero_le a0
  obtain ⟨y, rfl⟩ := Int.eq_ofNat_of_zero_le b0
  rw [or_zero x y (by omega) (by omega), Bool.eq_iff_iff]
  simp

set_option maxHeartbeats 400000 in
theorem wmuldiv_any (a b c : Int) (a0 : 0 ≤ a) (a1 : a ≤ 18446744073709551615) (b0 : 0 ≤ b) (b1 : b ≤ 18446744073709551615) (c0 : 0 ≤ c) (c1 : c ≤ 18446744073709551615) (w : World) :
    Calls Try.prog 80 #[.int .u64 a, .int .u64 b, .int .u64 c] w fun e w' => e = .returned (.int .u64 (mulDivV a b c)) ∧ w = w' := by
  have hp := Int.mul_nonneg a0 b0
  have hp2 : a * b ≤ 18446744073709551615 * 18446744073709551615 := Int.mul_le_mul a1 b1 b0 (by omega)
  have hdef : mulDivV a b c = if a * b = 0 then 0 else if c = 0 then 18446744073709551615 else if 18446744073709551615 < a * b / c then 18446744073709551615 else a * b / c := rfl
  have hq0 : 0 ≤ a * b / 18446744073709551616 := by omega
  have hq1 : a * b / 18446744073709551616 ≤ 18446744073709551615 := by omega
  have hr0 : 0 ≤ a * b % 18446744073709551616 := by omega
  have hr1 : a * b % 18446744073709551616 ≤ 18446744073709551615 := by omega
  have hz := or_zero_int hq0 hq1 hr0 hr1
  by_cases h : a * b = 0
  · rw [if_pos h] at hdef
    rw [h] at hz
    have Hf := Lib.hid hdef
    have hz2 : (bits .or .u64 (a * b / 18446744073709551616) (a * b % 18446744073709551616) == 0) = true := by rw [h]; exact hz
    clear hdef h hz hp hp2
    go_enter Try.func80, Try.ntmps80
    go_wp2_with (go_at_call 90; refine (wmul_any _ _ a0 a1 b0 b1 _).mono ?_; rintro e w' ⟨rfl, rfl⟩)
    go_ret
    exact ⟨ret_int Hf.out.symm, rfl⟩
  · rw [if_neg h] at hdef
    have hz2 : (bits .or .u64 (a * b / 18446744073709551616) (a * b % 18446744073709551616) == 0) = false := by rw [hz]; exact decide_eq_false (by omega)
    have hdm : a * b / 18446744073709551616 * 18446744073709551616 + a * b % 18446744073709551616 = a * b := by omega
    by_cases hg : c = 0 ∨ c ≤ a * b / 18446744073709551616
    · have Hf : Hid (mulDivV a b c = 18446744073709551615) := Lib.hid (by
        rw [hdef]
        split
        · rfl
        · rw [if_pos ((over_iff hp (by omega)).2 (by omega))])
      have he : (divE (a * b / 18446744073709551616) (a * b % 18446744073709551616) c != 0) = true := by
        rw [bne_iff_ne]; unfold divE; split
        · omega
        · rw [if_pos (by omega)]; omega
      clear hdef h hz hp hp2 hg hdm
      go_enter Try.func80, Try.ntmps80
      go_wp2_with (first
        | (go_at_call 90; refine (wmul_any _ _ a0 a1 b0 b1 _).mono ?_; rintro e w' ⟨rfl, rfl⟩)
        | (go_at_call 91; refine (wdiv_any _ _ _ hq0 hq1 hr0 hr1 c0 c1 _).mono ?_; rintro e w' ⟨rfl, rfl⟩))
      go_ret
      exact ⟨ret_int Hf.out.symm, rfl⟩
    · have Hf : Hid (mulDivV a b c = divV (a * b / 18446744073709551616) (a * b % 18446744073709551616) c) := Lib.hid (by
        rw [hdef, if_neg (by omega), if_neg (by rw [over_iff hp (by omega)]; omega)]
        unfold divV
        rw [if_neg (by omega), if_neg (by omega), hdm])
      have he : (divE (a * b / 18446744073709551616) (a * b % 18446744073709551616) c != 0) = false := by
        unfold divE; rw [if_neg (by omega), if_neg (by omega)]; rfl
      clear hdef h hz hp hp2 hg hdm
      go_enter Try.func80, Try.ntmps80
      go_wp2_with (first
        | (go_at_call 90; refine (wmul_any _ _ a0 a1 b0 b1 _).mono ?_; rintro e w' ⟨rfl, rfl⟩)
        | (go_at_call 91; refine (wdiv_any _ _ _ hq0 hq1 hr0 hr1 c0 c1 _).mono ?_; rintro e w' ⟨rfl, rfl⟩))
      go_ret
      exact ⟨ret_int Hf.out.symm, rfl⟩
end Go.Proofs.Ytoekmdidonnamaa
