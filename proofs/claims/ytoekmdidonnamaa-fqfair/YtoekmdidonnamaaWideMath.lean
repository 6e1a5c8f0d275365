/-
  Plain mathematics of a division bit by bit, and of products and quotients of 128 bits. No program is spoken of. Conditions: none.
-/
import Derived.WalkKit
import Derived.Laws.Bits64b
set_option linter.unusedVariables false
namespace Go.Proofs.Ytoekmdidonnamaa
open Go.RowKit
set_option maxRecDepth 100000

/-- How far a division of N by c has come behind k bits: what is left (r), what is still to come (l), the quotient so far (q). -/
def DivAt (N c k r l q : Nat) : Prop := ∃ m, l = m * 2 ^ k ∧ m < 2 ^ (64 - k) ∧ N = (q * c + r) * 2 ^ (64 - k) + m ∧ r < c ∧ q < 2 ^ k

theorem DivAt.start {hi lo c : Nat} (hl : lo < 2 ^ 64) (hc : hi < c) : DivAt (hi * 2 ^ 64 + lo) c 0 hi lo 0 :=
  ⟨lo, by simp, by simpa using hl, by simp, hc, by simp⟩

theorem DivAt.lt {N c k r l q : Nat} (h : DivAt N c k r l q) (hk : k ≤ 64) : l < 18446744073709551616 ∧ r < c ∧ q < 2 ^ k := by
  obtain ⟨m, rfl, hm, _, hr, hq⟩ := h
  refine ⟨?_, hr, hq⟩
  have h1 : m * 2 ^ k < 2 ^ (64 - k) * 2 ^ k := Nat.mul_lt_mul_of_pos_right hm (Nat.pow_pos (by omega))
  rw [← Nat.pow_add, show 64 - k + k = 64 from by omega] at h1
  exact h1

theorem DivAt.split {k m : Nat} (hk : k < 64) (hm : m < 2 ^ (64 - k)) : m * 2 ^ k / 9223372036854775808 = m / 2 ^ (63 - k) ∧ 2 * (m * 2 ^ k) % 18446744073709551616 = m % 2 ^ (63 - k) * 2 ^ (k + 1) := by
  have e1 : (9223372036854775808 : Nat) = 2 ^ (63 - k) * 2 ^ k := by rw [← Nat.pow_add, show 63 - k + k = 63 from by omega]
  have e2 : (18446744073709551616 : Nat) = 2 ^ (63 - k) * 2 ^ (k + 1) := by rw [← Nat.pow_add, show 63 - k + (k + 1) = 64 from by omega]
  constructor
  · rw [e1, Nat.mul_div_mul_right _ _ (Nat.pow_pos (by omega))]
  · rw [e2, show 2 * (m * 2 ^ k) = m * 2 ^ (k + 1) from by rw [Nat.pow_succ]; grind, Nat.mul_mod_mul_right]

theorem DivAt.top {N c k r l q : Nat} (h : DivAt N c k r l q) (hk : k < 64) : l / 9223372036854775808 ≤ 1 := by
  have := (h.lt (by omega)).1
  omega

theorem DivAt.one {N c k r l q : Nat} (h : DivAt N c k r l q) (hk : k < 64) (hc : c ≤ 2 * r + l / 9223372036854775808) :
    DivAt N c (k + 1) (2 * r + l / 9223372036854775808 - c) (2 * l % 18446744073709551616) (2 * q + 1) := by
  have ht := h.top hk
  obtain ⟨m, rfl, hm, hN, hr, hq⟩ := h
  obtain ⟨e1, e2⟩ := DivAt.split hk hm
  refine ⟨m % 2 ^ (63 - k), e2, ?_, ?_, by omega, by rw [Nat.pow_succ]; omega⟩
  · rw [show 64 - (k + 1) = 63 - k from by omega]; exact Nat.mod_lt _ (Nat.pow_pos (by omega))
  · rw [e1] at hc ⊢
    rw [show 64 - k = (63 - k) + 1 from by omega, Nat.pow_succ] at hN
    rw [show 64 - (k + 1) = 63 - k from by omega, hN]
    have hd := Nat.div_add_mod m (2 ^ (63 - k))
    generalize 2 ^ (63 - k) = P at *
    generalize m / P = t at *
    generalize m % P = s at *
    obtain ⟨d, hd2⟩ := Nat.exists_eq_add_of_le hc
    rw [show 2 * r + t - c = d from by omega]
    have : (2 * r + t) * P = (c + d) * P := by rw [hd2]
    subst hd
    grind

theorem DivAt.none {N c k r l q : Nat} (h : DivAt N c k r l q) (hk : k < 64) (hc : 2 * r + l / 9223372036854775808 < c) :
    DivAt N c (k + 1) (2 * r + l / 9223372036854775808) (2 * l % 18446744073709551616) (2 * q) := by
  obtain ⟨m, rfl, hm, hN, hr, hq⟩ := h
  obtain ⟨e1, e2⟩ := DivAt.split hk hm
  refine ⟨m % 2 ^ (63 - k), e2, ?_, ?_, by omega, by rw [Nat.pow_succ]; omega⟩
  · rw [show 64 - (k + 1) = 63 - k from by omega]; exact Nat.mod_lt _ (Nat.pow_pos (by omega))
  · rw [e1] at hc ⊢
    rw [show 64 - k = (63 - k) + 1 from by omega, Nat.pow_succ] at hN
    rw [show 64 - (k + 1) = 63 - k from by omega, hN]
    have hd := Nat.div_add_mod m (2 ^ (63 - k))
    generalize 2 ^ (63 - k) = P at *
    generalize m / P = t at *
    generalize m % P = s at *
    subst hd
    grind

theorem DivAt.done {N c r l q : Nat} (h : DivAt N c 64 r l q) : q = N / c := by
  obtain ⟨m, rfl, hm, hN, hr, hq⟩ := h
  have hm0 : m = 0 := by simpa using hm
  subst hm0
  rw [hN]
  simp only [Nat.sub_self, Nat.pow_zero, Nat.mul_one, Nat.add_zero]
  rw [Nat.mul_comm q c, Nat.mul_add_div (by omega), Nat.div_eq_of_lt hr, Nat.add_zero]

theorem DivAt.empty {N c k q : Nat} (h : DivAt N c k 0 0 q) : q * 2 ^ (64 - k) = N / c := by
  obtain ⟨m, hl, hm, hN, hr, hq⟩ := h
  have hm0 : m = 0 := by
    rcases Nat.mul_eq_zero.1 hl.symm with h | h
    · exact h
    · exact absurd h (Nat.ne_of_gt (Nat.pow_pos (by omega)))
  subst hm0
  rw [hN, Nat.add_zero, Nat.add_zero, show q * c * 2 ^ (64 - k) = c * (q * 2 ^ (64 - k)) from by grind, Nat.mul_div_cancel_left _ hr]

/-! ### Bits -/
theorem or_bit (x t : Nat) (ht : t ≤ 1) (hx : 2 * x + t < 18446744073709551616) : bits .or .u64 ((2 * x : Nat) : Int) (t : Int) = ((2 * x + t : Nat) : Int) := by
  rw [bits_or_u64_nat _ _ (by omega) (by omega)]
  congr 1
  have := Nat.two_pow_add_eq_or_of_lt (i := 1) (b := t) (by omega) x
  rw [show 2 ^ 1 * x = 2 * x from rfl] at this
  exact this.symm
theorem or_next (R L : Nat) (hL : L < 18446744073709551616) :
    bits .or .u64 (IntKind.u64.wrap ((R : Int) * 2)) ((L : Int) / 9223372036854775808) = (((2 * R + L / 9223372036854775808) % 18446744073709551616 : Nat) : Int) := by
  have e := or_bit (R % 9223372036854775808) (L / 9223372036854775808) (by omega) (by omega)
  rw [IntKind.wrap_u64, show (R : Int) * 2 % 18446744073709551616 = ((2 * (R % 9223372036854775808) : Nat) : Int) from by omega,
    show (L : Int) / 9223372036854775808 = ((L / 9223372036854775808 : Nat) : Int) from by omega, e]
  congr 1
  omega
theorem or_next' (R L : Nat) (hR : R < 9223372036854775808) (hL : L < 18446744073709551616) :
    bits .or .u64 ((R : Int) * 2) ((L : Int) / 9223372036854775808) = (((2 * R + L / 9223372036854775808) % 18446744073709551616 : Nat) : Int) := by
  rw [← or_next R L hL, IntKind.wrap_u64]
  congr 1
  omega
theorem or_quot (k q : Nat) (hk : k < 64) (hq : q < 2 ^ k) :
    bits .or .u64 ((q * 2 ^ (64 - k) : Nat) : Int) (9223372036854775808 / 2 ^ k) = (((2 * q + 1) * 2 ^ (63 - k) : Nat) : Int) := by
  have e1 : (9223372036854775808 : Nat) = 2 ^ (63 - k) * 2 ^ k := by rw [← Nat.pow_add, show 63 - k + k = 63 from by omega]
  have e2 : ((9223372036854775808 : Int) / 2 ^ k) = ((2 ^ (63 - k) : Nat) : Int) := by
    have : (9223372036854775808 : Nat) / 2 ^ k = 2 ^ (63 - k) := by rw [e1, Nat.mul_div_cancel _ (Nat.pow_pos (by omega))]
    rw [← this]; simp
  have e3 : q * 2 ^ (64 - k) = 2 ^ (64 - k) * q := Nat.mul_comm _ _
  have e4 : 2 ^ (63 - k) < 2 ^ (64 - k) := Nat.pow_lt_pow_right (by omega) (by omega)
  have e5 : q * 2 ^ (64 - k) < 18446744073709551616 := by
    have h1 : q * 2 ^ (64 - k) < 2 ^ k * 2 ^ (64 - k) := Nat.mul_lt_mul_of_pos_right hq (Nat.pow_pos (by omega))
    rw [← Nat.pow_add, show k + (64 - k) = 64 from by omega] at h1
    exact h1
  have e6 : 2 ^ (63 - k) < 18446744073709551616 := Nat.lt_of_lt_of_le e4 (show 2 ^ (64 - k) ≤ 2 ^ 64 from Nat.pow_le_pow_right (by omega) (by omega))
  rw [e2, bits_or_u64_nat _ _ e5 e6]
  congr 1
  rw [e3, ← Nat.two_pow_add_eq_or_of_lt e4 q, show 64 - k = (63 - k) + 1 from by omega, Nat.pow_succ]
  generalize 2 ^ (63 - k) = P
  grind
theorem quot_lt (k q : Nat) (hk : k ≤ 64) (hq : q < 2 ^ k) : q * 2 ^ (64 - k) < 18446744073709551616 := by
  have h1 : q * 2 ^ (64 - k) < 2 ^ k * 2 ^ (64 - k) := Nat.mul_lt_mul_of_pos_right hq (Nat.pow_pos (by omega))
  rw [← Nat.pow_add, show k + (64 - k) = 64 from by omega] at h1
  exact h1
theorem or_zero (a b : Nat) (ha : a < 18446744073709551616) (hb : b < 18446744073709551616) : (bits .or .u64 (a : Int) (b : Int) == 0) = decide (a = 0 ∧ b = 0) := by
  rw [bits_or_u64_nat _ _ ha hb, Bool.eq_iff_iff]
  simp [Nat.or_eq_zero_iff]

/-! ### What the document says -/
def divV (hi lo c : Int) : Int := if c = 0 then 0 else if c ≤ hi then 0 else (hi * 18446744073709551616 + lo) / c
def divE (hi lo c : Int) : Int := if c = 0 then 1 else if c ≤ hi then 3 else 0
def mulDivV (a b c : Int) : Int := if a * b = 0 then 0 else if c = 0 then 18446744073709551615 else if 18446744073709551615 < a * b / c then 18446744073709551615 else a * b / c
theorem divV_bd {hi lo c : Int} (h0 : 0 ≤ hi) (l0 : 0 ≤ lo) (l1 : lo ≤ 18446744073709551615) (c0 : 0 ≤ c) : 0 ≤ divV hi lo c ∧ divV hi lo c ≤ 18446744073709551615 := by
  unfold divV
  split
  · omega
  · split
    · omega
    · refine ⟨Int.ediv_nonneg (by omega) c0, ?_⟩
      have : (hi * 18446744073709551616 + lo) / c < 18446744073709551616 := by
        apply Int.ediv_lt_of_lt_mul (by omega)
        have : (hi + 1) * 18446744073709551616 ≤ c * 18446744073709551616 := Int.mul_le_mul_of_nonneg_right (by omega) (by omega)
        omega
      omega
theorem mulDivV_bd {a b c : Int} (a0 : 0 ≤ a) (b0 : 0 ≤ b) (c0 : 0 ≤ c) : 0 ≤ mulDivV a b c ∧ mulDivV a b c ≤ 18446744073709551615 := by
  unfold mulDivV
  have h := Int.mul_nonneg a0 b0
  have h2 := Int.ediv_nonneg h c0
  split
  · omega
  · split
    · omega
    · split
      · omega
      · exact ⟨h2, by omega⟩
theorem over_iff {p c : Int} (hp : 0 ≤ p) (hc : 0 < c) : 18446744073709551615 < p / c ↔ c ≤ p / 18446744073709551616 := by
  rw [show (18446744073709551615 : Int) < p / c ↔ 18446744073709551616 ≤ p / c from by omega, Int.le_ediv_iff_mul_le hc, Int.le_ediv_iff_mul_le (by omega), Int.mul_comm]
end Go.Proofs.Ytoekmdidonnamaa
