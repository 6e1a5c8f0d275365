/-
  How the numbers of package target order themselves; what comes out even. No program is spoken of. Conditions: those of each theorem.
-/
import Derived.Test.YtpnhkpbganmodaaTgt
set_option linter.unusedVariables false
namespace Go.Proofs.Ytpnhkpbganmodaa

theorem mulDivV_min {a b c : Int} (hc : 0 < c) : mulDivV a b c = if 18446744073709551615 < a * b / c then 18446744073709551615 else a * b / c := by
  unfold mulDivV
  by_cases h : a * b = 0
  · rw [if_pos h, h, Int.zero_ediv]; rfl
  · rw [if_neg h, if_neg (by omega)]
theorem mulDivV_le {a a' b b' c : Int} (hc : 0 < c) (b0 : 0 ≤ b) (ha0 : 0 ≤ a') (ha : a ≤ a') (hb : b ≤ b') : mulDivV a b c ≤ mulDivV a' b' c := by
  have h : a * b / c ≤ a' * b' / c := Int.ediv_le_ediv hc (Int.mul_le_mul ha hb b0 ha0)
  rw [mulDivV_min hc, mulDivV_min hc]
  split <;> split <;> omega
theorem mulDivV_even {a b c d : Int} (hc : 0 < c) (hd : d ≤ 18446744073709551615) (h : a * b = d * c) : mulDivV a b c = d := by
  rw [mulDivV_min hc, h, Int.mul_ediv_cancel _ (by omega), if_neg (by omega)]
theorem rateV_le {a a' g g' : Int} (a0 : 0 ≤ a') (g0 : 0 ≤ g) (ha : a ≤ a') (hg : g ≤ g') : rateV a g ≤ rateV a' g' := mulDivV_le (by decide) g0 a0 ha hg
theorem bdpV_le {a a' r r' g g' : Int} (a0 : 0 ≤ a') (r0 : 0 ≤ r) (g0 : 0 ≤ g) (ha : a ≤ a') (hr : r ≤ r') (hg : g ≤ g') : bdpV a r g ≤ bdpV a' r' g' :=
  rateV_le (mulDivV_num a0 (by omega) (by decide)).1 g0 (mulDivV_le (by decide) r0 a0 ha hr) hg
theorem satAdd_mono {a a' b b' : Int} (ha : a ≤ a') (hb : b ≤ b') : satAdd a b ≤ satAdd a' b' := by unfold satAdd; split <;> split <;> omega
theorem satAdd_ge {a b : Int} (ha : a ≤ 18446744073709551615) (hb : 0 ≤ b) : a ≤ satAdd a b := by unfold satAdd; split <;> omega
theorem overV_le {a a' r r' g t : Int} (a0 : 0 ≤ a') (r0 : 0 ≤ r) (g0 : 0 ≤ g) (ha : a ≤ a') (hr : r ≤ r') : overV a r g t ≤ overV a' r' g t :=
  satAdd_mono (bdpV_le a0 r0 g0 ha hr (Int.le_refl _)) (Int.le_refl _)
theorem winV_le {a a' r g t m : Int} (a0 : 0 ≤ a') (r0 : 0 ≤ r) (g0 : 0 ≤ g) (ha : a ≤ a') : winV a r g t m ≤ winV a' r g t m := by
  unfold winV
  have := overV_le (t := t) a0 r0 g0 ha (Int.le_refl r)
  split
  · exact Int.le_refl _
  · split <;> split <;> omega
theorem winV_low {a r g t m : Int} (m0 : 0 ≤ m) : satMul 4 m ≤ winV a r g t m := by
  unfold winV
  split
  · unfold satMul; split <;> split <;> omega
  · split <;> omega
theorem winV_over {a r g t m : Int} (hr : r ≠ 0) : overV a r g t ≤ winV a r g t m := by
  unfold winV
  rw [if_neg hr]
  split <;> omega
theorem overV_bdp {a r g t : Int} (a0 : 0 ≤ a) (r0 : 0 ≤ r) (g0 : 0 ≤ g) (t0 : 0 ≤ t) : bdpV a r g ≤ overV a r g t :=
  satAdd_ge (bdpV_num a0 r0 g0).2 (satMul_num (by decide) t0).1
theorem winV_zero (a g t m : Int) : winV a 0 g t m = satMul 10 m := rfl
theorem winV_or {a r g t m : Int} (hr : r ≠ 0) : winV a r g t m = satMul 4 m ∨ winV a r g t m = overV a r g t := by
  unfold winV
  rw [if_neg hr]
  split
  · exact .inl rfl
  · exact .inr rfl
theorem satMul_small {c m : Int} (h : c * m ≤ 18446744073709551615) : satMul c m = c * m := satMul_le h
theorem bdpV_even {k m g p q : Int} (hp : k * m = p) (hq : p * g = q) (p1 : p ≤ 18446744073709551615) (q1 : q ≤ 18446744073709551615) : bdpV (k * 1000) (m * 1000000) (g * 256) = q := by
  have e : mulDivV (k * 1000) (m * 1000000) 1000000000 = p := mulDivV_even (by decide) p1 (by subst hp; grind)
  unfold bdpV
  rw [e]
  exact mulDivV_even (by decide) q1 (by subst hq; grind)
theorem rateV_even {k g p : Int} (hp : k * g = p) (p1 : p ≤ 18446744073709551615) : rateV (k * 256) g = p := mulDivV_even (by decide) p1 (by subst hp; grind)
open Go.RowKit in
/-- All that 'more' asks, of two bandwidths. -/
theorem more_facts (lo hi r d g t m : Int) (hlo : lo ≤ hi) (l0 : 0 ≤ lo) (h1 : hi ≤ 18446744073709551615) (r0 : 0 ≤ r) (r1 : r ≤ 18446744073709551615) (d0 : 0 ≤ d) (g0 : 0 ≤ g) (g1 : g ≤ 18446744073709551615) (m0 : 0 ≤ m) :
    ∃ x xh far xf rl rh wl wh fl gg xg : Int, Hid (bdpV lo r g = x) ∧ Hid (bdpV hi r g = xh) ∧ Hid (satAdd r d = far) ∧ Hid (bdpV lo far g = xf) ∧ Hid (rateV lo g = rl) ∧ Hid (rateV hi g = rh) ∧ Hid (winV lo r g t m = wl) ∧ Hid (winV hi r g t m = wh) ∧
      Hid (satMul 4 m = fl) ∧ Hid (satAdd g d = gg) ∧ Hid (bdpV lo r gg = xg) ∧ Hid (Num far) ∧ Hid (Num gg) ∧ x ≤ xh ∧ x ≤ xf ∧ rl ≤ rh ∧ fl ≤ wl ∧ wl ≤ wh ∧ x ≤ xg := by
  have hf := satAdd_ge r1 d0
  have hg := satAdd_ge g1 d0
  have h0 : 0 ≤ hi := by omega
  refine ⟨_, _, _, _, _, _, _, _, _, _, _, Lib.hid rfl, Lib.hid rfl, Lib.hid rfl, Lib.hid rfl, Lib.hid rfl, Lib.hid rfl, Lib.hid rfl, Lib.hid rfl, Lib.hid rfl, Lib.hid rfl, Lib.hid rfl, Lib.hid (satAdd_num r0 d0), Lib.hid (satAdd_num g0 d0), ?_, ?_, ?_, ?_, ?_, ?_⟩
  · exact bdpV_le h0 r0 g0 hlo (Int.le_refl _) (Int.le_refl _)
  · exact bdpV_le l0 r0 g0 (Int.le_refl _) hf (Int.le_refl _)
  · exact rateV_le h0 g0 hlo (Int.le_refl _)
  · exact winV_low m0
  · exact winV_le h0 r0 g0 hlo
  · exact bdpV_le l0 r0 g0 (Int.le_refl _) (Int.le_refl _) hg
end Go.Proofs.Ytpnhkpbganmodaa
