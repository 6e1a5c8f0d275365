/-
  How the numbers of package delay order themselves: slower takes no less, more takes no less, parts take as long as the whole but for what is cut. No program is spoken of. Conditions: those of each theorem.
-/
import Derived.Test.YthjacbgknnpmiaaDel
set_option linter.unusedVariables false
namespace Go.Proofs.Ythjacbgknnpmiaa
open Go.RowKit

/-- A call that turns nothing, for a region walked quietly. -/
theorem quiet_eq {P : Program} {f : FuncId} {args : Array Value} {w : World} {n : Nat} {v : Value}
    (h : Calls P f args (w.drewN n) fun e w' => e = .returned v ∧ w.drewN n = w') : Calls P f args (w.drewN n) fun e w'' => e = .returned v ∧ ∃ m, w'' = w.drewN m :=
  h.mono fun _ _ ⟨he, hm⟩ => ⟨he, n, hm.symm⟩

theorem lo2_le (a b : Int) : lo2 a b ≤ a ∧ lo2 a b ≤ b := by unfold lo2; split <;> omega
theorem lo2_comm (a b : Int) : lo2 a b = lo2 b a := by unfold lo2; split <;> split <;> omega
theorem lo2_or (a b : Int) : lo2 a b = a ∨ lo2 a b = b := by unfold lo2; split <;> simp
theorem lo2_mono {a b c : Int} (h : a ≤ b) : lo2 a c ≤ lo2 b c := by unfold lo2; split <;> split <;> omega

/-- Rounded down: s bytes at r, cut nowhere. -/
def quoV (s r : Int) : Int := s * 1000000000 / r
theorem quoV_nn {s r : Int} (h : 0 ≤ s) (hr : 0 < r) : 0 ≤ quoV s r := Int.ediv_nonneg (by omega) (by omega)
theorem quoV_more {s t r : Int} (hr : 0 < r) (h : s ≤ t) : quoV s r ≤ quoV t r := Int.ediv_le_ediv hr (by omega)
theorem quoV_slow {s r t : Int} (h : 0 ≤ s) (hr : 0 < r) (hrt : r ≤ t) : quoV s t ≤ quoV s r := by
  unfold quoV
  rw [Int.le_ediv_iff_mul_le hr]
  have h1 : 0 ≤ s * 1000000000 / t := Int.ediv_nonneg (by omega) (by omega)
  have h2 := Int.mul_le_mul_of_nonneg_left hrt h1
  have h3 := Int.ediv_mul_le (s * 1000000000) (b := t) (by omega)
  omega
theorem quoV_sum {s t r : Int} (hr : 0 < r) : quoV s r + quoV t r ≤ quoV (s + t) r ∧ quoV (s + t) r ≤ quoV s r + quoV t r + 1 := by
  unfold quoV
  have e1 := Int.mul_ediv_add_emod (s * 1000000000) r
  have e2 := Int.mul_ediv_add_emod (t * 1000000000) r
  have l1 := Int.emod_nonneg (s * 1000000000) (show r ≠ 0 by omega)
  have l2 := Int.emod_nonneg (t * 1000000000) (show r ≠ 0 by omega)
  have m1 := Int.emod_lt_of_pos (s * 1000000000) hr
  have m2 := Int.emod_lt_of_pos (t * 1000000000) hr
  rw [Int.add_mul]
  generalize s * 1000000000 / r = u at *
  generalize t * 1000000000 / r = v at *
  constructor
  · rw [Int.le_ediv_iff_mul_le hr, show (u + v) * r = r * u + r * v from by grind]
    omega
  · have h : (s * 1000000000 + t * 1000000000) / r < u + v + 2 := by
      apply Int.ediv_lt_of_lt_mul hr
      rw [show (u + v + 2) * r = r * u + r * v + 2 * r from by grind]
      omega
    omega
theorem quoV_zero (r : Int) : quoV 0 r = 0 := by unfold quoV; rw [Int.zero_mul, Int.zero_ediv]
/-- Few bytes at no slow rate take less than a second. -/
theorem quoV_small {s r : Int} (s1 : s ≤ 600000) (hr : 1000000 ≤ r) : quoV s r ≤ 600000000 := by
  have h : quoV s r < 600000001 := by
    unfold quoV
    apply Int.ediv_lt_of_lt_mul (by omega)
    omega
  omega

theorem delV_quo {s r : Int} (h : 0 ≤ s) (hr : 0 < r) (hu : r ≠ 18446744073709551615) : delV s r = lo2 (quoV s r) 1000000000 := by
  by_cases h1 : s < 1
  · have : s = 0 := by omega
    subst this
    rw [delV_none (by decide), quoV_zero]; rfl
  · rw [delV_at (by omega) hu]
    unfold mulDivV quoV
    have hp : s * 1000000000 ≠ 0 := by omega
    rw [if_neg hp, if_neg (show ¬ r = 0 by omega)]
    split
    · unfold lo2; rw [if_neg (by decide), if_neg (by omega)]
    · rfl
theorem delV_nil {s : Int} (h : 1 ≤ s) : delV s 0 = 1000000000 := by
  rw [delV_at h (by decide)]
  unfold mulDivV
  rw [if_neg (by omega), if_pos rfl]; rfl
theorem delV_small {s r : Int} (s0 : 0 ≤ s) (s1 : s ≤ 600000) (r0 : 1000000 ≤ r) (r1 : r ≤ 2000000000) : delV s r = quoV s r := by
  have := quoV_small s1 r0
  rw [delV_quo s0 (by omega) (by omega)]
  unfold lo2; rw [if_pos (by omega)]
/-- More takes no less. -/
theorem delV_more {s t r : Int} (h : s ≤ t) (hr : 0 ≤ r) : delV s r ≤ delV t r := by
  have hb := delV_bd t hr
  by_cases hs : s < 1
  · rw [delV_none hs]; omega
  · by_cases hu : r = 18446744073709551615
    · subst hu; rw [delV_un, delV_un]; omega
    · by_cases h0 : r = 0
      · subst h0; rw [delV_nil (by omega), delV_nil (by omega)]; omega
      · rw [delV_quo (by omega) (by omega) hu, delV_quo (by omega) (by omega) hu]
        exact lo2_mono (quoV_more (by omega) h)
/-- Slower takes no less. -/
theorem delV_slow (s : Int) {r t : Int} (hr : 0 ≤ r) (h : r ≤ t) (ht : t ≤ 18446744073709551615) : delV s t ≤ delV s r := by
  have hb := delV_bd s hr
  by_cases hs : s < 1
  · rw [delV_none hs]; omega
  · by_cases hu : t = 18446744073709551615
    · subst hu; rw [delV_un]; omega
    · by_cases h0 : r = 0
      · subst h0; rw [delV_nil (by omega)]; exact (delV_bd s (show 0 ≤ t by omega)).2
      · rw [delV_quo (by omega) (by omega) hu, delV_quo (by omega) (by omega) (by omega)]
        exact lo2_mono (quoV_slow (by omega) (by omega) h)
/-- Two take as long as both, but for what is cut. -/
theorem delV_both {a b r : Int} (ha : 0 ≤ a) (hb : 0 ≤ b) (hr : 0 ≤ r) (h : delV (a + b) r ≠ 1000000000) : delV a r + delV b r ≤ delV (a + b) r ∧ delV (a + b) r ≤ delV a r + delV b r + 1 := by
  by_cases hu : r = 18446744073709551615
  · subst hu; rw [delV_un, delV_un, delV_un]; omega
  · by_cases h0 : r = 0
    · subst h0
      by_cases hz : 1 ≤ a + b
      · exact absurd (delV_nil hz) h
      · rw [delV_none (by omega), delV_none (by omega), delV_none (by omega)]; omega
    · have h1 := quoV_sum (s := a) (t := b) (show 0 < r by omega)
      have h2 := quoV_nn ha (show 0 < r by omega)
      have h3 := quoV_nn hb (show 0 < r by omega)
      rw [delV_quo (s := a + b) (by omega) (by omega) hu] at h ⊢
      rw [delV_quo ha (by omega) hu, delV_quo hb (by omega) hu]
      unfold lo2 at *
      split <;> split <;> split <;> omega
theorem delV_exact {n r : Int} (n0 : 1 ≤ n) (h : n ≤ r) (hr : r < 18446744073709551615) : delV n r = quoV n r := by
  rw [delV_quo (by omega) (by omega) (by omega)]
  have : quoV n r < 1000000001 := by
    unfold quoV
    apply Int.ediv_lt_of_lt_mul (by omega)
    omega
  unfold lo2; rw [if_pos (by omega)]
theorem delV_same {n : Int} (n0 : 1 ≤ n) (hr : n < 18446744073709551615) : delV n n = 1000000000 := by
  rw [delV_exact n0 (Int.le_refl _) hr]
  unfold quoV
  exact Int.mul_ediv_cancel_left _ (by omega)
theorem delV_one {n : Int} (n0 : 1 ≤ n) : delV n 1 = 1000000000 := by
  rw [delV_quo (by omega) (by decide) (by decide)]
  unfold quoV lo2
  rw [Int.ediv_one]
  split <;> omega

theorem lesV_comm (a b : Int) : lesV a b = lesV b a := lo2_comm _ _
/-- All that the law of two rates asks. -/
theorem rates_facts (a b s X Y : Int) (hX : unR a = X) (hY : unR b = Y) (a0 : 0 ≤ a) (a1 : a ≤ 18446744073709551615) (b0 : 0 ≤ b) (b1 : b ≤ 18446744073709551615) :
    ∃ r d dx dy : Int, Hid (lesV a b = r) ∧ Hid (lesV b a = r) ∧ Hid (delV s r = d) ∧ Hid (delV s X = dx) ∧ Hid (delV s Y = dy) ∧ dx ≤ d ∧ dy ≤ d ∧ r ≤ X ∧ r ≤ Y ∧ 1 ≤ r ∧ r ≤ 18446744073709551615 ∧ (r = X ∨ r = Y ∧ r ≠ X) := by
  subst hX hY
  have hb := lesV_bd a0 a1 b0 b1
  have hx := unR_bd a0 a1
  have hy := unR_bd b0 b1
  have hl : lesV a b ≤ unR a ∧ lesV a b ≤ unR b := lo2_le _ _
  have ho : lesV a b = unR a ∨ lesV a b = unR b := lo2_or _ _
  refine ⟨_, _, _, _, Lib.hid rfl, Lib.hid (lesV_comm b a), Lib.hid rfl, Lib.hid rfl, Lib.hid rfl, delV_slow s (by omega) hl.1 hx.2, delV_slow s (by omega) hl.2 hy.2, hl.1, hl.2, hb.1, hb.2, ?_⟩
  by_cases h : lesV a b = unR a
  · exact .inl h
  · exact .inr ⟨ho.resolve_left h, h⟩
theorem satAdd_up {a b : Int} (ha : a ≤ 18446744073709551615) (hb : 0 ≤ b) : a ≤ satAdd a b ∧ satAdd a b ≤ 18446744073709551615 := by unfold satAdd; split <;> omega
/-- All that the law of two sizes asks. -/
theorem sizes_facts (A B r m : Int) (hA : 0 ≤ A) (hB : 0 ≤ B) (r0 : 0 ≤ r) (r1 : r ≤ 18446744073709551615) (m0 : 0 ≤ m) :
    ∃ x y z F v : Int, Hid (delV A r = x) ∧ Hid (delV B r = y) ∧ Hid (delV (A + B) r = z) ∧ Hid (satAdd r m = F) ∧ Hid (delV A F = v) ∧ Hid (delV 0 r = 0) ∧ Hid (delV (-A) r = 0) ∧ Hid (delV A 18446744073709551615 = 0) ∧ Hid (Num F) ∧
      0 ≤ x ∧ x ≤ 1000000000 ∧ 0 ≤ y ∧ y ≤ 1000000000 ∧ x ≤ z ∧ y ≤ z ∧ v ≤ x ∧ (z = 1000000000 ∨ z ≠ 1000000000 ∧ x + y ≤ z ∧ z ≤ x + y + 1) := by
  have hx := delV_bd A r0
  have hy := delV_bd B r0
  have hf := satAdd_up r1 m0
  refine ⟨_, _, _, _, _, Lib.hid rfl, Lib.hid rfl, Lib.hid rfl, Lib.hid rfl, Lib.hid rfl, Lib.hid (delV_none (by decide) r), Lib.hid (delV_none (by omega) r), Lib.hid (delV_un A), Lib.hid ⟨by omega, hf.2⟩, hx.1, hx.2, hy.1, hy.2, delV_more (by omega) r0, delV_more (by omega) r0, delV_slow A r0 hf.1 hf.2, ?_⟩
  by_cases h : delV (A + B) r = 1000000000
  · exact .inl h
  · exact .inr ⟨h, delV_both hA hB r0 h⟩
/-- What is kept over parts: k of them, W bytes, that took S. -/
def Parts (r : Int) (k : Nat) (W S : Int) : Prop := 0 ≤ W ∧ W ≤ 30000 * k ∧ 0 ≤ S ∧ S ≤ quoV W r ∧ quoV W r ≤ S + k
theorem Parts.none (r : Int) : Parts r 0 0 0 := ⟨by omega, by omega, by omega, by rw [quoV_zero]; omega, by rw [quoV_zero]; omega⟩
theorem Parts.more {r : Int} {k : Nat} {W S p : Int} (h : Parts r k W S) (hr : 0 < r) (p0 : 0 ≤ p) (p1 : p ≤ 29999) : Parts r (k + 1) (W + p) (S + quoV p r) := by
  obtain ⟨h1, h2, h3, h4, h5⟩ := h
  have := quoV_sum (s := W) (t := p) hr
  have := quoV_nn p0 hr
  exact ⟨by omega, by omega, by omega, by omega, by omega⟩
theorem Parts.most {r : Int} {k : Nat} {W S : Int} (h : Parts r k W S) (hk : k ≤ 20) (r0 : 1000000 ≤ r) : W ≤ 600000 ∧ S ≤ 600000000 := by
  obtain ⟨h1, h2, h3, h4, h5⟩ := h
  have := quoV_small (s := W) (r := r) (by omega) r0
  omega
/-- A number held below 30000. -/
theorem part_num (a : Int) : ∃ p : Int, (IntKind.u64.wrap a).tmod 30000 = p ∧ wrap64 p = p ∧ 0 ≤ p ∧ p ≤ 29999 := by
  have h0 : 0 ≤ IntKind.u64.wrap a := by rw [IntKind.wrap_u64]; omega
  refine ⟨_, rfl, ?_, ?_, ?_⟩
  all_goals rw [Int.tmod_eq_emod_of_nonneg h0]
  · unfold wrap64; omega
  all_goals omega
/-- A number held below 2 to the 30th. -/
theorem small_num (a : Int) : ∃ A : Int, (IntKind.u64.wrap a).tmod 1073741824 = A ∧ wrap64 A = A ∧ 0 ≤ A ∧ A ≤ 1073741823 := by
  have h0 : 0 ≤ IntKind.u64.wrap a := by rw [IntKind.wrap_u64]; omega
  refine ⟨_, rfl, ?_, ?_, ?_⟩
  all_goals rw [Int.tmod_eq_emod_of_nonneg h0]
  · unfold wrap64; omega
  all_goals omega
end Go.Proofs.Ythjacbgknnpmiaa
