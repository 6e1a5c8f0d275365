/-
  What samples at a steady pace do to a policer: with many losses, with few, with none. No program is spoken of. Conditions: those of each theorem.
-/
import Derived.Test.YtagdhafggebkpaaPolSt
set_option linter.unusedVariables false
set_option linter.unusedSimpArgs false
namespace Go.Proofs.Ytagdhafggebkpaa
open Go.RowKit

/-- The i-th sample of a steady pace. -/
def smpStd (i bw lost : Int) : Spl := ⟨i * 1000000000, i * bw, 0, 0, 0, bw, lost, 0, false⟩
/-- A policer that has seen k of them. -/
def stdPol (bw lost : Int) : Nat → Pol
  | 0 => newPol
  | k + 1 => updPol (stdPol bw lost k) true (smpStd k bw lost)

/-! ### none lost -/
theorem std_none (bw : Int) : ∀ k, (stdPol bw 0 k).u = false ∧ (stdPol bw 0 k).m = false
  | 0 => ⟨rfl, rfl⟩
  | k + 1 => by
    obtain ⟨h1, h2⟩ := std_none bw k
    have : stdPol bw 0 (k + 1) = losPol (stdPol bw 0 k) (smpStd k bw 0) := by
      show updPol _ _ _ = _
      unfold updPol
      rw [h1, if_neg (by decide), h2, if_pos rfl]
      exact if_neg (by show ¬ (0 : Int) < 0; decide)
    rw [this]
    exact ⟨h1, h2⟩

/-! ### few lost -/
/-- Behind k samples: it is not in use, has no bandwidth; where it samples, since r + 1 samples. -/
structure Few (bw f : Int) (k : Nat) (x : Pol) : Prop where
  u : x.u = false
  b : x.b = 0
  o : x.o = k * f
  r0 : 0 ≤ x.r
  r1 : x.r ≤ 16
  s : x.m = true → x.n = (k - 1 - x.r) * 1000000000 ∧ x.d = (k - 1 - x.r) * bw ∧ x.l = (k - x.r) * f
theorem few_new (bw f : Int) : Few bw f 0 newPol := ⟨rfl, rfl, by show (0 : Int) = ((0 : Nat) : Int) * f; simp, by decide, by decide, fun h => by cases h⟩
theorem prod_bd {k a c d : Int} (h0 : 0 ≤ k) (h1 : k ≤ c) (a0 : 0 ≤ a) (a1 : a ≤ d) : 0 ≤ k * a ∧ k * a ≤ c * d :=
  ⟨Int.mul_nonneg h0 a0, Int.le_trans (Int.mul_le_mul_of_nonneg_right h1 a0) (Int.mul_le_mul_of_nonneg_left a1 (by omega))⟩
theorem mea_few {bw f r : Int} (hr : 4 ≤ r) (hr1 : r ≤ 16) (f0 : 0 ≤ f) (hf : f < bw / 10) (hb : 1000 ≤ bw) (hb1 : bw ≤ 2000000) : r * f < mulDivV (r * bw) 50 256 := by
  have hp := prod_bd (k := r) (a := bw) (c := 16) (d := 2000000) (by omega) (by omega) (by omega) hb1
  have hp1 : 4 * bw ≤ r * bw := Int.mul_le_mul_of_nonneg_right hr (by omega)
  have h10 : r * (10 * f + 10) ≤ r * bw := Int.mul_le_mul_of_nonneg_left (by omega) (by omega)
  have e : r * (10 * f + 10) = 10 * (r * f) + 10 * r := by grind
  rw [e] at h10
  generalize r * f = F at *
  generalize r * bw = W at *
  unfold mulDivV
  rw [if_neg (by omega), if_neg (by omega), if_neg (by omega)]
  omega
theorem Few.next {bw f : Int} {k : Nat} {x : Pol} (h : Few bw f k x) (f0 : 0 ≤ f) (hf : f < bw / 10) (hb : 1000 ≤ bw) (hb1 : bw ≤ 2000000) (hk : k ≤ 100) : Few bw f (k + 1) (updPol x true (smpStd k bw f)) := by
  obtain ⟨hu, hbb, ho, hr0, hr1, hs⟩ := h
  have hkf := prod_bd (k := k) (a := f) (c := 100) (d := 200000) (by omega) (by omega) f0 (by omega)
  have hO : satAdd x.o f = ((k + 1 : Nat) : Int) * f := by
    rw [ho, satAdd_le (by omega)]
    push_cast
    grind
  have hL : losPol x (smpStd k bw f) = ⟨x.u, x.m, x.n, x.d, x.l, x.b, x.r, ((k + 1 : Nat) : Int) * f⟩ := by show (⟨_, _, _, _, _, _, _, satAdd x.o f⟩ : Pol) = _; rw [hO]
  unfold updPol
  rw [hu, if_neg (by decide), hL]
  split
  · rename_i hm
    split
    · refine ⟨hu, hbb, rfl, Int.le_refl 0, by show (0 : Int) ≤ 16; decide, fun _ => ?_⟩
      refine ⟨?_, ?_, ?_⟩
      · show (k : Int) * 1000000000 = (((k + 1 : Nat) : Int) - 1 - 0) * 1000000000
        push_cast; omega
      · show (k : Int) * bw = (((k + 1 : Nat) : Int) - 1 - 0) * bw
        rw [show (((k + 1 : Nat) : Int) - 1 - 0) = (k : Int) by push_cast; omega]
      · show ((k + 1 : Nat) : Int) * f = (((k + 1 : Nat) : Int) - 0) * f
        rw [Int.sub_zero]
    · exact ⟨hu, hbb, rfl, hr0, hr1, fun e => by rw [show (⟨x.u, x.m, x.n, x.d, x.l, x.b, x.r, ((k + 1 : Nat) : Int) * f⟩ : Pol).m = x.m from rfl, hm] at e; cases e⟩
  · rename_i hm
    have hm : x.m = true := by simpa using hm
    obtain ⟨hn, hd, hl⟩ := hs hm
    rw [if_neg (by show ¬ false = true; decide)]
    have hR : rndPol ⟨x.u, x.m, x.n, x.d, x.l, x.b, x.r, ((k + 1 : Nat) : Int) * f⟩ true = ⟨x.u, x.m, x.n, x.d, x.l, x.b, x.r + 1, ((k + 1 : Nat) : Int) * f⟩ := rfl
    rw [hR]
    have hN : Few bw f (k + 1) ⟨x.u, x.m, x.n, x.d, x.l, x.b, x.r + 1, ((k + 1 : Nat) : Int) * f⟩ ∨ 16 < x.r + 1 := by
      by_cases h16 : 16 < x.r + 1
      · exact .inr h16
      · refine .inl ⟨hu, hbb, rfl, by show 0 ≤ x.r + 1; omega, by show x.r + 1 ≤ 16; omega, fun _ => ⟨?_, ?_, ?_⟩⟩
        · show x.n = (((k + 1 : Nat) : Int) - 1 - (x.r + 1)) * 1000000000
          rw [hn]; push_cast; omega
        · show x.d = (((k + 1 : Nat) : Int) - 1 - (x.r + 1)) * bw
          rw [hd, show (((k + 1 : Nat) : Int) - 1 - (x.r + 1)) = (k : Int) - 1 - x.r by push_cast; omega]
        · show x.l = (((k + 1 : Nat) : Int) - (x.r + 1)) * f
          rw [hl, show (((k + 1 : Nat) : Int) - (x.r + 1)) = (k : Int) - x.r by push_cast; omega]
    unfold samPol
    split
    · exact ⟨hu, rfl, rfl, Int.le_refl 0, by show (0 : Int) ≤ 16; decide, fun e => by cases e⟩
    · rename_i h16
      have h16' : ¬ 16 < x.r + 1 := h16
      have hN := hN.resolve_right h16'
      split
      · rename_i h4
        have h4' : 4 ≤ x.r + 1 := h4.1
        have hK : meaK ⟨x.u, x.m, x.n, x.d, x.l, x.b, x.r + 1, ((k + 1 : Nat) : Int) * f⟩ (smpStd k bw f) = false := by
          have eD : satSub (k * bw) x.d = (x.r + 1) * bw := by
            have : (k : Int) * bw = x.d + (x.r + 1) * bw := by rw [hd]; grind
            have h0 : 0 ≤ (x.r + 1) * bw := Int.mul_nonneg (by omega) (by omega)
            rw [satSub_ge (by omega)]; omega
          have eL : satSub (((k + 1 : Nat) : Int) * f) x.l = (x.r + 1) * f := by
            have : ((k + 1 : Nat) : Int) * f = x.l + (x.r + 1) * f := by rw [hl]; push_cast; grind
            have h0 : 0 ≤ (x.r + 1) * f := Int.mul_nonneg (by omega) f0
            rw [satSub_ge (by omega)]; omega
          have := mea_few h4' (by omega) f0 hf hb hb1
          show (!(satSub (k * bw) x.d == 0) && _ && !(decide (satSub (((k + 1 : Nat) : Int) * f) x.l < mulDivV (satSub (k * bw) x.d) 50 256))) = false
          rw [eD, eL, decide_eq_true this]
          simp
        unfold endPol
        rw [hK, if_neg (by decide)]
        exact hN
      · exact hN
theorem std_few {bw f : Int} (f0 : 0 ≤ f) (hf : f < bw / 10) (hb : 1000 ≤ bw) (hb1 : bw ≤ 2000000) : ∀ k, k ≤ 100 → Few bw f k (stdPol bw f k)
  | 0, _ => few_new bw f
  | k + 1, hk => (std_few f0 hf hb hb1 k (by omega)).next f0 hf hb hb1 (by omega)

/-! ### many lost -/
def manyAt (bw h : Int) (k : Nat) : Pol :=
  if k = 0 then newPol
  else if k ≤ 4 then ⟨false, true, 0, 0, h, 0, (k : Int) - 1, k * h⟩
  else if k ≤ 8 then ⟨false, true, 4000000000, 4 * bw, 5 * h, bw, (k : Int) - 5, k * h⟩
  else if k ≤ 56 then ⟨true, true, 4000000000, 4 * bw, 5 * h, bw, (k : Int) - 9, k * h⟩
  else if k = 57 then ⟨false, false, 4000000000, 4 * bw, 5 * h, 0, 0, k * h⟩
  else ⟨false, true, 57000000000, 57 * bw, 58 * h, 0, (k : Int) - 58, k * h⟩

section
variable {bw h : Int}
theorem add_step {k : Nat} (h0 : 0 ≤ h) (h1 : h ≤ 1000000) (hk : k ≤ 100) : satAdd (k * h) h = ((k + 1 : Nat) : Int) * h := by
  have hkf := prod_bd (k := k) (a := h) (c := 100) (d := 1000000) (by omega) (by omega) h0 h1
  rw [satAdd_le (by omega)]
  push_cast
  grind
/-- A round of one that samples, without an end. -/
theorem upd_wait {n d l b r o : Int} {s : Spl} (hl : s.l = false) (hr : r + 1 < 4) : updPol ⟨false, true, n, d, l, b, r, o⟩ true s = ⟨false, true, n, d, l, b, r + 1, satAdd o s.o⟩ := by
  have e : rndPol (losPol ⟨false, true, n, d, l, b, r, o⟩ s) true = ⟨false, true, n, d, l, b, r + 1, satAdd o s.o⟩ := rfl
  unfold updPol
  rw [if_neg (show ¬ false = true by decide), if_neg (show ¬ true = false by decide), hl, if_neg (by decide), e]
  unfold samPol
  rw [if_neg (by show ¬ 16 < r + 1; omega), if_neg (by intro h; have : 4 ≤ r + 1 := h.1; omega)]
/-- .. with one. -/
theorem upd_end {n d l b r o : Int} {s : Spl} (hl : s.l = false) (hr : 4 ≤ r + 1) (hr1 : r + 1 ≤ 16) (ho : 0 < s.o) : updPol ⟨false, true, n, d, l, b, r, o⟩ true s = endPol ⟨false, true, n, d, l, b, r + 1, satAdd o s.o⟩ s := by
  have e : rndPol (losPol ⟨false, true, n, d, l, b, r, o⟩ s) true = ⟨false, true, n, d, l, b, r + 1, satAdd o s.o⟩ := rfl
  unfold updPol
  rw [if_neg (show ¬ false = true by decide), if_neg (show ¬ true = false by decide), hl, if_neg (by decide), e]
  unfold samPol
  rw [if_neg (by show ¬ 16 < r + 1; omega), if_pos (show 4 ≤ r + 1 ∧ 0 < s.o from ⟨hr, ho⟩)]
theorem upd_begin {n d l b r o : Int} {st : Bool} {s : Spl} (ho : 0 < s.o) : updPol ⟨false, false, n, d, l, b, r, o⟩ st s = ⟨false, true, s.n, s.d, satAdd o s.o, b, 0, satAdd o s.o⟩ := by
  unfold updPol
  rw [if_neg (show ¬ false = true by decide), if_pos rfl, if_pos ho]
  rfl
theorem upd_use {m : Bool} {n d l b r o : Int} {s : Spl} (hr : r + 1 ≠ 48) : updPol ⟨true, m, n, d, l, b, r, o⟩ true s = ⟨true, m, n, d, l, b, r + 1, satAdd o s.o⟩ := by
  unfold updPol
  rw [if_pos rfl]
  unfold outPol
  exact if_neg hr
theorem upd_out {m : Bool} {n d l b r o : Int} {s : Spl} (hr : r + 1 = 48) : updPol ⟨true, m, n, d, l, b, r, o⟩ true s = ⟨false, false, n, d, l, 0, 0, satAdd o s.o⟩ := by
  unfold updPol
  rw [if_pos rfl]
  unfold outPol
  exact if_pos hr
/-- Four rounds behind its beginning a sample ends. -/
theorem mea_many {x : Pol} {s : Spl} (hb : 1000 ≤ bw) (hb1 : bw ≤ 2000000) (hh : h = bw / 2) (hD : satSub s.d x.d = 4 * bw) (hT : satSub s.n x.n = 4000000000) (hL : satSub x.o x.l = 4 * h) : meaK x s = true ∧ meaV x s = bw := by
  have e1 : mulDivV (4 * bw) 50 256 ≤ 4 * h := by
    unfold mulDivV
    rw [if_neg (by omega), if_neg (by omega), if_neg (by omega)]
    omega
  have e2 : mulDivV (4 * bw) 1000000000 4000000000 = bw := by
    unfold mulDivV
    rw [if_neg (by omega), if_neg (by omega), if_neg (by omega)]
    omega
  refine ⟨?_, ?_⟩
  · unfold meaK
    rw [hD, hT, hL]
    have q1 : (4 * bw == 0) = false := by simp; omega
    have q2 : decide (4 * h < mulDivV (4 * bw) 50 256) = false := by simp; omega
    rw [q1, q2]
    rfl
  · unfold meaV
    rw [hD, hT, e2]
theorem near_self (hb : 1000 ≤ bw) : nearPol bw bw = true := by
  unfold nearPol gapPol
  rw [if_neg (by omega)]
  have q1 : (0 : Int) < bw := by omega
  have q2 : bw - bw ≤ bw / 8 := by omega
  rw [decide_eq_true q1, decide_eq_true q2]
  rfl
theorem near_zero (v : Int) : nearPol 0 v = false := rfl
theorem half_self : halfPol bw bw = bw := by unfold halfPol; omega
theorem many_next (hb : 1000 ≤ bw) (hb1 : bw ≤ 2000000) (hh : h = bw / 2) {k : Nat} (hk : k < 59) : updPol (manyAt bw h k) true (smpStd k bw h) = manyAt bw h (k + 1) := by
  have h0 : 0 < h := by omega
  have hadd := add_step (h := h) (k := k) (by omega) (by omega) (by omega)
  have so : (smpStd k bw h).o = h := rfl
  have sl : (smpStd k bw h).l = false := rfl
  have sn : (smpStd k bw h).n = k * 1000000000 := rfl
  have sd : (smpStd k bw h).d = k * bw := rfl
  by_cases k0 : k = 0
  · subst k0
    have e : updPol newPol true (smpStd (0 : Nat) bw h) = _ := upd_begin (by rw [so]; exact h0)
    show updPol newPol true _ = _
    rw [e, so, sn, sd, show satAdd 0 h = h by rw [satAdd_le (by omega)]; omega]
    show (⟨false, true, ((0 : Nat) : Int) * 1000000000, ((0 : Nat) : Int) * bw, h, 0, 0, h⟩ : Pol) = ⟨false, true, 0, 0, h, 0, ((0 + 1 : Nat) : Int) - 1, ((0 + 1 : Nat) : Int) * h⟩
    simp
  · by_cases k4 : k < 4
    · have e1 : manyAt bw h k = ⟨false, true, 0, 0, h, 0, (k : Int) - 1, k * h⟩ := by unfold manyAt; rw [if_neg k0, if_pos (by omega)]
      have e2 : manyAt bw h (k + 1) = ⟨false, true, 0, 0, h, 0, ((k + 1 : Nat) : Int) - 1, ((k + 1 : Nat) : Int) * h⟩ := by unfold manyAt; rw [if_neg (by omega), if_pos (by omega)]
      rw [e1, e2, upd_wait sl (by omega), so, hadd]
      have : (k : Int) - 1 + 1 = ((k + 1 : Nat) : Int) - 1 := by push_cast; omega
      rw [this]
    · by_cases k5 : k = 4
      · subst k5
        show updPol ⟨false, true, 0, 0, h, 0, 3, 4 * h⟩ true _ = ⟨false, true, 4000000000, 4 * bw, 5 * h, bw, 0, 5 * h⟩
        rw [upd_end sl (by decide) (by decide) (by rw [so]; exact h0), so, show satAdd (4 * h) h = 5 * h by rw [satAdd_le (by omega)]; omega]
        obtain ⟨q1, q2⟩ := mea_many (x := ⟨false, true, 0, 0, h, 0, 3 + 1, 5 * h⟩) (s := smpStd (4 : Nat) bw h) hb hb1 hh (by show satSub (4 * bw) 0 = _; rw [satSub_ge (by omega)]; omega) (by rfl) (by show satSub (5 * h) h = _; rw [satSub_ge (by omega)]; omega)
        unfold endPol
        rw [if_pos q1, q2, near_zero, if_neg (by decide)]
        rfl
      · by_cases k8 : k < 8
        · have e1 : manyAt bw h k = ⟨false, true, 4000000000, 4 * bw, 5 * h, bw, (k : Int) - 5, k * h⟩ := by unfold manyAt; rw [if_neg k0, if_neg (by omega), if_pos (by omega)]
          have e2 : manyAt bw h (k + 1) = ⟨false, true, 4000000000, 4 * bw, 5 * h, bw, ((k + 1 : Nat) : Int) - 5, ((k + 1 : Nat) : Int) * h⟩ := by unfold manyAt; rw [if_neg (by omega), if_neg (by omega), if_pos (by omega)]
          rw [e1, e2, upd_wait sl (by omega), so, hadd]
          have : (k : Int) - 5 + 1 = ((k + 1 : Nat) : Int) - 5 := by push_cast; omega
          rw [this]
        · by_cases k9 : k = 8
          · subst k9
            show updPol ⟨false, true, 4000000000, 4 * bw, 5 * h, bw, 3, 8 * h⟩ true _ = ⟨true, true, 4000000000, 4 * bw, 5 * h, bw, 0, 9 * h⟩
            rw [upd_end sl (by decide) (by decide) (by rw [so]; exact h0), so, show satAdd (8 * h) h = 9 * h by rw [satAdd_le (by omega)]; omega]
            obtain ⟨q1, q2⟩ := mea_many (x := ⟨false, true, 4000000000, 4 * bw, 5 * h, bw, 3 + 1, 9 * h⟩) (s := smpStd (8 : Nat) bw h) hb hb1 hh (by show satSub (8 * bw) (4 * bw) = _; rw [satSub_ge (by omega)]; omega) (by rfl) (by show satSub (9 * h) (5 * h) = _; rw [satSub_ge (by omega)]; omega)
            unfold endPol
            rw [if_pos q1, q2, near_self hb, if_pos rfl, half_self]
          · by_cases k56 : k < 56
            · have e1 : manyAt bw h k = ⟨true, true, 4000000000, 4 * bw, 5 * h, bw, (k : Int) - 9, k * h⟩ := by unfold manyAt; rw [if_neg k0, if_neg (by omega), if_neg (by omega), if_pos (by omega)]
              have e2 : manyAt bw h (k + 1) = ⟨true, true, 4000000000, 4 * bw, 5 * h, bw, ((k + 1 : Nat) : Int) - 9, ((k + 1 : Nat) : Int) * h⟩ := by unfold manyAt; rw [if_neg (by omega), if_neg (by omega), if_neg (by omega), if_pos (by omega)]
              rw [e1, e2, upd_use (by omega), so, hadd]
              have : (k : Int) - 9 + 1 = ((k + 1 : Nat) : Int) - 9 := by push_cast; omega
              rw [this]
            · by_cases k57 : k = 56
              · subst k57
                show updPol ⟨true, true, 4000000000, 4 * bw, 5 * h, bw, 47, 56 * h⟩ true _ = ⟨false, false, 4000000000, 4 * bw, 5 * h, 0, 0, 57 * h⟩
                rw [upd_out (by decide), so, show satAdd (56 * h) h = 57 * h by rw [satAdd_le (by omega)]; omega]
              · by_cases k58 : k = 57
                · subst k58
                  show updPol ⟨false, false, 4000000000, 4 * bw, 5 * h, 0, 0, 57 * h⟩ true _ = ⟨false, true, 57000000000, 57 * bw, 58 * h, 0, 0, 58 * h⟩
                  rw [upd_begin (by rw [so]; exact h0), so, sn, sd, show satAdd (57 * h) h = 58 * h by rw [satAdd_le (by omega)]; omega]
                  rfl
                · obtain rfl : k = 58 := by omega
                  show updPol ⟨false, true, 57000000000, 57 * bw, 58 * h, 0, 0, 58 * h⟩ true _ = ⟨false, true, 57000000000, 57 * bw, 58 * h, 0, 1, 59 * h⟩
                  rw [upd_wait sl (by decide), so, show satAdd (58 * h) h = 59 * h by rw [satAdd_le (by omega)]; omega]
                  rfl
theorem std_many (hb : 1000 ≤ bw) (hb1 : bw ≤ 2000000) (hh : h = bw / 2) : ∀ k, k ≤ 59 → stdPol bw h k = manyAt bw h k
  | 0, _ => rfl
  | k + 1, hk => by
    show updPol (stdPol bw h k) true (smpStd k bw h) = _
    rw [std_many hb hb1 hh k (by omega)]
    exact many_next hb hb1 hh (by omega)
theorem many_in {k : Nat} (h9 : 9 ≤ k) (h57 : k < 57) : (manyAt bw h k).u = true ∧ (manyAt bw h k).b = bw := by
  unfold manyAt
  rw [if_neg (by omega), if_neg (by omega), if_neg (by omega), if_pos (by omega)]
  exact ⟨rfl, rfl⟩
theorem many_out {k : Nat} (hk : k < 9 ∨ 57 ≤ k) : (manyAt bw h k).u = false := by
  unfold manyAt
  split
  · rfl
  · split
    · rfl
    · split
      · rfl
      · split
        · omega
        · split <;> rfl
end
end Go.Proofs.Ytagdhafggebkpaa
