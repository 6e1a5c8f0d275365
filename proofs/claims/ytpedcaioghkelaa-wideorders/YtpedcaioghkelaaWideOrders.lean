/-
  Proved: canterlaw02.WideOrders answers true at all numbers, and leaves its arguments as they were. Conditions: none.
-/
import Derived.Test.YtpedcaioghkelaaRows
import Derived.WalkKit
import Derived.ProofKit
import Derived.OpenShut
import Derived.ShutString
import Derived.Test.YtpedcaioghkelaaAwakeW
namespace Go.Proofs.Ytpedcaioghkelaa.wideOrders
open Go.ChangeShapes Go.WideShapes Go.ChangeAt Go.RowKit
open Go.ChangeMaps (open_string shut_string)
set_option linter.unusedVariables false

theorem own : ownKnob Try.prog.godebug = none := by kernel_rfl

theorem ediv_mono {x y c : Int} (c0 : 0 ≤ c) (h : x ≤ y) : x / c ≤ y / c := by
  rcases (show c = 0 ∨ 0 < c by omega) with e | e
  · subst e; simp
  · exact Int.ediv_le_ediv e h
theorem ediv_anti {x c d : Int} (x0 : 0 ≤ x) (c0 : 0 < c) (h : c ≤ d) : x / d ≤ x / c := by
  have q0 : 0 ≤ x / d := Int.ediv_nonneg x0 (by omega)
  rw [Int.le_ediv_iff_mul_le c0]
  exact Int.le_trans (Int.mul_le_mul_of_nonneg_left h q0) (Int.ediv_mul_le x (by omega))
theorem md_mono {a d b c : Int} (a0 : 0 ≤ a) (b0 : 0 ≤ b) (c0 : 0 ≤ c) (h : a ≤ d) : mulDivV a b c ≤ mulDivV d b c := by
  have h1 : a * b ≤ d * b := Int.mul_le_mul_of_nonneg_right h b0
  have h2 := Int.mul_nonneg a0 b0
  have h3 : a * b / c ≤ d * b / c := ediv_mono c0 h1
  have h4 : 0 ≤ d * b / c := Int.ediv_nonneg (by omega) c0
  have h5 := mulDivV_bd (a := d) (b := b) (c := c) (by omega) b0 c0
  have h6 := mulDivV_bd (a := a) (b := b) (c := c) (by omega) b0 c0
  unfold mulDivV at *
  by_cases e1 : a * b = 0
  · rw [if_pos e1] at *; exact h5.1
  · have e2 : ¬ d * b = 0 := by omega
    rw [if_neg e1, if_neg e2] at *
    by_cases e3 : c = 0
    · rw [if_pos e3, if_pos e3]; exact Int.le_refl _
    · rw [if_neg e3, if_neg e3] at *
      by_cases e4 : 18446744073709551615 < d * b / c
      · rw [if_pos e4]; exact h6.2
      · rw [if_neg e4, if_neg (by omega)]; exact h3
theorem md_comm (a b c : Int) : (mulDivV a b c == mulDivV b a c) = true := by
  rw [beq_iff_eq]; unfold mulDivV; rw [Int.mul_comm a b]
theorem md_same {a b : Int} (a0 : 0 ≤ a) (ah : a ≤ 18446744073709551615) (hb : 0 < b) : (mulDivV a b b == a) = true := by
  rw [beq_iff_eq]; unfold mulDivV
  rw [Int.mul_ediv_cancel _ (by omega), if_neg (show ¬ b = 0 by omega), if_neg (show ¬ 18446744073709551615 < a by omega)]
  by_cases e : a * b = 0
  · rw [if_pos e]
    rcases Int.mul_eq_zero.1 e with h | h
    · exact h.symm
    · omega
  · rw [if_neg e]
theorem md_anti {a b c d : Int} (a0 : 0 ≤ a) (b0 : 0 ≤ b) (c0 : 0 < c) (h : c ≤ d) : mulDivV a b d ≤ mulDivV a b c := by
  have h2 := Int.mul_nonneg a0 b0
  have h3 : a * b / d ≤ a * b / c := ediv_anti h2 c0 h
  have h6 := mulDivV_bd (a := a) (b := b) (c := d) (by omega) b0 (by omega)
  unfold mulDivV at *
  by_cases e1 : a * b = 0
  · rw [if_pos e1, if_pos e1]; exact Int.le_refl _
  · rw [if_neg e1, if_neg e1, if_neg (show ¬ d = 0 by omega), if_neg (show ¬ c = 0 by omega)]
    rw [if_neg e1, if_neg (show ¬ d = 0 by omega)] at h6
    by_cases e4 : 18446744073709551615 < a * b / c
    · rw [if_pos e4]; exact h6.2
    · rw [if_neg e4, if_neg (by omega)]; exact h3

set_option maxHeartbeats 4000000 in
theorem walk (a0 : Int) (a1 : Int) (a2 : Int) (a3 : Int) (w0 : (Lit.int .u64 a0).wf = true) (w1 : (Lit.int .u64 a1).wf = true) (w2 : (Lit.int .u64 a2).wf = true) (w3 : (Lit.int .u64 a3).wf = true) (w : World) :
    Calls Try.prog 5 #[.int .u64 a0, .int .u64 a1, .int .u64 a2, .int .u64 a3] w fun e w' => e = .returned (.bool true) ∧ Grown w w' := by
  obtain ⟨a0l, a0h⟩ := bounds_u64 w0
  obtain ⟨a1l, a1h⟩ := bounds_u64 w1
  obtain ⟨a2l, a2h⟩ := bounds_u64 w2
  obtain ⟨a3l, a3h⟩ := bounds_u64 w3
  clear w0 w1 w2 w3
  have q2 := md_comm a0 a1 a2
  rcases Int.lt_trichotomy a0 a3 with h | h | h
  · have q1 := md_mono (c := a2) a0l a1l a2l (Int.le_of_lt h)
    rcases (show a1 = 0 ∨ 0 < a1 by omega) with hb | hb
    · subst hb
      rcases (show a2 = 0 ∨ 0 < a2 by omega) with hc | hc
      · subst hc
        go_enter Try.func5, Try.ntmps5
        go_wp2_with (first
          | (go_at_call 13; refine (awakew_any _).mono ?_; rintro e w' ⟨rfl, rfl⟩)
          | (go_at_call 14; refine (wmuldiv_any _ _ _ (by omega) (by omega) (by omega) (by omega) (by omega) (by omega) _).mono ?_; rintro e w' ⟨rfl, rfl⟩))
        go_ret
        exact ⟨rfl, Grown.refl _⟩
      · have hcb : (a2 == 0) = false := by rw [beq_eq_false_iff_ne]; omega
        rcases Int.lt_trichotomy a2 a3 with g | g | g
        · have q4 := md_anti a0l a1l hc (Int.le_of_lt g)
          go_enter Try.func5, Try.ntmps5
          go_wp2_with (first
            | (go_at_call 13; refine (awakew_any _).mono ?_; rintro e w' ⟨rfl, rfl⟩)
            | (go_at_call 14; refine (wmuldiv_any _ _ _ (by omega) (by omega) (by omega) (by omega) (by omega) (by omega) _).mono ?_; rintro e w' ⟨rfl, rfl⟩))
          go_ret
          exact ⟨rfl, Grown.refl _⟩
        · subst g
          go_enter Try.func5, Try.ntmps5
          go_wp2_with (first
            | (go_at_call 13; refine (awakew_any _).mono ?_; rintro e w' ⟨rfl, rfl⟩)
            | (go_at_call 14; refine (wmuldiv_any _ _ _ (by omega) (by omega) (by omega) (by omega) (by omega) (by omega) _).mono ?_; rintro e w' ⟨rfl, rfl⟩))
          go_ret
          exact ⟨rfl, Grown.refl _⟩
        · skip
          go_enter Try.func5, Try.ntmps5
          go_wp2_with (first
            | (go_at_call 13; refine (awakew_any _).mono ?_; rintro e w' ⟨rfl, rfl⟩)
            | (go_at_call 14; refine (wmuldiv_any _ _ _ (by omega) (by omega) (by omega) (by omega) (by omega) (by omega) _).mono ?_; rintro e w' ⟨rfl, rfl⟩))
          go_ret
          exact ⟨rfl, Grown.refl _⟩
    · have hbb : (a1 == 0) = false := by rw [beq_eq_false_iff_ne]; omega
      have q3 := md_same a0l a0h hb
      rcases (show a2 = 0 ∨ 0 < a2 by omega) with hc | hc
      · subst hc
        go_enter Try.func5, Try.ntmps5
        go_wp2_with (first
          | (go_at_call 13; refine (awakew_any _).mono ?_; rintro e w' ⟨rfl, rfl⟩)
          | (go_at_call 14; refine (wmuldiv_any _ _ _ (by omega) (by omega) (by omega) (by omega) (by omega) (by omega) _).mono ?_; rintro e w' ⟨rfl, rfl⟩))
        go_ret
        exact ⟨rfl, Grown.refl _⟩
      · have hcb : (a2 == 0) = false := by rw [beq_eq_false_iff_ne]; omega
        rcases Int.lt_trichotomy a2 a3 with g | g | g
        · have q4 := md_anti a0l a1l hc (Int.le_of_lt g)
          go_enter Try.func5, Try.ntmps5
          go_wp2_with (first
            | (go_at_call 13; refine (awakew_any _).mono ?_; rintro e w' ⟨rfl, rfl⟩)
            | (go_at_call 14; refine (wmuldiv_any _ _ _ (by omega) (by omega) (by omega) (by omega) (by omega) (by omega) _).mono ?_; rintro e w' ⟨rfl, rfl⟩))
          go_ret
          exact ⟨rfl, Grown.refl _⟩
        · subst g
          go_enter Try.func5, Try.ntmps5
          go_wp2_with (first
            | (go_at_call 13; refine (awakew_any _).mono ?_; rintro e w' ⟨rfl, rfl⟩)
            | (go_at_call 14; refine (wmuldiv_any _ _ _ (by omega) (by omega) (by omega) (by omega) (by omega) (by omega) _).mono ?_; rintro e w' ⟨rfl, rfl⟩))
          go_ret
          exact ⟨rfl, Grown.refl _⟩
        · skip
          go_enter Try.func5, Try.ntmps5
          go_wp2_with (first
            | (go_at_call 13; refine (awakew_any _).mono ?_; rintro e w' ⟨rfl, rfl⟩)
            | (go_at_call 14; refine (wmuldiv_any _ _ _ (by omega) (by omega) (by omega) (by omega) (by omega) (by omega) _).mono ?_; rintro e w' ⟨rfl, rfl⟩))
          go_ret
          exact ⟨rfl, Grown.refl _⟩
  · subst h
    rcases (show a1 = 0 ∨ 0 < a1 by omega) with hb | hb
    · subst hb
      rcases (show a2 = 0 ∨ 0 < a2 by omega) with hc | hc
      · subst hc
        go_enter Try.func5, Try.ntmps5
        go_wp2_with (first
          | (go_at_call 13; refine (awakew_any _).mono ?_; rintro e w' ⟨rfl, rfl⟩)
          | (go_at_call 14; refine (wmuldiv_any _ _ _ (by omega) (by omega) (by omega) (by omega) (by omega) (by omega) _).mono ?_; rintro e w' ⟨rfl, rfl⟩))
        go_ret
        exact ⟨rfl, Grown.refl _⟩
      · have hcb : (a2 == 0) = false := by rw [beq_eq_false_iff_ne]; omega
        rcases Int.lt_trichotomy a2 a0 with g | g | g
        · have q4 := md_anti a0l a1l hc (Int.le_of_lt g)
          go_enter Try.func5, Try.ntmps5
          go_wp2_with (first
            | (go_at_call 13; refine (awakew_any _).mono ?_; rintro e w' ⟨rfl, rfl⟩)
            | (go_at_call 14; refine (wmuldiv_any _ _ _ (by omega) (by omega) (by omega) (by omega) (by omega) (by omega) _).mono ?_; rintro e w' ⟨rfl, rfl⟩))
          go_ret
          exact ⟨rfl, Grown.refl _⟩
        · subst g
          go_enter Try.func5, Try.ntmps5
          go_wp2_with (first
            | (go_at_call 13; refine (awakew_any _).mono ?_; rintro e w' ⟨rfl, rfl⟩)
            | (go_at_call 14; refine (wmuldiv_any _ _ _ (by omega) (by omega) (by omega) (by omega) (by omega) (by omega) _).mono ?_; rintro e w' ⟨rfl, rfl⟩))
          go_ret
          exact ⟨rfl, Grown.refl _⟩
        · skip
          go_enter Try.func5, Try.ntmps5
          go_wp2_with (first
            | (go_at_call 13; refine (awakew_any _).mono ?_; rintro e w' ⟨rfl, rfl⟩)
            | (go_at_call 14; refine (wmuldiv_any _ _ _ (by omega) (by omega) (by omega) (by omega) (by omega) (by omega) _).mono ?_; rintro e w' ⟨rfl, rfl⟩))
          go_ret
          exact ⟨rfl, Grown.refl _⟩
    · have hbb : (a1 == 0) = false := by rw [beq_eq_false_iff_ne]; omega
      have q3 := md_same a0l a0h hb
      rcases (show a2 = 0 ∨ 0 < a2 by omega) with hc | hc
      · subst hc
        go_enter Try.func5, Try.ntmps5
        go_wp2_with (first
          | (go_at_call 13; refine (awakew_any _).mono ?_; rintro e w' ⟨rfl, rfl⟩)
          | (go_at_call 14; refine (wmuldiv_any _ _ _ (by omega) (by omega) (by omega) (by omega) (by omega) (by omega) _).mono ?_; rintro e w' ⟨rfl, rfl⟩))
        go_ret
        exact ⟨rfl, Grown.refl _⟩
      · have hcb : (a2 == 0) = false := by rw [beq_eq_false_iff_ne]; omega
        rcases Int.lt_trichotomy a2 a0 with g | g | g
        · have q4 := md_anti a0l a1l hc (Int.le_of_lt g)
          go_enter Try.func5, Try.ntmps5
          go_wp2_with (first
            | (go_at_call 13; refine (awakew_any _).mono ?_; rintro e w' ⟨rfl, rfl⟩)
            | (go_at_call 14; refine (wmuldiv_any _ _ _ (by omega) (by omega) (by omega) (by omega) (by omega) (by omega) _).mono ?_; rintro e w' ⟨rfl, rfl⟩))
          go_ret
          exact ⟨rfl, Grown.refl _⟩
        · subst g
          go_enter Try.func5, Try.ntmps5
          go_wp2_with (first
            | (go_at_call 13; refine (awakew_any _).mono ?_; rintro e w' ⟨rfl, rfl⟩)
            | (go_at_call 14; refine (wmuldiv_any _ _ _ (by omega) (by omega) (by omega) (by omega) (by omega) (by omega) _).mono ?_; rintro e w' ⟨rfl, rfl⟩))
          go_ret
          exact ⟨rfl, Grown.refl _⟩
        · skip
          go_enter Try.func5, Try.ntmps5
          go_wp2_with (first
            | (go_at_call 13; refine (awakew_any _).mono ?_; rintro e w' ⟨rfl, rfl⟩)
            | (go_at_call 14; refine (wmuldiv_any _ _ _ (by omega) (by omega) (by omega) (by omega) (by omega) (by omega) _).mono ?_; rintro e w' ⟨rfl, rfl⟩))
          go_ret
          exact ⟨rfl, Grown.refl _⟩
  · have q1 := md_mono (c := a2) a3l a1l a2l (Int.le_of_lt h)
    rcases (show a1 = 0 ∨ 0 < a1 by omega) with hb | hb
    · subst hb
      rcases (show a2 = 0 ∨ 0 < a2 by omega) with hc | hc
      · subst hc
        go_enter Try.func5, Try.ntmps5
        go_wp2_with (first
          | (go_at_call 13; refine (awakew_any _).mono ?_; rintro e w' ⟨rfl, rfl⟩)
          | (go_at_call 14; refine (wmuldiv_any _ _ _ (by omega) (by omega) (by omega) (by omega) (by omega) (by omega) _).mono ?_; rintro e w' ⟨rfl, rfl⟩))
        go_ret
        exact ⟨rfl, Grown.refl _⟩
      · have hcb : (a2 == 0) = false := by rw [beq_eq_false_iff_ne]; omega
        rcases Int.lt_trichotomy a2 a3 with g | g | g
        · have q4 := md_anti a0l a1l hc (Int.le_of_lt g)
          go_enter Try.func5, Try.ntmps5
          go_wp2_with (first
            | (go_at_call 13; refine (awakew_any _).mono ?_; rintro e w' ⟨rfl, rfl⟩)
            | (go_at_call 14; refine (wmuldiv_any _ _ _ (by omega) (by omega) (by omega) (by omega) (by omega) (by omega) _).mono ?_; rintro e w' ⟨rfl, rfl⟩))
          go_ret
          exact ⟨rfl, Grown.refl _⟩
        · subst g
          go_enter Try.func5, Try.ntmps5
          go_wp2_with (first
            | (go_at_call 13; refine (awakew_any _).mono ?_; rintro e w' ⟨rfl, rfl⟩)
            | (go_at_call 14; refine (wmuldiv_any _ _ _ (by omega) (by omega) (by omega) (by omega) (by omega) (by omega) _).mono ?_; rintro e w' ⟨rfl, rfl⟩))
          go_ret
          exact ⟨rfl, Grown.refl _⟩
        · skip
          go_enter Try.func5, Try.ntmps5
          go_wp2_with (first
            | (go_at_call 13; refine (awakew_any _).mono ?_; rintro e w' ⟨rfl, rfl⟩)
            | (go_at_call 14; refine (wmuldiv_any _ _ _ (by omega) (by omega) (by omega) (by omega) (by omega) (by omega) _).mono ?_; rintro e w' ⟨rfl, rfl⟩))
          go_ret
          exact ⟨rfl, Grown.refl _⟩
    · have hbb : (a1 == 0) = false := by rw [beq_eq_false_iff_ne]; omega
      have q3 := md_same a0l a0h hb
      rcases (show a2 = 0 ∨ 0 < a2 by omega) with hc | hc
      · subst hc
        go_enter Try.func5, Try.ntmps5
        go_wp2_with (first
          | (go_at_call 13; refine (awakew_any _).mono ?_; rintro e w' ⟨rfl, rfl⟩)
          | (go_at_call 14; refine (wmuldiv_any _ _ _ (by omega) (by omega) (by omega) (by omega) (by omega) (by omega) _).mono ?_; rintro e w' ⟨rfl, rfl⟩))
        go_ret
        exact ⟨rfl, Grown.refl _⟩
      · have hcb : (a2 == 0) = false := by rw [beq_eq_false_iff_ne]; omega
        rcases Int.lt_trichotomy a2 a3 with g | g | g
        · have q4 := md_anti a0l a1l hc (Int.le_of_lt g)
          go_enter Try.func5, Try.ntmps5
          go_wp2_with (first
            | (go_at_call 13; refine (awakew_any _).mono ?_; rintro e w' ⟨rfl, rfl⟩)
            | (go_at_call 14; refine (wmuldiv_any _ _ _ (by omega) (by omega) (by omega) (by omega) (by omega) (by omega) _).mono ?_; rintro e w' ⟨rfl, rfl⟩))
          go_ret
          exact ⟨rfl, Grown.refl _⟩
        · subst g
          go_enter Try.func5, Try.ntmps5
          go_wp2_with (first
            | (go_at_call 13; refine (awakew_any _).mono ?_; rintro e w' ⟨rfl, rfl⟩)
            | (go_at_call 14; refine (wmuldiv_any _ _ _ (by omega) (by omega) (by omega) (by omega) (by omega) (by omega) _).mono ?_; rintro e w' ⟨rfl, rfl⟩))
          go_ret
          exact ⟨rfl, Grown.refl _⟩
        · skip
          go_enter Try.func5, Try.ntmps5
          go_wp2_with (first
            | (go_at_call 13; refine (awakew_any _).mono ?_; rintro e w' ⟨rfl, rfl⟩)
            | (go_at_call 14; refine (wmuldiv_any _ _ _ (by omega) (by omega) (by omega) (by omega) (by omega) (by omega) _).mono ?_; rintro e w' ⟨rfl, rfl⟩))
          go_ret
          exact ⟨rfl, Grown.refl _⟩

set_option maxRecDepth 100000 in
theorem lifted (os : Os) (started : os.Started) (H : Type) (enc : TypeId × Value → H) :
    ReturnsInHanded {} Try.checked os 5 .any (Rows.wideOrdersSpec.pre6 enc Try.prog Try.f5 Rows.wideOrdersRow.domain false) (Rows.wideOrdersSpec.post enc Try.prog Try.f5 false true false false) := by
  refine returnsInHanded_of_change (C := Try.checked) own started (by kernel_rfl) Try.func5
    (ChangeSpec.witness6 (enc := enc) (C := Try.checked) false ⟨#[], #[.int .u64 0, .int .u64 0, .int .u64 0, .int .u64 0], []⟩ 8 (by kernel_rfl) (by kernel_rfl) (by kernel_rfl) (by kernel_rfl)) ?_
  intro W base args ds gs before hval0 hW hcnd _
  have hval : ∀ (j : Nat) t v, Try.f5.params[j]? = some t → args[j]? = some v → Value.okWide Try.prog W .any base t v := hval0
  have hW' := hW
  obtain ⟨p, q, hA0, hV, rfl, hfz, hnd⟩ := hW
  have hA : DataW.TrodAll enc Try.prog W 0 (fun _ => true) true Try.f5.params.toList args.toList ds p := hA0
  rw [Try.params5] at hA hval
  obtain ⟨v0, vs0, d0, ds0, p0, q0, hargs, rfl, rfl, h0, r0⟩ := trodAll_cons hA
  obtain ⟨v1, vs1, d1, ds1, p1, q1, rfl, rfl, rfl, h1, r1⟩ := trodAll_cons r0
  obtain ⟨v2, vs2, d2, ds2, p2, q2, rfl, rfl, rfl, h2, r2⟩ := trodAll_cons r1
  obtain ⟨v3, vs3, d3, ds3, p3, q3, rfl, rfl, rfl, h3, r3⟩ := trodAll_cons r2
  obtain ⟨rfl, rfl, rfl⟩ := trodAll_nil r3
  obtain rfl : args = #[v0, v1, v2, v3] := by cases args; simp_all
  obtain ⟨rfl, rfl⟩ := trodVars_none hV
  obtain ⟨a0, rfl, rfl, rfl, w0⟩ := open_int Try.underlying22 (hval 0 22 v0 rfl rfl) h0
  obtain ⟨a1, rfl, rfl, rfl, w1⟩ := open_int Try.underlying22 (hval 1 22 v1 rfl rfl) h1
  obtain ⟨a2, rfl, rfl, rfl, w2⟩ := open_int Try.underlying22 (hval 2 22 v2 rfl rfl) h2
  obtain ⟨a3, rfl, rfl, rfl, w3⟩ := open_int Try.underlying22 (hval 3 22 v3 rfl rfl) h3
  clear hA0 hval0
  simp only [List.append_nil] at hW'
  refine (walk a0 a1 a2 a3 w0 w1 w2 w3 W).mono fun e W' ⟨he, hg⟩ => ?_
  subst he
  exact ⟨_, rfl, post_of_same (pa := []) (pv := []) hW' (fun _ _ _ => (trodAll_cons_mk (shut_bool Try.underlying4 _) trodAll_mk0)) (fun sp _ => (trodAll_cons_mk (shut_int Try.underlying22 w0) (trodAll_cons_mk (shut_int Try.underlying22 w1) (trodAll_cons_mk (shut_int Try.underlying22 w2) (trodAll_cons_mk (shut_int Try.underlying22 w3) trodAll_mk0))))) (fun _ _ => rfl) rfl
    (hg.frame _) hg.2.1 (ok_one (by kernel_rfl) rfl (okWide_bool_mk Try.underlying4 _))⟩

theorem over : Rows.wideOrdersRow.holds Try.pinned (OpenSpec.ofChange Rows.wideOrdersSpec) :=
  OpenClaim.holds_of_wide 5 Try.f5 rfl rfl rfl rfl rfl rfl rfl ⟨rfl, rfl, rfl, rfl, rfl⟩ rfl rfl rfl rfl rfl (by kernel_rfl) Try.func5 (by kernel_rfl)
    (of_decide_eq_true (by kernel_rfl)) (by unfold Func.isWrapper; first | (rw [if_pos (by decide +kernel)]; kernel_rfl) | (rw [if_neg (by decide +kernel)]; exact ⟨rfl, rfl⟩))
    (fun os started H enc _ => lifted os started H enc)

theorem proved : Rows.WideOrdersSaid :=
  over
end Go.Proofs.Ytpedcaioghkelaa.wideOrders
namespace Go.Proofs.Ytpedcaioghkelaa
theorem wideOrders_holds : Rows.WideOrdersSaid := wideOrders.proved
#print axioms wideOrders_holds
end Go.Proofs.Ytpedcaioghkelaa
