/-
  Proved: canterlaw02.WideBack answers true at all numbers, and leaves its arguments as they were. Conditions: none.
-/
import Derived.Test.YtpedcaioghkelaaRows
import Derived.WalkKit
import Derived.ProofKit
import Derived.OpenShut
import Derived.ShutString
import Derived.Test.YtpedcaioghkelaaAwakeW
namespace Go.Proofs.Ytpedcaioghkelaa.wideBack
open Go.ChangeShapes Go.WideShapes Go.ChangeAt Go.RowKit
open Go.ChangeMaps (open_string shut_string)
set_option linter.unusedVariables false

theorem own : ownKnob Try.prog.godebug = none := by kernel_rfl



set_option maxHeartbeats 1000000 in
theorem walk (a0 : Int) (a1 : Int) (a2 : Int) (w0 : (Lit.int .u64 a0).wf = true) (w1 : (Lit.int .u64 a1).wf = true) (w2 : (Lit.int .u64 a2).wf = true) (w : World) :
    Calls Try.prog 4 #[.int .u64 a0, .int .u64 a1, .int .u64 a2] w fun e w' => e = .returned (.bool true) ∧ Grown w w' := by
  obtain ⟨a0l, a0h⟩ := bounds_u64 w0
  obtain ⟨a1l, a1h⟩ := bounds_u64 w1
  obtain ⟨a2l, a2h⟩ := bounds_u64 w2
  clear w0 w1 w2
  have hp := Int.mul_nonneg a0l a1l
  have hp2 : a0 * a1 ≤ 18446744073709551615 * 18446744073709551615 := Int.mul_le_mul a0h a1h a1l (by omega)
  have hq0 : 0 ≤ a0 * a1 / 18446744073709551616 := by omega
  have hq1 : a0 * a1 / 18446744073709551616 ≤ 18446744073709551615 := by omega
  have hr0 : 0 ≤ a0 * a1 % 18446744073709551616 := by omega
  have hr1 : a0 * a1 % 18446744073709551616 ≤ 18446744073709551615 := by omega
  by_cases hc : a2 = 0
  · subst hc
    clear hp hp2
    go_enter Try.func4, Try.ntmps4
    go_wp2_with fail
    refine (wmul_any _ _ a0l a0h a1l a1h _).mono ?_
    rintro e w' ⟨rfl, rfl⟩
    go_wp2_with fail
    refine (wdiv_any _ _ _ hq0 hq1 hr0 hr1 (by omega) (by omega) _).mono ?_
    rintro e w' ⟨rfl, rfl⟩
    have he : divE (a0 * a1 / 18446744073709551616) (a0 * a1 % 18446744073709551616) 0 = 1 := rfl
    have hv : divV (a0 * a1 / 18446744073709551616) (a0 * a1 % 18446744073709551616) 0 = 0 := rfl
    rw [he, hv]
    clear he hv
    go_wp2_with (go_at_call 13; refine (awakew_any _).mono ?_; rintro e w' ⟨rfl, rfl⟩)
    go_ret
    exact ⟨rfl, Grown.refl _⟩
  · have hcb : (a2 == 0) = false := by rw [beq_eq_false_iff_ne]; exact hc
    by_cases hg : a2 ≤ a0 * a1 / 18446744073709551616
    · have he : (divE (a0 * a1 / 18446744073709551616) (a0 * a1 % 18446744073709551616) a2 != 0) = true := by unfold divE; rw [if_neg hc, if_pos hg]; rfl
      have he3 : (divE (a0 * a1 / 18446744073709551616) (a0 * a1 % 18446744073709551616) a2 == 3) = true := by unfold divE; rw [if_neg hc, if_pos hg]; rfl
      have hm : (mulDivV a0 a1 a2 == 18446744073709551615) = true := by
        rw [beq_iff_eq]; unfold mulDivV; rw [if_neg (by omega), if_neg hc, if_pos ((over_iff hp (by omega)).2 hg)]
      clear hp hp2 hc
      go_enter Try.func4, Try.ntmps4
      go_wp2_with (first
        | (go_at_call 13; refine (awakew_any _).mono ?_; rintro e w' ⟨rfl, rfl⟩)
        | (go_at_call 9; refine (wmul_any _ _ a0l a0h a1l a1h _).mono ?_; rintro e w' ⟨rfl, rfl⟩)
        | (go_at_call 11; refine (wdiv_any _ _ _ hq0 hq1 hr0 hr1 a2l a2h _).mono ?_; rintro e w' ⟨rfl, rfl⟩)
        | (go_at_call 14; refine (wmuldiv_any _ _ _ a0l a0h a1l a1h a2l a2h _).mono ?_; rintro e w' ⟨rfl, rfl⟩))
      go_ret
      exact ⟨rfl, Grown.refl _⟩
    · have he : (divE (a0 * a1 / 18446744073709551616) (a0 * a1 % 18446744073709551616) a2 != 0) = false := by unfold divE; rw [if_neg hc, if_neg hg]; rfl
      have hv : divV (a0 * a1 / 18446744073709551616) (a0 * a1 % 18446744073709551616) a2 = a0 * a1 / a2 := by
        unfold divV; rw [if_neg hc, if_neg hg, show a0 * a1 / 18446744073709551616 * 18446744073709551616 + a0 * a1 % 18446744073709551616 = a0 * a1 from by omega]
      have hm : (mulDivV a0 a1 a2 == divV (a0 * a1 / 18446744073709551616) (a0 * a1 % 18446744073709551616) a2) = true := by
        rw [beq_iff_eq, hv]; unfold mulDivV
        by_cases h0 : a0 * a1 = 0
        · rw [if_pos h0, h0]; simp
        · rw [if_neg h0, if_neg hc, if_neg (by rw [over_iff hp (by omega)]; exact hg)]
      obtain ⟨v0, v1⟩ := divV_bd (c := a2) hq0 hr0 hr1 a2l
      have k1 : divV (a0 * a1 / 18446744073709551616) (a0 * a1 % 18446744073709551616) a2 * a2 ≤ a0 * a1 := by rw [hv]; exact Int.ediv_mul_le _ hc
      have k2 : a0 * a1 < divV (a0 * a1 / 18446744073709551616) (a0 * a1 % 18446744073709551616) a2 * a2 + a2 := by
        rw [hv]; have := Int.lt_ediv_add_one_mul_self (a0 * a1) (show 0 < a2 by omega); rw [Int.add_mul, Int.one_mul] at this; exact this
      clear hc hv
      have k0 : 0 ≤ divV (a0 * a1 / 18446744073709551616) (a0 * a1 % 18446744073709551616) a2 * a2 := Int.mul_nonneg v0 a2l
      generalize hq : divV (a0 * a1 / 18446744073709551616) (a0 * a1 % 18446744073709551616) a2 = q at *
      have HQ := Lib.hid hq; clear hq
      rcases Int.lt_or_le (q * a2 / 18446744073709551616) (a0 * a1 / 18446744073709551616) with hx | hx
      · have hy : a0 * a1 % 18446744073709551616 < q * a2 % 18446744073709551616 := by omega
        have hw1 : IntKind.u64.wrap (a0 * a1 % 18446744073709551616 - q * a2 % 18446744073709551616) = a0 * a1 - q * a2 := by rw [IntKind.wrap_u64]; omega
        have hw2 : a0 * a1 - q * a2 < a2 := by omega
        have hw3 : (a0 * a1 / 18446744073709551616 - q * a2 / 18446744073709551616 - 1 == 0) = true := by rw [beq_iff_eq]; omega
        have hw4 : (IntKind.u64.wrap (a0 * a1 / 18446744073709551616 - q * a2 / 18446744073709551616 - 1) == 0) = true := by rw [beq_iff_eq, IntKind.wrap_u64]; omega
        have hw5 : IntKind.u64.wrap (a0 * a1 / 18446744073709551616 - q * a2 / 18446744073709551616) = 1 := by rw [IntKind.wrap_u64]; omega
        clear hp hp2 k0 k1 k2 hg
        go_enter Try.func4, Try.ntmps4
        go_wp2_with fail
        refine (wmul_any _ _ a0l a0h a1l a1h _).mono ?_
        rintro e w' ⟨rfl, rfl⟩
        go_wp2_with fail
        refine (wdiv_any _ _ _ hq0 hq1 hr0 hr1 a2l a2h _).mono ?_
        rintro e w' ⟨rfl, rfl⟩
        rw [HQ.out]
        go_wp2_with fail
        refine (wmul_any _ _ v0 v1 a2l a2h _).mono ?_
        rintro e w' ⟨rfl, rfl⟩
        go_wp2_with (first
          | (go_at_call 13; refine (awakew_any _).mono ?_; rintro e w' ⟨rfl, rfl⟩)
          | (go_at_call 14; refine (wmuldiv_any _ _ _ a0l a0h a1l a1h a2l a2h _).mono ?_; rintro e w' ⟨rfl, rfl⟩))
        go_ret
        exact ⟨rfl, Grown.refl _⟩
      · have hx2 : q * a2 / 18446744073709551616 = a0 * a1 / 18446744073709551616 := by omega
        have hxn : decide (q * a2 / 18446744073709551616 < a0 * a1 / 18446744073709551616) = false := by simp; omega
        have hxb : (q * a2 / 18446744073709551616 == a0 * a1 / 18446744073709551616) = true := by rw [beq_iff_eq]; exact hx2
        have hy : q * a2 % 18446744073709551616 ≤ a0 * a1 % 18446744073709551616 := by omega
        have hyn : decide (a0 * a1 % 18446744073709551616 < q * a2 % 18446744073709551616) = false := by simp; omega
        have hw1 : a0 * a1 % 18446744073709551616 - q * a2 % 18446744073709551616 < a2 := by omega
        have hw3 : IntKind.u64.wrap (a0 * a1 / 18446744073709551616 - q * a2 / 18446744073709551616) = 0 := by rw [IntKind.wrap_u64]; omega
        clear hp hp2 k0 k1 k2 hg hx2
        go_enter Try.func4, Try.ntmps4
        go_wp2_with fail
        refine (wmul_any _ _ a0l a0h a1l a1h _).mono ?_
        rintro e w' ⟨rfl, rfl⟩
        go_wp2_with fail
        refine (wdiv_any _ _ _ hq0 hq1 hr0 hr1 a2l a2h _).mono ?_
        rintro e w' ⟨rfl, rfl⟩
        rw [HQ.out]
        go_wp2_with fail
        refine (wmul_any _ _ v0 v1 a2l a2h _).mono ?_
        rintro e w' ⟨rfl, rfl⟩
        go_wp2_with (first
          | (go_at_call 13; refine (awakew_any _).mono ?_; rintro e w' ⟨rfl, rfl⟩)
          | (go_at_call 14; refine (wmuldiv_any _ _ _ a0l a0h a1l a1h a2l a2h _).mono ?_; rintro e w' ⟨rfl, rfl⟩))
        go_ret
        exact ⟨rfl, Grown.refl _⟩

set_option maxRecDepth 100000 in
theorem lifted (os : Os) (started : os.Started) (H : Type) (enc : TypeId × Value → H) :
    ReturnsInHanded {} Try.checked os 4 .any (Rows.wideBackSpec.pre6 enc Try.prog Try.f4 Rows.wideBackRow.domain false) (Rows.wideBackSpec.post enc Try.prog Try.f4 false true false false) := by
  refine returnsInHanded_of_change (C := Try.checked) own started (by kernel_rfl) Try.func4
    (ChangeSpec.witness6 (enc := enc) (C := Try.checked) false ⟨#[], #[.int .u64 0, .int .u64 0, .int .u64 0], []⟩ 8 (by kernel_rfl) (by kernel_rfl) (by kernel_rfl) (by kernel_rfl)) ?_
  intro W base args ds gs before hval0 hW hcnd _
  have hval : ∀ (j : Nat) t v, Try.f4.params[j]? = some t → args[j]? = some v → Value.okWide Try.prog W .any base t v := hval0
  have hW' := hW
  obtain ⟨p, q, hA0, hV, rfl, hfz, hnd⟩ := hW
  have hA : DataW.TrodAll enc Try.prog W 0 (fun _ => true) true Try.f4.params.toList args.toList ds p := hA0
  rw [Try.params4] at hA hval
  obtain ⟨v0, vs0, d0, ds0, p0, q0, hargs, rfl, rfl, h0, r0⟩ := trodAll_cons hA
  obtain ⟨v1, vs1, d1, ds1, p1, q1, rfl, rfl, rfl, h1, r1⟩ := trodAll_cons r0
  obtain ⟨v2, vs2, d2, ds2, p2, q2, rfl, rfl, rfl, h2, r2⟩ := trodAll_cons r1
  obtain ⟨rfl, rfl, rfl⟩ := trodAll_nil r2
  obtain rfl : args = #[v0, v1, v2] := by cases args; simp_all
  obtain ⟨rfl, rfl⟩ := trodVars_none hV
  obtain ⟨a0, rfl, rfl, rfl, w0⟩ := open_int Try.underlying22 (hval 0 22 v0 rfl rfl) h0
  obtain ⟨a1, rfl, rfl, rfl, w1⟩ := open_int Try.underlying22 (hval 1 22 v1 rfl rfl) h1
  obtain ⟨a2, rfl, rfl, rfl, w2⟩ := open_int Try.underlying22 (hval 2 22 v2 rfl rfl) h2
  clear hA0 hval0
  simp only [List.append_nil] at hW'
  refine (walk a0 a1 a2 w0 w1 w2 W).mono fun e W' ⟨he, hg⟩ => ?_
  subst he
  exact ⟨_, rfl, post_of_same (pa := []) (pv := []) hW' (fun _ _ _ => (trodAll_cons_mk (shut_bool Try.underlying4 _) trodAll_mk0)) (fun sp _ => (trodAll_cons_mk (shut_int Try.underlying22 w0) (trodAll_cons_mk (shut_int Try.underlying22 w1) (trodAll_cons_mk (shut_int Try.underlying22 w2) trodAll_mk0)))) (fun _ _ => rfl) rfl
    (hg.frame _) hg.2.1 (ok_one (by kernel_rfl) rfl (okWide_bool_mk Try.underlying4 _))⟩

theorem over : Rows.wideBackRow.holds Try.pinned (OpenSpec.ofChange Rows.wideBackSpec) :=
  OpenClaim.holds_of_wide 4 Try.f4 rfl rfl rfl rfl rfl rfl rfl ⟨rfl, rfl, rfl, rfl, rfl⟩ rfl rfl rfl rfl rfl (by kernel_rfl) Try.func4 (by kernel_rfl)
    (of_decide_eq_true (by kernel_rfl)) (by unfold Func.isWrapper; first | (rw [if_pos (by decide +kernel)]; kernel_rfl) | (rw [if_neg (by decide +kernel)]; exact ⟨rfl, rfl⟩))
    (fun os started H enc _ => lifted os started H enc)

theorem proved : Rows.WideBackSaid :=
  over
end Go.Proofs.Ytpedcaioghkelaa.wideBack
namespace Go.Proofs.Ytpedcaioghkelaa
theorem wideBack_holds : Rows.WideBackSaid := wideBack.proved
#print axioms wideBack_holds
end Go.Proofs.Ytpedcaioghkelaa
