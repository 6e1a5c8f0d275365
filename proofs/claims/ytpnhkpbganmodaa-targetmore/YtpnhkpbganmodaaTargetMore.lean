/-
  Proved: canterlaw12.TargetMore answers true at every seven numbers, and leaves its arguments as they were. Conditions: none.
-/
import Derived.Test.YtpnhkpbganmodaaRows
import Derived.WalkKit
import Derived.ProofKit
import Derived.OpenShut
import Derived.ShutString
import Derived.Test.YtpnhkpbganmodaaAwakeG
import Derived.Test.YtpnhkpbganmodaaRefTgt
import Derived.Test.YtpnhkpbganmodaaTgtMore
import Derived.BigRegion
namespace Go.Proofs.Ytpnhkpbganmodaa.targetMore
open Go.ChangeShapes Go.WideShapes Go.ChangeAt Go.RowKit
open Go.ChangeMaps (open_string shut_string)
set_option linter.unusedVariables false

theorem own : ownKnob Try.prog.godebug = none := by kernel_rfl



set_option maxHeartbeats 4000000 in
set_option maxRecDepth 100000 in
theorem walk (a0 : Int) (a1 : Int) (a2 : Int) (a3 : Int) (a4 : Int) (a5 : Int) (a6 : Int) (w0 : (Lit.int .u64 a0).wf = true) (w1 : (Lit.int .u64 a1).wf = true) (w2 : (Lit.int .u64 a2).wf = true) (w3 : (Lit.int .u64 a3).wf = true) (w4 : (Lit.int .u64 a4).wf = true) (w5 : (Lit.int .u64 a5).wf = true) (w6 : (Lit.int .u64 a6).wf = true) (w : World) :
    Calls Try.prog 4 #[.int .u64 a0, .int .u64 a1, .int .u64 a2, .int .u64 a3, .int .u64 a4, .int .u64 a5, .int .u64 a6] w fun e w' => e = .returned (.bool true) ∧ Below w.heap.size w w' := by
  obtain ⟨v0, v1⟩ := bounds_u64 w0
  obtain ⟨u0, u1⟩ := bounds_u64 w1
  obtain ⟨r0, r1⟩ := bounds_u64 w2
  obtain ⟨d0, d1⟩ := bounds_u64 w3
  obtain ⟨g0, g1⟩ := bounds_u64 w4
  obtain ⟨t0, t1⟩ := bounds_u64 w5
  obtain ⟨m0, m1⟩ := bounds_u64 w6
  clear w0 w1 w2 w3 w4 w5 w6
  go_enter Try.func4, Try.ntmps4
  rcases Int.lt_trichotomy a0 a1 with h | h | h
  · obtain ⟨x, xh, far, xf, rl, rh, wl, wh, fl, gg, xg, HX, HXH, HF, HXF, HRL, HRH, HWL, HWH, HFL, HG, HXG, HFN, HGN, c1, c2, c3, c4, c5, c6⟩ := more_facts a0 a1 a2 a3 a4 a5 a6 (by omega) v0 u1 r0 r1 d0 g0 g1 m0
    have l0 := v0; have l1 := v1; have i0 := u0; have i1 := u1
    go_wp2_with fail
    refine (radd_any _ _ r0 r1 d0 d1 _).mono ?_
    rintro e w' ⟨rfl, rfl⟩
    rw [HF.out]
    go_wp2_with fail
    refine (win_is HWL.out l0 l1 r0 r1 g0 g1 t0 t1 m0 m1 _).mono ?_
    rintro e w1 ⟨rfl, k1⟩
    have K1 := Lib.hid k1; clear k1
    go_wp2_with fail
    refine (awakeg_any _).mono ?_
    rintro e w2 ⟨rfl, k2⟩
    have K2 := Lib.hid (K1.out.trans k2); clear k2 K1
    go_wp2_with fail
    refine (bdp_is HX.out l0 l1 r0 r1 g0 g1 _).mono ?_
    rintro e w3 ⟨rfl, k3⟩
    have K3 := Lib.hid (K2.out.trans k3); clear k3 K2
    go_wp2_with fail
    refine (bdp_is HXH.out i0 i1 r0 r1 g0 g1 _).mono ?_
    rintro e w4 ⟨rfl, k4⟩
    have K4 := Lib.hid (K3.out.trans k4); clear k4 K3
    go_wp2_with fail
    refine (bdp_is HX.out l0 l1 r0 r1 g0 g1 _).mono ?_
    rintro e w5 ⟨rfl, k5⟩
    have K5 := Lib.hid (K4.out.trans k5); clear k5 K4
    go_wp2_with fail
    refine (bdp_is HXF.out l0 l1 HFN.out.1 HFN.out.2 g0 g1 _).mono ?_
    rintro e w6 ⟨rfl, k6⟩
    have K6 := Lib.hid (K5.out.trans k6); clear k6 K5
    go_wp2_with fail
    refine (rate_is HRL.out l0 l1 g0 g1 _).mono ?_
    rintro e w7 ⟨rfl, k7⟩
    have K7 := Lib.hid (K6.out.trans k7); clear k7 K6
    go_wp2_with fail
    refine (rate_is HRH.out i0 i1 g0 g1 _).mono ?_
    rintro e wY ⟨rfl, kY⟩
    have KY := Lib.hid (K7.out.trans kY); clear kY K7
    go_wp2_with fail
    refine (rmul_any _ _ (by decide) (by decide) m0 m1 _).mono ?_
    rintro e w' ⟨rfl, rfl⟩
    rw [HFL.out]
    by_cases hr : a2 = 0
    · have hb : (a2 == 0) = true := by simp [hr]
      have KZ := KY
      clear hr KY
      go_wp2_with fail
      refine (bdp_is HX.out l0 l1 r0 r1 g0 g1 _).mono ?_
      rintro e w8 ⟨rfl, k8⟩
      have K8 := Lib.hid (KZ.out.trans k8); clear k8 KZ
      go_wp2_with fail
      refine (radd_any _ _ g0 g1 d0 d1 _).mono ?_
      rintro e w' ⟨rfl, rfl⟩
      rw [HG.out]
      go_wp2_with fail
      refine (bdp_is HXG.out l0 l1 r0 r1 HGN.out.1 HGN.out.2 _).mono ?_
      rintro e w9 ⟨rfl, k9⟩
      have K9 := Lib.hid (K8.out.trans k9); clear k9 K8
      go_wp2
      go_ret
      exact ⟨rfl, K9.out.below (Nat.le_refl _) (fun _ h => h.elim)⟩
    · have hb : (a2 == 0) = false := by simp [hr]
      clear hr
      go_wp2_with fail
      refine (win_is HWH.out i0 i1 r0 r1 g0 g1 t0 t1 m0 m1 _).mono ?_
      rintro e wX ⟨rfl, kX⟩
      have KZ := Lib.hid (KY.out.trans kX); clear kX KY
      go_wp2_with fail
      refine (bdp_is HX.out l0 l1 r0 r1 g0 g1 _).mono ?_
      rintro e w8 ⟨rfl, k8⟩
      have K8 := Lib.hid (KZ.out.trans k8); clear k8 KZ
      go_wp2_with fail
      refine (radd_any _ _ g0 g1 d0 d1 _).mono ?_
      rintro e w' ⟨rfl, rfl⟩
      rw [HG.out]
      go_wp2_with fail
      refine (bdp_is HXG.out l0 l1 r0 r1 HGN.out.1 HGN.out.2 _).mono ?_
      rintro e w9 ⟨rfl, k9⟩
      have K9 := Lib.hid (K8.out.trans k9); clear k9 K8
      go_wp2
      go_ret
      exact ⟨rfl, K9.out.below (Nat.le_refl _) (fun _ h => h.elim)⟩
  · subst h
    obtain ⟨x, xh, far, xf, rl, rh, wl, wh, fl, gg, xg, HX, HXH, HF, HXF, HRL, HRH, HWL, HWH, HFL, HG, HXG, HFN, HGN, c1, c2, c3, c4, c5, c6⟩ := more_facts a0 a0 a2 a3 a4 a5 a6 (by omega) v0 v1 r0 r1 d0 g0 g1 m0
    have l0 := v0; have l1 := v1; have i0 := v0; have i1 := v1
    go_wp2_with fail
    refine (radd_any _ _ r0 r1 d0 d1 _).mono ?_
    rintro e w' ⟨rfl, rfl⟩
    rw [HF.out]
    go_wp2_with fail
    refine (win_is HWL.out l0 l1 r0 r1 g0 g1 t0 t1 m0 m1 _).mono ?_
    rintro e w1 ⟨rfl, k1⟩
    have K1 := Lib.hid k1; clear k1
    go_wp2_with fail
    refine (awakeg_any _).mono ?_
    rintro e w2 ⟨rfl, k2⟩
    have K2 := Lib.hid (K1.out.trans k2); clear k2 K1
    go_wp2_with fail
    refine (bdp_is HX.out l0 l1 r0 r1 g0 g1 _).mono ?_
    rintro e w3 ⟨rfl, k3⟩
    have K3 := Lib.hid (K2.out.trans k3); clear k3 K2
    go_wp2_with fail
    refine (bdp_is HXH.out i0 i1 r0 r1 g0 g1 _).mono ?_
    rintro e w4 ⟨rfl, k4⟩
    have K4 := Lib.hid (K3.out.trans k4); clear k4 K3
    go_wp2_with fail
    refine (bdp_is HX.out l0 l1 r0 r1 g0 g1 _).mono ?_
    rintro e w5 ⟨rfl, k5⟩
    have K5 := Lib.hid (K4.out.trans k5); clear k5 K4
    go_wp2_with fail
    refine (bdp_is HXF.out l0 l1 HFN.out.1 HFN.out.2 g0 g1 _).mono ?_
    rintro e w6 ⟨rfl, k6⟩
    have K6 := Lib.hid (K5.out.trans k6); clear k6 K5
    go_wp2_with fail
    refine (rate_is HRL.out l0 l1 g0 g1 _).mono ?_
    rintro e w7 ⟨rfl, k7⟩
    have K7 := Lib.hid (K6.out.trans k7); clear k7 K6
    go_wp2_with fail
    refine (rate_is HRH.out i0 i1 g0 g1 _).mono ?_
    rintro e wY ⟨rfl, kY⟩
    have KY := Lib.hid (K7.out.trans kY); clear kY K7
    go_wp2_with fail
    refine (rmul_any _ _ (by decide) (by decide) m0 m1 _).mono ?_
    rintro e w' ⟨rfl, rfl⟩
    rw [HFL.out]
    by_cases hr : a2 = 0
    · have hb : (a2 == 0) = true := by simp [hr]
      have KZ := KY
      clear hr KY
      go_wp2_with fail
      refine (bdp_is HX.out l0 l1 r0 r1 g0 g1 _).mono ?_
      rintro e w8 ⟨rfl, k8⟩
      have K8 := Lib.hid (KZ.out.trans k8); clear k8 KZ
      go_wp2_with fail
      refine (radd_any _ _ g0 g1 d0 d1 _).mono ?_
      rintro e w' ⟨rfl, rfl⟩
      rw [HG.out]
      go_wp2_with fail
      refine (bdp_is HXG.out l0 l1 r0 r1 HGN.out.1 HGN.out.2 _).mono ?_
      rintro e w9 ⟨rfl, k9⟩
      have K9 := Lib.hid (K8.out.trans k9); clear k9 K8
      go_wp2
      go_ret
      exact ⟨rfl, K9.out.below (Nat.le_refl _) (fun _ h => h.elim)⟩
    · have hb : (a2 == 0) = false := by simp [hr]
      clear hr
      go_wp2_with fail
      refine (win_is HWH.out i0 i1 r0 r1 g0 g1 t0 t1 m0 m1 _).mono ?_
      rintro e wX ⟨rfl, kX⟩
      have KZ := Lib.hid (KY.out.trans kX); clear kX KY
      go_wp2_with fail
      refine (bdp_is HX.out l0 l1 r0 r1 g0 g1 _).mono ?_
      rintro e w8 ⟨rfl, k8⟩
      have K8 := Lib.hid (KZ.out.trans k8); clear k8 KZ
      go_wp2_with fail
      refine (radd_any _ _ g0 g1 d0 d1 _).mono ?_
      rintro e w' ⟨rfl, rfl⟩
      rw [HG.out]
      go_wp2_with fail
      refine (bdp_is HXG.out l0 l1 r0 r1 HGN.out.1 HGN.out.2 _).mono ?_
      rintro e w9 ⟨rfl, k9⟩
      have K9 := Lib.hid (K8.out.trans k9); clear k9 K8
      go_wp2
      go_ret
      exact ⟨rfl, K9.out.below (Nat.le_refl _) (fun _ h => h.elim)⟩
  · obtain ⟨x, xh, far, xf, rl, rh, wl, wh, fl, gg, xg, HX, HXH, HF, HXF, HRL, HRH, HWL, HWH, HFL, HG, HXG, HFN, HGN, c1, c2, c3, c4, c5, c6⟩ := more_facts a1 a0 a2 a3 a4 a5 a6 (by omega) u0 v1 r0 r1 d0 g0 g1 m0
    have l0 := u0; have l1 := u1; have i0 := v0; have i1 := v1
    go_wp2_with fail
    refine (radd_any _ _ r0 r1 d0 d1 _).mono ?_
    rintro e w' ⟨rfl, rfl⟩
    rw [HF.out]
    go_wp2_with fail
    refine (win_is HWL.out l0 l1 r0 r1 g0 g1 t0 t1 m0 m1 _).mono ?_
    rintro e w1 ⟨rfl, k1⟩
    have K1 := Lib.hid k1; clear k1
    go_wp2_with fail
    refine (awakeg_any _).mono ?_
    rintro e w2 ⟨rfl, k2⟩
    have K2 := Lib.hid (K1.out.trans k2); clear k2 K1
    go_wp2_with fail
    refine (bdp_is HX.out l0 l1 r0 r1 g0 g1 _).mono ?_
    rintro e w3 ⟨rfl, k3⟩
    have K3 := Lib.hid (K2.out.trans k3); clear k3 K2
    go_wp2_with fail
    refine (bdp_is HXH.out i0 i1 r0 r1 g0 g1 _).mono ?_
    rintro e w4 ⟨rfl, k4⟩
    have K4 := Lib.hid (K3.out.trans k4); clear k4 K3
    go_wp2_with fail
    refine (bdp_is HX.out l0 l1 r0 r1 g0 g1 _).mono ?_
    rintro e w5 ⟨rfl, k5⟩
    have K5 := Lib.hid (K4.out.trans k5); clear k5 K4
    go_wp2_with fail
    refine (bdp_is HXF.out l0 l1 HFN.out.1 HFN.out.2 g0 g1 _).mono ?_
    rintro e w6 ⟨rfl, k6⟩
    have K6 := Lib.hid (K5.out.trans k6); clear k6 K5
    go_wp2_with fail
    refine (rate_is HRL.out l0 l1 g0 g1 _).mono ?_
    rintro e w7 ⟨rfl, k7⟩
    have K7 := Lib.hid (K6.out.trans k7); clear k7 K6
    go_wp2_with fail
    refine (rate_is HRH.out i0 i1 g0 g1 _).mono ?_
    rintro e wY ⟨rfl, kY⟩
    have KY := Lib.hid (K7.out.trans kY); clear kY K7
    go_wp2_with fail
    refine (rmul_any _ _ (by decide) (by decide) m0 m1 _).mono ?_
    rintro e w' ⟨rfl, rfl⟩
    rw [HFL.out]
    by_cases hr : a2 = 0
    · have hb : (a2 == 0) = true := by simp [hr]
      have KZ := KY
      clear hr KY
      go_wp2_with fail
      refine (bdp_is HX.out l0 l1 r0 r1 g0 g1 _).mono ?_
      rintro e w8 ⟨rfl, k8⟩
      have K8 := Lib.hid (KZ.out.trans k8); clear k8 KZ
      go_wp2_with fail
      refine (radd_any _ _ g0 g1 d0 d1 _).mono ?_
      rintro e w' ⟨rfl, rfl⟩
      rw [HG.out]
      go_wp2_with fail
      refine (bdp_is HXG.out l0 l1 r0 r1 HGN.out.1 HGN.out.2 _).mono ?_
      rintro e w9 ⟨rfl, k9⟩
      have K9 := Lib.hid (K8.out.trans k9); clear k9 K8
      go_wp2
      go_ret
      exact ⟨rfl, K9.out.below (Nat.le_refl _) (fun _ h => h.elim)⟩
    · have hb : (a2 == 0) = false := by simp [hr]
      clear hr
      go_wp2_with fail
      refine (win_is HWH.out i0 i1 r0 r1 g0 g1 t0 t1 m0 m1 _).mono ?_
      rintro e wX ⟨rfl, kX⟩
      have KZ := Lib.hid (KY.out.trans kX); clear kX KY
      go_wp2_with fail
      refine (bdp_is HX.out l0 l1 r0 r1 g0 g1 _).mono ?_
      rintro e w8 ⟨rfl, k8⟩
      have K8 := Lib.hid (KZ.out.trans k8); clear k8 KZ
      go_wp2_with fail
      refine (radd_any _ _ g0 g1 d0 d1 _).mono ?_
      rintro e w' ⟨rfl, rfl⟩
      rw [HG.out]
      go_wp2_with fail
      refine (bdp_is HXG.out l0 l1 r0 r1 HGN.out.1 HGN.out.2 _).mono ?_
      rintro e w9 ⟨rfl, k9⟩
      have K9 := Lib.hid (K8.out.trans k9); clear k9 K8
      go_wp2
      go_ret
      exact ⟨rfl, K9.out.below (Nat.le_refl _) (fun _ h => h.elim)⟩

set_option maxRecDepth 100000 in
theorem lifted (os : Os) (started : os.Started) (H : Type) (enc : TypeId × Value → H) :
    ReturnsInHanded {} Try.checked os 4 .any (Rows.targetMoreSpec.pre6 enc Try.prog Try.f4 Rows.targetMoreRow.domain false) (Rows.targetMoreSpec.post enc Try.prog Try.f4 false true false false) := by
  refine returnsInHanded_of_change (C := Try.checked) own started (by kernel_rfl) Try.func4
    (ChangeSpec.witness6 (enc := enc) (C := Try.checked) false ⟨#[], #[.int .u64 0, .int .u64 0, .int .u64 0, .int .u64 0, .int .u64 0, .int .u64 0, .int .u64 0], []⟩ 8 (by kernel_rfl) (by kernel_rfl) (by kernel_rfl) (by kernel_rfl)) ?_
  intro W base args ds gs before hval0 hW hcnd _
  have hval : ∀ (j : Nat) t v, Try.f4.params[j]? = some t → args[j]? = some v → Value.okWide Try.prog W .any base t v := hval0
  have hW' := hW
  obtain ⟨p, q, hA0, hV, rfl, hfz, hnd⟩ := hW
  have hA : DataW.TrodAll enc Try.prog W 0 (fun _ => true) true Try.f4.params.toList args.toList ds p := hA0
  rw [Try.params4] at hA hval
  obtain ⟨v0, vs0, d0, ds0, p0, q0, hargs, rfl, rfl, h0, r0⟩ := trodAll_cons hA
  obtain ⟨v1, vs1, d1, ds1, p1, q1, rfl, rfl, rfl, h1, r1⟩ := trodAll_cons r0
  obtain ⟨v2, vs2, d2, ds2, p2, q2, rfl, rfl, rfl, h2, r2⟩ := trodAll_cons r1
  obtain ⟨v3, vs3, d3, ds3, p3, q3, rfl, rfl, rfl, h3, r3⟩ := trodAll_cons r2
  obtain ⟨v4, vs4, d4, ds4, p4, q4, rfl, rfl, rfl, h4, r4⟩ := trodAll_cons r3
  obtain ⟨v5, vs5, d5, ds5, p5, q5, rfl, rfl, rfl, h5, r5⟩ := trodAll_cons r4
  obtain ⟨v6, vs6, d6, ds6, p6, q6, rfl, rfl, rfl, h6, r6⟩ := trodAll_cons r5
  obtain ⟨rfl, rfl, rfl⟩ := trodAll_nil r6
  obtain rfl : args = #[v0, v1, v2, v3, v4, v5, v6] := by cases args; simp_all
  obtain ⟨rfl, rfl⟩ := trodVars_none hV
  obtain ⟨a0, rfl, rfl, rfl, w0⟩ := open_int Try.underlying22 (hval 0 22 v0 rfl rfl) h0
  obtain ⟨a1, rfl, rfl, rfl, w1⟩ := open_int Try.underlying22 (hval 1 22 v1 rfl rfl) h1
  obtain ⟨a2, rfl, rfl, rfl, w2⟩ := open_int Try.underlying22 (hval 2 22 v2 rfl rfl) h2
  obtain ⟨a3, rfl, rfl, rfl, w3⟩ := open_int Try.underlying22 (hval 3 22 v3 rfl rfl) h3
  obtain ⟨a4, rfl, rfl, rfl, w4⟩ := open_int Try.underlying22 (hval 4 22 v4 rfl rfl) h4
  obtain ⟨a5, rfl, rfl, rfl, w5⟩ := open_int Try.underlying22 (hval 5 22 v5 rfl rfl) h5
  obtain ⟨a6, rfl, rfl, rfl, w6⟩ := open_int Try.underlying22 (hval 6 22 v6 rfl rfl) h6
  clear hA0 hval0
  simp only [List.append_nil] at hW'
  refine (walk a0 a1 a2 a3 a4 a5 a6 w0 w1 w2 w3 w4 w5 w6 W).mono fun e W' ⟨he, hg⟩ => ?_
  subst he
  exact ⟨_, rfl, _, _, _, [], _, [], hW', trodAll_mk1 (shut_bool Try.underlying4 _), (trodAll_cons_mk (shut_int Try.underlying22 w0) (trodAll_cons_mk (shut_int Try.underlying22 w1) (trodAll_cons_mk (shut_int Try.underlying22 w2) (trodAll_cons_mk (shut_int Try.underlying22 w3) (trodAll_cons_mk (shut_int Try.underlying22 w4) (trodAll_cons_mk (shut_int Try.underlying22 w5) (trodAll_cons_mk (shut_int Try.underlying22 w6) trodAll_mk0))))))), rfl, hg.frame _, fun h => by cases h⟩

theorem over : Rows.targetMoreRow.holds Try.pinned (OpenSpec.ofChange Rows.targetMoreSpec) :=
  OpenClaim.holds_of_wide 4 Try.f4 rfl rfl rfl rfl rfl rfl rfl ⟨rfl, rfl, rfl, rfl, rfl⟩ rfl rfl rfl rfl rfl (by kernel_rfl) Try.func4 (by kernel_rfl)
    (of_decide_eq_true (by kernel_rfl)) (by unfold Func.isWrapper; first | (rw [if_pos (by decide +kernel)]; kernel_rfl) | (rw [if_neg (by decide +kernel)]; exact ⟨rfl, rfl⟩))
    (fun os started H enc _ => lifted os started H enc)

theorem proved : Rows.TargetMoreSaid :=
  over
end Go.Proofs.Ytpnhkpbganmodaa.targetMore
namespace Go.Proofs.Ytpnhkpbganmodaa
theorem targetMore_holds : Rows.TargetMoreSaid := targetMore.proved
#print axioms targetMore_holds
end Go.Proofs.Ytpnhkpbganmodaa
