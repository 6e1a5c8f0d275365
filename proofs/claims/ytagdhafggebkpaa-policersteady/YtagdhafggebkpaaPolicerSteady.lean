/-
  Proved: canterlaw16.PolicerSteady answers true at every three numbers, and leaves its arguments as they were. Conditions: none.
-/
import Derived.Test.YtagdhafggebkpaaRows
import Derived.WalkKit
import Derived.ProofKit
import Derived.OpenShut
import Derived.ShutString
import Derived.Test.YtagdhafggebkpaaAwakeQ
import Derived.OwnWalk
namespace Go.Proofs.Ytagdhafggebkpaa.policerSteady
open Go.ChangeShapes Go.WideShapes Go.ChangeAt Go.RowKit
open Go.ChangeMaps (open_string shut_string)
set_option linter.unusedVariables false

theorem own : ownKnob Try.prog.godebug = none := by kernel_rfl



set_option maxHeartbeats 4000000 in
set_option maxRecDepth 100000 in
theorem walk (a0 : Int) (a1 : Int) (a2 : Int) (w0 : (Lit.int .u64 a0).wf = true) (w1 : (Lit.int .u64 a1).wf = true) (w2 : (Lit.int .i64 a2).wf = true) (w : World) :
    Calls Try.prog 4 #[.int .u64 a0, .int .u64 a1, .int .i64 a2] w fun e w' => e = .returned (.bool true) ∧ Below w.heap.size w w' := by
  obtain ⟨v0, v1⟩ := bounds_u64 w0
  obtain ⟨f0, f1⟩ := bounds_u64 w1
  clear w0 w1 w2
  obtain ⟨u, hu⟩ : ∃ u : Nat, IntKind.u64.wrap a2 = (u : Int) := ⟨(IntKind.u64.wrap a2).toNat, by rw [IntKind.wrap_u64]; omega⟩
  obtain ⟨n, hn⟩ : ∃ n : Nat, (u : Int) % 60 = (n : Int) := ⟨u % 60, by omega⟩
  have hn1 : n < 60 := by omega
  have hz : ((1000 + a0 % 1000000) / 10 == 0) = false := by simp; omega
  go_enter Try.func4, Try.ntmps4
  go_wp2_with fail
  obtain ⟨b, hb⟩ : ∃ b, 1000 + a0 % 1000000 = b := ⟨_, rfl⟩
  rw [hb]
  obtain ⟨f, hf⟩ : ∃ f, a1 % (b / 10) = f := ⟨_, rfl⟩
  rw [hf]
  obtain ⟨h, hh⟩ : ∃ h, b / 2 = h := ⟨_, rfl⟩
  rw [hh]
  have hb0 : 1000 ≤ b := by omega
  have hb1 : b ≤ 2000000 := by omega
  have hf0 : 0 ≤ f := by rw [← hf]; exact Int.emod_nonneg _ (by omega)
  have hf1 : f < b / 10 := by rw [← hf]; exact Int.emod_lt_of_pos _ (by omega)
  have HN : Hid (n ≤ 100) := Lib.hid (by omega)
  have HB0 : Hid (0 ≤ b) := Lib.hid (by omega)
  have HB1 : Hid (b ≤ 2000000) := Lib.hid hb1
  have HF0 : Hid (0 ≤ f) := Lib.hid hf0
  have HF1 : Hid (f ≤ 2000000) := Lib.hid (by omega)
  have HH0 : Hid (0 ≤ h) := Lib.hid (by omega)
  have HH1 : Hid (h ≤ 2000000) := Lib.hid (by omega)
  have HMM := Lib.hid (std_many hb0 hb1 hh.symm n (by omega))
  have hO := std_none b n
  have hW := std_few hf0 hf1 hb0 hb1 n (by omega)
  have HO : Hid (useV (stdPol b 0 n) = 0 ∧ (stdPol b 0 n).u = false) := Lib.hid ⟨by unfold useV; rw [hO.1]; rfl, hO.1⟩
  have HW : Hid (useV (stdPol b f n) = 0 ∧ (stdPol b f n).u = false) := Lib.hid ⟨by unfold useV; rw [hW.u]; rfl, hW.u⟩
  clear hb hf hh hz hn hu v0 v1 f0 f1 hb0 hb1 hf0 hf1 hO hW
  refine (steady_is HMM.out HN.out HB0.out HB1.out HH0.out HH1.out _).mono ?_
  rintro e w1 ⟨rfl, h1, k1⟩
  have H1 := Lib.hid h1; have K1 := Lib.hid k1; clear h1 k1
  have hbb : (b == b) = true := by simp
  by_cases h9 : 9 ≤ n
  · have q9 : 9 ≤ (n : Int) := by omega
    by_cases h57 : n < 57
    · have q57 : (n : Int) < 57 := by omega
      have HM : Hid (useV (manyAt b h n) = b ∧ (manyAt b h n).u = true) := Lib.hid (by
        obtain ⟨e1, e2⟩ := many_in (bw := b) (h := h) h9 h57
        exact ⟨by unfold useV; rw [e1, if_pos rfl, e2], e1⟩)
      go_wp2_with fail
      refine (poluse_is HM.out _ _ H1.out).mono ?_
      rintro e w' ⟨rfl, rfl⟩
      clear H1
      go_wp2_with fail
      refine (steady_is (n := n) (bw := b) (lost := 0) rfl HN.out HB0.out HB1.out (by decide) (by decide) _).mono ?_
      rintro e w2 ⟨rfl, h2, k2⟩
      have H2 := Lib.hid h2; have K2 := Lib.hid (K1.out.trans k2); clear h2 k2 K1
      go_wp2_with fail
      refine (poluse_is HO.out _ _ H2.out).mono ?_
      rintro e w' ⟨rfl, rfl⟩
      clear H2
      go_wp2_with fail
      refine (steady_is (n := n) (bw := b) (lost := f) rfl HN.out HB0.out HB1.out HF0.out HF1.out _).mono ?_
      rintro e w3 ⟨rfl, h3, k3⟩
      have H3 := Lib.hid h3; have K3 := Lib.hid (K2.out.trans k3); clear h3 k3 K2
      go_wp2_with fail
      refine (poluse_is HW.out _ _ H3.out).mono ?_
      rintro e w' ⟨rfl, rfl⟩
      clear H3
      go_wp2_with fail
      refine (polupd_nil true ⟨0, 0, 0, 0, 0, 0, 1, 0, false⟩ _).mono ?_
      rintro e w4 ⟨⟨_, rfl⟩, k4⟩
      have K4 := Lib.hid (K3.out.trans k4); clear k4 K3
      go_wp2_with fail
      refine (poluse_nil _).mono ?_
      rintro e w' ⟨rfl, rfl⟩
      go_wp2_with fail
      refine (awakeq_any _).mono ?_
      rintro e w5 ⟨rfl, k5⟩
      have K5 := Lib.hid (K4.out.trans k5); clear k5 K4
      go_wp2
      go_ret
      exact ⟨rfl, K5.out.below (Nat.le_refl _) (fun _ h => h.elim)⟩
    · have q57 : ¬ (n : Int) < 57 := by omega
      have d57 : decide ((n : Int) < 57) = false := by simp; omega
      have HM : Hid (useV (manyAt b h n) = 0 ∧ (manyAt b h n).u = false) := Lib.hid (by
        have e1 := many_out (bw := b) (h := h) (k := n) (.inr (by omega))
        exact ⟨by unfold useV; rw [e1]; rfl, e1⟩)
      go_wp2_with fail
      refine (poluse_is HM.out _ _ H1.out).mono ?_
      rintro e w' ⟨rfl, rfl⟩
      clear H1
      go_wp2_with fail
      refine (steady_is (n := n) (bw := b) (lost := 0) rfl HN.out HB0.out HB1.out (by decide) (by decide) _).mono ?_
      rintro e w2 ⟨rfl, h2, k2⟩
      have H2 := Lib.hid h2; have K2 := Lib.hid (K1.out.trans k2); clear h2 k2 K1
      go_wp2_with fail
      refine (poluse_is HO.out _ _ H2.out).mono ?_
      rintro e w' ⟨rfl, rfl⟩
      clear H2
      go_wp2_with fail
      refine (steady_is (n := n) (bw := b) (lost := f) rfl HN.out HB0.out HB1.out HF0.out HF1.out _).mono ?_
      rintro e w3 ⟨rfl, h3, k3⟩
      have H3 := Lib.hid h3; have K3 := Lib.hid (K2.out.trans k3); clear h3 k3 K2
      go_wp2_with fail
      refine (poluse_is HW.out _ _ H3.out).mono ?_
      rintro e w' ⟨rfl, rfl⟩
      clear H3
      go_wp2_with fail
      refine (polupd_nil true ⟨0, 0, 0, 0, 0, 0, 1, 0, false⟩ _).mono ?_
      rintro e w4 ⟨⟨_, rfl⟩, k4⟩
      have K4 := Lib.hid (K3.out.trans k4); clear k4 K3
      go_wp2_with fail
      refine (poluse_nil _).mono ?_
      rintro e w' ⟨rfl, rfl⟩
      go_wp2_with fail
      refine (awakeq_any _).mono ?_
      rintro e w5 ⟨rfl, k5⟩
      have K5 := Lib.hid (K4.out.trans k5); clear k5 K4
      go_wp2
      go_ret
      exact ⟨rfl, K5.out.below (Nat.le_refl _) (fun _ h => h.elim)⟩
  · have q9 : ¬ 9 ≤ (n : Int) := by omega
    have HM : Hid (useV (manyAt b h n) = 0 ∧ (manyAt b h n).u = false) := Lib.hid (by
      have e1 := many_out (bw := b) (h := h) (k := n) (.inl (by omega))
      exact ⟨by unfold useV; rw [e1]; rfl, e1⟩)
    go_wp2_with fail
    refine (poluse_is HM.out _ _ H1.out).mono ?_
    rintro e w' ⟨rfl, rfl⟩
    clear H1
    go_wp2_with fail
    refine (steady_is (n := n) (bw := b) (lost := 0) rfl HN.out HB0.out HB1.out (by decide) (by decide) _).mono ?_
    rintro e w2 ⟨rfl, h2, k2⟩
    have H2 := Lib.hid h2; have K2 := Lib.hid (K1.out.trans k2); clear h2 k2 K1
    go_wp2_with fail
    refine (poluse_is HO.out _ _ H2.out).mono ?_
    rintro e w' ⟨rfl, rfl⟩
    clear H2
    go_wp2_with fail
    refine (steady_is (n := n) (bw := b) (lost := f) rfl HN.out HB0.out HB1.out HF0.out HF1.out _).mono ?_
    rintro e w3 ⟨rfl, h3, k3⟩
    have H3 := Lib.hid h3; have K3 := Lib.hid (K2.out.trans k3); clear h3 k3 K2
    go_wp2_with fail
    refine (poluse_is HW.out _ _ H3.out).mono ?_
    rintro e w' ⟨rfl, rfl⟩
    clear H3
    go_wp2_with fail
    refine (polupd_nil true ⟨0, 0, 0, 0, 0, 0, 1, 0, false⟩ _).mono ?_
    rintro e w4 ⟨⟨_, rfl⟩, k4⟩
    have K4 := Lib.hid (K3.out.trans k4); clear k4 K3
    go_wp2_with fail
    refine (poluse_nil _).mono ?_
    rintro e w' ⟨rfl, rfl⟩
    go_wp2_with fail
    refine (awakeq_any _).mono ?_
    rintro e w5 ⟨rfl, k5⟩
    have K5 := Lib.hid (K4.out.trans k5); clear k5 K4
    go_wp2
    go_ret
    exact ⟨rfl, K5.out.below (Nat.le_refl _) (fun _ h => h.elim)⟩

set_option maxRecDepth 100000 in
theorem lifted (os : Os) (started : os.Started) (H : Type) (enc : TypeId × Value → H) :
    ReturnsInHanded {} Try.checked os 4 .any (Rows.policerSteadySpec.pre6 enc Try.prog Try.f4 Rows.policerSteadyRow.domain false) (Rows.policerSteadySpec.post enc Try.prog Try.f4 false true false false) := by
  refine returnsInHanded_of_change (C := Try.checked) own started (by kernel_rfl) Try.func4
    (ChangeSpec.witness6 (enc := enc) (C := Try.checked) false ⟨#[], #[.int .u64 0, .int .u64 0, .int .i64 0], []⟩ 8 (by kernel_rfl) (by kernel_rfl) (by kernel_rfl) (by kernel_rfl)) ?_
  intro W base args ds gs before hval0 hW hcnd _
  have hval : ∀ (j : Nat) t v, Try.f4.params[j]? = some t → args[j]? = some v → Value.okWide Try.prog W .any base t v := hval0
  have hW' := hW
  obtain ⟨p, q, hA0, hV, rfl, hfz, hnd⟩ := hW
  have hA : DataW.TrodAll enc Try.prog W 0 (fun _ => true) true Try.f4.params.toList args.toList ds p := hA0
  rw [Try.params4] at hA hval
  obtain ⟨v0, vs0, d0, ds0, p0, q0, hargs, rfl, rfl, h0, r0⟩ := trodAll_cons hA
  obtain ⟨v1, vs1, d1, ds1, p1, q1, rfl, rfl, rfl, h1, r1⟩ := trodAll_cons r0
  obtain ⟨v2, vs2, d2, ds2, p2, q2, rfl, rfl, rfl, h2, r2⟩ := trodAll_cons r1
  obtain ⟨rfl, rfl, rfl⟩ := trodAll_nil r2
  obtain rfl : args = #[v0, v1, v2] := by cases args; simp_all
  obtain ⟨rfl, rfl⟩ := trodVars_none hV
  obtain ⟨a0, rfl, rfl, rfl, w0⟩ := open_int Try.underlying26 (hval 0 26 v0 rfl rfl) h0
  obtain ⟨a1, rfl, rfl, rfl, w1⟩ := open_int Try.underlying26 (hval 1 26 v1 rfl rfl) h1
  obtain ⟨a2, rfl, rfl, rfl, w2⟩ := open_int Try.underlying3 (hval 2 3 v2 rfl rfl) h2
  clear hA0 hval0
  simp only [List.append_nil] at hW'
  refine (walk a0 a1 a2 w0 w1 w2 W).mono fun e W' ⟨he, hg⟩ => ?_
  subst he
  exact ⟨_, rfl, _, _, _, [], _, [], hW', trodAll_mk1 (shut_bool Try.underlying4 _), (trodAll_cons_mk (shut_int Try.underlying26 w0) (trodAll_cons_mk (shut_int Try.underlying26 w1) (trodAll_cons_mk (shut_int Try.underlying3 w2) trodAll_mk0))), rfl, hg.frame _, fun h => by cases h⟩

theorem over : Rows.policerSteadyRow.holds Try.pinned (OpenSpec.ofChange Rows.policerSteadySpec) :=
  OpenClaim.holds_of_wide 4 Try.f4 rfl rfl rfl rfl rfl rfl rfl ⟨rfl, rfl, rfl, rfl, rfl⟩ rfl rfl rfl rfl rfl (by kernel_rfl) Try.func4 (by kernel_rfl)
    (of_decide_eq_true (by kernel_rfl)) (by unfold Func.isWrapper; first | (rw [if_pos (by decide +kernel)]; kernel_rfl) | (rw [if_neg (by decide +kernel)]; exact ⟨rfl, rfl⟩))
    (fun os started H enc _ => lifted os started H enc)

theorem proved : Rows.PolicerSteadySaid :=
  over
end Go.Proofs.Ytagdhafggebkpaa.policerSteady
namespace Go.Proofs.Ytagdhafggebkpaa
theorem policerSteady_holds : Rows.PolicerSteadySaid := policerSteady.proved
#print axioms policerSteady_holds
end Go.Proofs.Ytagdhafggebkpaa
