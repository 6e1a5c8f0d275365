/-
  Proved: canterlaw17.BbrNil answers true at every number, and leaves its argument as it was. Conditions: none.
-/
import Derived.Test.YtbimmadllfgmiaaRows
import Derived.WalkKit
import Derived.ProofKit
import Derived.OpenShut
import Derived.ShutString
import Derived.Test.YtbimmadllfgmiaaAwakeM
import Derived.Test.YtbimmadllfgmiaaRefTgt
import Derived.OwnWalk
namespace Go.Proofs.Ytbimmadllfgmiaa.bbrNil
open Go.ChangeShapes Go.WideShapes Go.ChangeAt Go.RowKit
open Go.ChangeMaps (open_string shut_string)
set_option linter.unusedVariables false

theorem own : ownKnob Try.prog.godebug = none := by kernel_rfl



set_option maxHeartbeats 4000000 in
set_option maxRecDepth 100000 in
theorem walk (a0 : Int) (w0 : (Lit.int .u64 a0).wf = true) (w : World) :
    Calls Try.prog 6 #[.int .u64 a0] w fun e w' => e = .returned (.bool true) ∧ Below w.heap.size w w' := by
  obtain ⟨v0, v1⟩ := bounds_u64 w0
  clear w0
  obtain ⟨h, hh⟩ : ∃ h, clampS a0 = h := ⟨_, rfl⟩
  have hb : 100 ≤ h ∧ h ≤ 9000 := hh ▸ clampS_bd
  obtain ⟨R, hR⟩ : ∃ R, rateV (10 * h * 1000) 739 = R := ⟨_, rfl⟩
  have HST : Hid (staC (newM h) = #[.int .i64 0, .int .i64 0, .int .u64 R, .int .u64 (10 * h), .int .u64 0, .int .u64 0, .int .u64 739, .int .u64 0, .bool false, .bool false]) := Lib.hid (by
    rw [← hR, show 10 * h * 1000 = 1000 * (10 * h) by omega]; rfl)
  have HR := Lib.hid hR
  clear hR
  go_enter Try.func6, Try.ntmps6
  go_wp2_with fail
  refine (modnew_any a0 _ ⟨v0, v1⟩).mono ?_
  rintro e w1 ⟨g, rfl, hl, h1, k1⟩
  rw [hh] at h1
  have H1 := Lib.hid h1; have K1 := Lib.hid k1; clear h1 k1 hl
  go_upto_region 3 with fail
  go_cut [5] (fun s5 wx => s5 = .int .u64 h ∧ wx = w1)
  case first =>
    by_cases h1 : a0 < 100
    · have HH : Hid (h = 100) := Lib.hid (by rw [← hh]; simp [clampS, h1])
      have hn : ¬ 9000 < a0 := by omega
      have hn2 : a0 < 9000 := by omega
      have hn3 : ¬ 100 < a0 := by omega
      clear hh hb
      go_wp2
      go_meet
      exact ⟨by rw [HH.out], rfl⟩
    · by_cases h2 : a0 = 100
      · have HH : Hid (h = 100) := Lib.hid (by rw [← hh, h2]; decide)
        subst h2
        clear hh hb h1
        go_wp2
        go_meet
        exact ⟨by rw [HH.out], rfl⟩
      · have h3 : 100 < a0 := by omega
        rcases Int.lt_trichotomy a0 9000 with hl | hl | hl
        · have HH : Hid (h = a0) := Lib.hid (by rw [← hh]; unfold clampS; rw [if_neg h1, if_neg (by omega)])
          have hn : ¬ 9000 < a0 := by omega
          clear hh hb h2
          go_wp2
          go_meet
          exact ⟨by rw [HH.out], rfl⟩
        · have HH : Hid (h = 9000) := Lib.hid (by rw [← hh, hl]; decide)
          subst hl
          clear hh hb h1 h2 h3
          go_wp2
          go_meet
          exact ⟨by rw [HH.out], rfl⟩
        · have HH : Hid (h = 9000) := Lib.hid (by rw [← hh]; unfold clampS; rw [if_neg h1, if_pos hl])
          have hn : ¬ a0 < 9000 := by omega
          clear hh hb h2
          go_wp2
          go_meet
          exact ⟨by rw [HH.out], rfl⟩
  case rest =>
  obtain ⟨rfl, rfl⟩ := hcut
  have hw1 : IntKind.u64.wrap (10 * h) = 10 * h := by rw [IntKind.wrap_u64]; omega
  have hw2 : IntKind.u64.wrap (10 * h * 1000) = 10 * h * 1000 := by rw [IntKind.wrap_u64]; omega
  have HRN : Hid (0 ≤ 10 * h * 1000 ∧ 10 * h * 1000 ≤ 18446744073709551615) := Lib.hid ⟨by omega, by omega⟩
  have hf0 := Try.fieldM0
  have hf2 := Try.fieldM2
  have hf3 := Try.fieldM3
  clear hh hb
  go_wp2_with fail
  refine (awakem_any _).mono ?_
  rintro e w3 ⟨rfl, k3⟩
  have H3 := Lib.hid (H1.out.keep k3 id); have K3 := Lib.hid (K1.out.trans k3); clear k3 H1 K1
  go_wp2_with fail
  refine (state_nil _).mono ?_
  rintro e w4 ⟨rfl, k4⟩
  have H4 := Lib.hid (H3.out.keep k4 id); have K4 := Lib.hid (K3.out.trans k4); clear k4 H3 K3
  go_wp2_with fail
  refine (update_nil ⟨0, 0, 0, 0, 0, 1, 0, 0, false⟩ 1 _).mono ?_
  rintro e w5 ⟨rfl, k5⟩
  have H5 := Lib.hid (H4.out.keep k5 id); have K5 := Lib.hid (K4.out.trans k5); clear k5 H4 K4
  go_wp2_with fail
  refine (modsta_is HST.out _ _ H5.out).mono ?_
  rintro e w6 ⟨rfl, k6⟩
  have H6 := Lib.hid (H5.out.keep k6 id); have K6 := Lib.hid (K5.out.trans k6); clear k6 H5 K5
  have H5 := H6; have K5 := K6; clear H6 K6
  go_wp2_with fail
  refine (modsta_is HST.out _ _ H5.out).mono ?_
  rintro e w6 ⟨rfl, k6⟩
  have H6 := Lib.hid (H5.out.keep k6 id); have K6 := Lib.hid (K5.out.trans k6); clear k6 H5 K5
  have H5 := H6; have K5 := K6; clear H6 K6
  go_wp2_with fail
  refine (modsta_is HST.out _ _ H5.out).mono ?_
  rintro e w6 ⟨rfl, k6⟩
  have H6 := Lib.hid (H5.out.keep k6 id); have K6 := Lib.hid (K5.out.trans k6); clear k6 H5 K5
  have H5 := H6; have K5 := K6; clear H6 K6
  go_wp2_with fail
  refine (rrate_any _ _ HRN.out.1 HRN.out.2 (by decide) (by decide) _).mono ?_
  rintro e w' ⟨rfl, rfl⟩
  rw [HR.out]
  go_wp2
  go_ret
  exact ⟨rfl, K5.out.below (Nat.le_refl _) (fun _ h => h.elim)⟩

set_option maxRecDepth 100000 in
theorem lifted (os : Os) (started : os.Started) (H : Type) (enc : TypeId × Value → H) :
    ReturnsInHanded {} Try.checked os 6 .any (Rows.bbrNilSpec.pre6 enc Try.prog Try.f6 Rows.bbrNilRow.domain false) (Rows.bbrNilSpec.post enc Try.prog Try.f6 false true false false) := by
  refine returnsInHanded_of_change (C := Try.checked) own started (by kernel_rfl) Try.func6
    (ChangeSpec.witness6 (enc := enc) (C := Try.checked) false ⟨#[], #[.int .u64 0], []⟩ 8 (by kernel_rfl) (by kernel_rfl) (by kernel_rfl) (by kernel_rfl)) ?_
  intro W base args ds gs before hval0 hW hcnd _
  have hval : ∀ (j : Nat) t v, Try.f6.params[j]? = some t → args[j]? = some v → Value.okWide Try.prog W .any base t v := hval0
  have hW' := hW
  obtain ⟨p, q, hA0, hV, rfl, hfz, hnd⟩ := hW
  have hA : DataW.TrodAll enc Try.prog W 0 (fun _ => true) true Try.f6.params.toList args.toList ds p := hA0
  rw [Try.params6] at hA hval
  obtain ⟨v0, vs0, d0, ds0, p0, q0, hargs, rfl, rfl, h0, r0⟩ := trodAll_cons hA
  obtain ⟨rfl, rfl, rfl⟩ := trodAll_nil r0
  obtain rfl : args = #[v0] := by cases args; simp_all
  obtain ⟨rfl, rfl⟩ := trodVars_none hV
  obtain ⟨a0, rfl, rfl, rfl, w0⟩ := open_int Try.underlying22 (hval 0 22 v0 rfl rfl) h0
  clear hA0 hval0
  simp only [List.append_nil] at hW'
  refine (walk a0 w0 W).mono fun e W' ⟨he, hg⟩ => ?_
  subst he
  exact ⟨_, rfl, _, _, _, [], _, [], hW', trodAll_mk1 (shut_bool Try.underlying4 _), (trodAll_cons_mk (shut_int Try.underlying22 w0) trodAll_mk0), rfl, hg.frame _, fun h => by cases h⟩

theorem over : Rows.bbrNilRow.holds Try.pinned (OpenSpec.ofChange Rows.bbrNilSpec) :=
  OpenClaim.holds_of_wide 6 Try.f6 rfl rfl rfl rfl rfl rfl rfl ⟨rfl, rfl, rfl, rfl, rfl⟩ rfl rfl rfl rfl rfl (by kernel_rfl) Try.func6 (by kernel_rfl)
    (of_decide_eq_true (by kernel_rfl)) (by unfold Func.isWrapper; first | (rw [if_pos (by decide +kernel)]; kernel_rfl) | (rw [if_neg (by decide +kernel)]; exact ⟨rfl, rfl⟩))
    (fun os started H enc _ => lifted os started H enc)

theorem proved : Rows.BbrNilSaid :=
  over
end Go.Proofs.Ytbimmadllfgmiaa.bbrNil
namespace Go.Proofs.Ytbimmadllfgmiaa
theorem bbrNil_holds : Rows.BbrNilSaid := bbrNil.proved
#print axioms bbrNil_holds
end Go.Proofs.Ytbimmadllfgmiaa
