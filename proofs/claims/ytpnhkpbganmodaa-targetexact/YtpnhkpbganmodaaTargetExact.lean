/-
  Proved: canterlaw12.TargetExact answers true at every three numbers, and leaves its arguments as they were. Conditions: none.
-/
import Derived.Test.YtpnhkpbganmodaaRows
import Derived.WalkKit
import Derived.ProofKit
import Derived.OpenShut
import Derived.ShutString
import Derived.Test.YtpnhkpbganmodaaAwakeG
import Derived.Test.YtpnhkpbganmodaaTgtMore
namespace Go.Proofs.Ytpnhkpbganmodaa.targetExact
open Go.ChangeShapes Go.WideShapes Go.ChangeAt Go.RowKit
open Go.ChangeMaps (open_string shut_string)
set_option linter.unusedVariables false

theorem own : ownKnob Try.prog.godebug = none := by kernel_rfl



set_option maxHeartbeats 4000000 in
set_option maxRecDepth 100000 in
theorem walk (a0 : Int) (a1 : Int) (a2 : Int) (w0 : (Lit.int .u64 a0).wf = true) (w1 : (Lit.int .u64 a1).wf = true) (w2 : (Lit.int .u64 a2).wf = true) (w : World) :
    Calls Try.prog 5 #[.int .u64 a0, .int .u64 a1, .int .u64 a2] w fun e w' => e = .returned (.bool true) ∧ Below w.heap.size w w' := by
  obtain ⟨v0, v1⟩ := bounds_u64 w0
  obtain ⟨r0, r1⟩ := bounds_u64 w1
  obtain ⟨g0, g1⟩ := bounds_u64 w2
  clear w0 w1 w2
  obtain ⟨k, hk⟩ : ∃ k, a0 % 1000000 = k := ⟨_, rfl⟩
  obtain ⟨m, hm⟩ : ∃ m, a1 % 10000 = m := ⟨_, rfl⟩
  obtain ⟨g, hg⟩ : ∃ g, a2 % 8 = g := ⟨_, rfl⟩
  have k0 : 0 ≤ k := by omega
  have k1 : k < 1000000 := by omega
  have m0 : 0 ≤ m := by omega
  have m1 : m < 10000 := by omega
  have h0 : 0 ≤ g := by omega
  have h1 : g < 8 := by omega
  obtain ⟨p, hp⟩ : ∃ p, k * m = p := ⟨_, rfl⟩
  have p0 : 0 ≤ p := by rw [← hp]; exact Int.mul_nonneg k0 m0
  have p1 : p ≤ 10000000000 := by rw [← hp]; exact Int.mul_le_mul (show k ≤ 1000000 by omega) (show m ≤ 10000 by omega) m0 (by decide)
  obtain ⟨q, hq⟩ : ∃ q, p * g = q := ⟨_, rfl⟩
  have q0 : 0 ≤ q := by rw [← hq]; exact Int.mul_nonneg p0 h0
  have q1 : q ≤ 80000000000 := by rw [← hq]; exact Int.mul_le_mul p1 (show g ≤ 8 by omega) h0 (by decide)
  obtain ⟨u, hu⟩ : ∃ u, k * g = u := ⟨_, rfl⟩
  have u0 : 0 ≤ u := by rw [← hu]; exact Int.mul_nonneg k0 h0
  have u1 : u ≤ 8000000 := by rw [← hu]; exact Int.mul_le_mul (show k ≤ 1000000 by omega) (show g ≤ 8 by omega) h0 (by decide)
  have HB := Lib.hid (bdpV_even hp hq (by omega) (by omega))
  have HR := Lib.hid (rateV_even hu (by omega))
  obtain ⟨y, hy⟩ : ∃ y, winV (k * 1000) (1 + m * 1000000) (g * 256) 0 0 = y := ⟨_, rfl⟩
  have hyq : q ≤ y := by
    rw [← hy, ← HB.out]
    refine Int.le_trans (bdpV_le (by omega) (by omega) (by omega) (Int.le_refl _) (by omega) (Int.le_refl _)) (Int.le_trans (overV_bdp (t := 0) (by omega) (by omega) (by omega) (by decide)) (winV_over (by omega)))
  have HY := Lib.hid hy; clear hy
  go_enter Try.func5, Try.ntmps5
  go_wp2_with fail
  rw [hk, hm, hg]
  clear hk hm hg v0 v1 r0 r1 g0 g1
  refine (bdp_is HB.out (by omega) (by omega) (by omega) (by omega) (by omega) (by omega) _).mono ?_
  rintro e w1 ⟨rfl, k1⟩
  have K1 := Lib.hid k1; clear k1
  go_wp2_with fail
  refine (awakeg_any _).mono ?_
  rintro e w2 ⟨rfl, k2⟩
  have K2 := Lib.hid (K1.out.trans k2); clear k2 K1
  go_wp2_with fail
  refine (rate_is HR.out (by omega) (by omega) (by omega) (by omega) _).mono ?_
  rintro e w3 ⟨rfl, k3⟩
  have K3 := Lib.hid (K2.out.trans k3); clear k3 K2
  go_wp2_with fail
  refine (win_is HY.out (by omega) (by omega) (by omega) (by omega) (by omega) (by omega) (by decide) (by decide) (by decide) (by decide) _).mono ?_
  rintro e w4 ⟨rfl, k4⟩
  have K4 := Lib.hid (K3.out.trans k4); clear k4 K3
  go_wp2
  go_ret
  exact ⟨rfl, K4.out.below (Nat.le_refl _) (fun _ h => h.elim)⟩

set_option maxRecDepth 100000 in
theorem lifted (os : Os) (started : os.Started) (H : Type) (enc : TypeId × Value → H) :
    ReturnsInHanded {} Try.checked os 5 .any (Rows.targetExactSpec.pre6 enc Try.prog Try.f5 Rows.targetExactRow.domain false) (Rows.targetExactSpec.post enc Try.prog Try.f5 false true false false) := by
  refine returnsInHanded_of_change (C := Try.checked) own started (by kernel_rfl) Try.func5
    (ChangeSpec.witness6 (enc := enc) (C := Try.checked) false ⟨#[], #[.int .u64 0, .int .u64 0, .int .u64 0], []⟩ 8 (by kernel_rfl) (by kernel_rfl) (by kernel_rfl) (by kernel_rfl)) ?_
  intro W base args ds gs before hval0 hW hcnd _
  have hval : ∀ (j : Nat) t v, Try.f5.params[j]? = some t → args[j]? = some v → Value.okWide Try.prog W .any base t v := hval0
  have hW' := hW
  obtain ⟨p, q, hA0, hV, rfl, hfz, hnd⟩ := hW
  have hA : DataW.TrodAll enc Try.prog W 0 (fun _ => true) true Try.f5.params.toList args.toList ds p := hA0
  rw [Try.params5] at hA hval
  obtain ⟨v0, vs0, d0, ds0, p0, q0, hargs, rfl, rfl, h0, r0⟩ := trodAll_cons hA
  obtain ⟨v1, vs1, d1, ds1, p1, q1, rfl, rfl, rfl, h1, r1⟩ := trodAll_cons r0
  obtain ⟨v2, vs2, d2, ds2, p2, q2, rfl, rfl, rfl, h2, r2⟩ := trodAll_cons r1
  obtain ⟨rfl, rfl, rfl⟩ := trodAll_nil r2
  obtain rfl : args = #[v0, v1, v2] := by cases args; simp_all
  obtain ⟨rfl, rfl⟩ := trodVars_none hV
  obtain ⟨a0, rfl, rfl, rfl, w0⟩ := open_int Try.underlying22 (hval 0 22 v0 rfl rfl) h0
  obtain ⟨a1, rfl, rfl, rfl, w1⟩ := open_int Try.underlying22 (hval 1 22 v1 rfl rfl) h1
  obtain ⟨a2, rfl, rfl, rfl, w2⟩ := open_int Try.underlying22 (hval 2 22 v2 rfl rfl) h2
  clear hA0 hval0
  simp only [List.append_nil] at hW'
  refine (walk a0 a1 a2 w0 w1 w2 W).mono fun e W' ⟨he, hg⟩ => ?_
  subst he
  exact ⟨_, rfl, _, _, _, [], _, [], hW', trodAll_mk1 (shut_bool Try.underlying4 _), (trodAll_cons_mk (shut_int Try.underlying22 w0) (trodAll_cons_mk (shut_int Try.underlying22 w1) (trodAll_cons_mk (shut_int Try.underlying22 w2) trodAll_mk0))), rfl, hg.frame _, fun h => by cases h⟩

theorem over : Rows.targetExactRow.holds Try.pinned (OpenSpec.ofChange Rows.targetExactSpec) :=
  OpenClaim.holds_of_wide 5 Try.f5 rfl rfl rfl rfl rfl rfl rfl ⟨rfl, rfl, rfl, rfl, rfl⟩ rfl rfl rfl rfl rfl (by kernel_rfl) Try.func5 (by kernel_rfl)
    (of_decide_eq_true (by kernel_rfl)) (by unfold Func.isWrapper; first | (rw [if_pos (by decide +kernel)]; kernel_rfl) | (rw [if_neg (by decide +kernel)]; exact ⟨rfl, rfl⟩))
    (fun os started H enc _ => lifted os started H enc)

theorem proved : Rows.TargetExactSaid :=
  over
end Go.Proofs.Ytpnhkpbganmodaa.targetExact
namespace Go.Proofs.Ytpnhkpbganmodaa
theorem targetExact_holds : Rows.TargetExactSaid := targetExact.proved
#print axioms targetExact_holds
end Go.Proofs.Ytpnhkpbganmodaa
