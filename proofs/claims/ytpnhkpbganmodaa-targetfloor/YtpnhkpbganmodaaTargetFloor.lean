/-
  Proved: canterlaw12.TargetFloor answers true at every five numbers, and leaves its arguments as they were. Conditions: none.
-/
import Derived.Test.YtpnhkpbganmodaaRows
import Derived.WalkKit
import Derived.ProofKit
import Derived.OpenShut
import Derived.ShutString
import Derived.Test.YtpnhkpbganmodaaAwakeG
import Derived.Test.YtpnhkpbganmodaaRefTgt
import Derived.Test.YtpnhkpbganmodaaTgtMore
namespace Go.Proofs.Ytpnhkpbganmodaa.targetFloor
open Go.ChangeShapes Go.WideShapes Go.ChangeAt Go.RowKit
open Go.ChangeMaps (open_string shut_string)
set_option linter.unusedVariables false

theorem own : ownKnob Try.prog.godebug = none := by kernel_rfl



set_option maxHeartbeats 4000000 in
set_option maxRecDepth 100000 in
theorem walk (a0 : Int) (a1 : Int) (a2 : Int) (a3 : Int) (a4 : Int) (w0 : (Lit.int .u64 a0).wf = true) (w1 : (Lit.int .u64 a1).wf = true) (w2 : (Lit.int .u64 a2).wf = true) (w3 : (Lit.int .u64 a3).wf = true) (w4 : (Lit.int .u64 a4).wf = true) (w : World) :
    Calls Try.prog 6 #[.int .u64 a0, .int .u64 a1, .int .u64 a2, .int .u64 a3, .int .u64 a4] w fun e w' => e = .returned (.bool true) ∧ Below w.heap.size w w' := by
  obtain ⟨v0, v1⟩ := bounds_u64 w0
  obtain ⟨r0, r1⟩ := bounds_u64 w1
  obtain ⟨g0, g1⟩ := bounds_u64 w2
  obtain ⟨s0, s1⟩ := bounds_u64 w3
  obtain ⟨n0, n1⟩ := bounds_u64 w4
  clear w0 w1 w2 w3 w4
  obtain ⟨t, ht⟩ : ∃ t, a3 % 1073741824 = t := ⟨_, rfl⟩
  obtain ⟨m, hm⟩ : ∃ m, a4 % 1073741824 = m := ⟨_, rfl⟩
  have t0 : 0 ≤ t := by omega
  have t1 : t < 1073741824 := by omega
  have m0 : 0 ≤ m := by omega
  have m1 : m < 1073741824 := by omega
  have HT2 : Hid (t ≤ 18446744073709551615) := Lib.hid (by omega)
  have HM2 : Hid (m ≤ 18446744073709551615) := Lib.hid (by omega)
  obtain ⟨r, hr⟩ : ∃ r, r = if a1 < 1 then 1 else a1 := ⟨_, rfl⟩
  have hr0 : 0 ≤ r := by rw [hr]; split <;> omega
  have hr1 : r ≤ 18446744073709551615 := by rw [hr]; split <;> omega
  have hrn : r ≠ 0 := by rw [hr]; split <;> omega
  have h3 : satMul 3 t = 3 * t := satMul_le (by omega)
  have h4 : satMul 4 m = 4 * m := satMul_le (by omega)
  have h10 : satMul 10 m = 10 * m := satMul_le (by omega)
  have HN : Hid (winV a0 0 a2 t m = 10 * m) := Lib.hid (by rw [winV_zero, h10])
  obtain ⟨x, hx⟩ : ∃ x, bdpV a0 r a2 = x := ⟨_, rfl⟩
  obtain ⟨y, hy⟩ : ∃ y, winV a0 r a2 t m = y := ⟨_, rfl⟩
  obtain ⟨z, hz⟩ : ∃ z, satAdd x (3 * t) = z := ⟨_, rfl⟩
  have hov : overV a0 r a2 t = z := by unfold overV; rw [hx, h3, hz]
  have hxn := bdpV_num v0 hr0 g0
  rw [hx] at hxn
  have hyx : x ≤ y := by rw [← hx, ← hy]; exact Int.le_trans (overV_bdp v0 hr0 g0 t0) (winV_over hrn)
  have hz3 : 3 * t ≤ z := by rw [← hz]; have := hxn.1; unfold satAdd; split <;> omega
  have hy3 : 3 * t ≤ y := by rw [← hy]; refine Int.le_trans ?_ (winV_over hrn); rw [hov]; exact hz3
  have hy4 : 4 * m ≤ y := by rw [← hy, ← h4]; exact winV_low m0
  have hor : y = 4 * m ∨ y = z := by rw [← hy, ← hov, ← h4]; exact winV_or hrn
  have HX := Lib.hid hx; have HY := Lib.hid hy; have HZ := Lib.hid hz; have HXN := Lib.hid hxn
  have HOR := Lib.hid hor
  have HR := Lib.hid hr; have HRN := Lib.hid hrn
  clear hx hy hz hov hxn hor h3 h4 h10 hz3 hr hrn
  go_enter Try.func6, Try.ntmps6
  go_wp2_with fail
  rw [ht, hm]
  clear ht hm s0 s1 n0 n1
  refine (win_is HN.out v0 v1 (by decide) (by decide) g0 g1 t0 HT2.out m0 HM2.out _).mono ?_
  rintro e w1 ⟨rfl, k1⟩
  have K1 := Lib.hid k1; clear k1 HN
  have hmax : ∀ v : Int, (a1 < 1 → v = 1) → (a1 = 1 → v = 1) → (1 < a1 → v = a1) → v = r := by
    intro v c1 c2 c3
    have := HR.out
    split at this <;> omega
  have HMX := Lib.hid hmax; clear hmax
  rcases Int.lt_trichotomy 1 a1 with h | h | h
  · have hr' : a1 = r := by have := HR.out; split at this <;> omega
    clear HR HMX
    subst hr'
    go_wp2_with fail
    refine (win_is HY.out v0 v1 hr0 hr1 g0 g1 t0 HT2.out m0 HM2.out _).mono ?_
    rintro e w2 ⟨rfl, k2⟩
    have K2 := Lib.hid (K1.out.trans k2); clear k2 K1
    go_wp2_with fail
    refine (bdp_is HX.out v0 v1 hr0 hr1 g0 g1 _).mono ?_
    rintro e w3 ⟨rfl, k3⟩
    have K3 := Lib.hid (K2.out.trans k3); clear k3 K2
    go_wp2_with fail
    refine (awakeg_any _).mono ?_
    rintro e w4 ⟨rfl, k4⟩
    have K4 := Lib.hid (K3.out.trans k4); clear k4 K3
    by_cases hc : y = 4 * m
    · have hb : (y == 4 * m) = true := by simp [hc]
      clear hc
      go_wp2
      go_ret
      exact ⟨rfl, K4.out.below (Nat.le_refl _) (fun _ h => h.elim)⟩
    · have hb : (y == 4 * m) = false := by simp [hc]
      have hyz : y = z := HOR.out.resolve_left hc
      clear hc
      subst hyz
      go_wp2_with fail
      refine (radd_any _ _ HXN.out.1 HXN.out.2 (by omega) (by omega) _).mono ?_
      rintro e w' ⟨rfl, rfl⟩
      rw [HZ.out]
      go_wp2
      go_ret
      exact ⟨rfl, K4.out.below (Nat.le_refl _) (fun _ h => h.elim)⟩
  · have hr' : a1 = r := by have := HR.out; split at this <;> omega
    clear HR HMX
    subst hr'
    subst h
    go_wp2_with fail
    refine (win_is HY.out v0 v1 hr0 hr1 g0 g1 t0 HT2.out m0 HM2.out _).mono ?_
    rintro e w2 ⟨rfl, k2⟩
    have K2 := Lib.hid (K1.out.trans k2); clear k2 K1
    go_wp2_with fail
    refine (bdp_is HX.out v0 v1 hr0 hr1 g0 g1 _).mono ?_
    rintro e w3 ⟨rfl, k3⟩
    have K3 := Lib.hid (K2.out.trans k3); clear k3 K2
    go_wp2_with fail
    refine (awakeg_any _).mono ?_
    rintro e w4 ⟨rfl, k4⟩
    have K4 := Lib.hid (K3.out.trans k4); clear k4 K3
    by_cases hc : y = 4 * m
    · have hb : (y == 4 * m) = true := by simp [hc]
      clear hc
      go_wp2
      go_ret
      exact ⟨rfl, K4.out.below (Nat.le_refl _) (fun _ h => h.elim)⟩
    · have hb : (y == 4 * m) = false := by simp [hc]
      have hyz : y = z := HOR.out.resolve_left hc
      clear hc
      subst hyz
      go_wp2_with fail
      refine (radd_any _ _ HXN.out.1 HXN.out.2 (by omega) (by omega) _).mono ?_
      rintro e w' ⟨rfl, rfl⟩
      rw [HZ.out]
      go_wp2
      go_ret
      exact ⟨rfl, K4.out.below (Nat.le_refl _) (fun _ h => h.elim)⟩
  · have hr' : 1 = r := by have := HR.out; split at this <;> omega
    clear HR HMX
    subst hr'
    go_wp2_with fail
    refine (win_is HY.out v0 v1 hr0 hr1 g0 g1 t0 HT2.out m0 HM2.out _).mono ?_
    rintro e w2 ⟨rfl, k2⟩
    have K2 := Lib.hid (K1.out.trans k2); clear k2 K1
    go_wp2_with fail
    refine (bdp_is HX.out v0 v1 hr0 hr1 g0 g1 _).mono ?_
    rintro e w3 ⟨rfl, k3⟩
    have K3 := Lib.hid (K2.out.trans k3); clear k3 K2
    go_wp2_with fail
    refine (awakeg_any _).mono ?_
    rintro e w4 ⟨rfl, k4⟩
    have K4 := Lib.hid (K3.out.trans k4); clear k4 K3
    by_cases hc : y = 4 * m
    · have hb : (y == 4 * m) = true := by simp [hc]
      clear hc
      go_wp2
      go_ret
      exact ⟨rfl, K4.out.below (Nat.le_refl _) (fun _ h => h.elim)⟩
    · have hb : (y == 4 * m) = false := by simp [hc]
      have hyz : y = z := HOR.out.resolve_left hc
      clear hc
      subst hyz
      go_wp2_with fail
      refine (radd_any _ _ HXN.out.1 HXN.out.2 (by omega) (by omega) _).mono ?_
      rintro e w' ⟨rfl, rfl⟩
      rw [HZ.out]
      go_wp2
      go_ret
      exact ⟨rfl, K4.out.below (Nat.le_refl _) (fun _ h => h.elim)⟩

set_option maxRecDepth 100000 in
theorem lifted (os : Os) (started : os.Started) (H : Type) (enc : TypeId × Value → H) :
    ReturnsInHanded {} Try.checked os 6 .any (Rows.targetFloorSpec.pre6 enc Try.prog Try.f6 Rows.targetFloorRow.domain false) (Rows.targetFloorSpec.post enc Try.prog Try.f6 false true false false) := by
  refine returnsInHanded_of_change (C := Try.checked) own started (by kernel_rfl) Try.func6
    (ChangeSpec.witness6 (enc := enc) (C := Try.checked) false ⟨#[], #[.int .u64 0, .int .u64 0, .int .u64 0, .int .u64 0, .int .u64 0], []⟩ 8 (by kernel_rfl) (by kernel_rfl) (by kernel_rfl) (by kernel_rfl)) ?_
  intro W base args ds gs before hval0 hW hcnd _
  have hval : ∀ (j : Nat) t v, Try.f6.params[j]? = some t → args[j]? = some v → Value.okWide Try.prog W .any base t v := hval0
  have hW' := hW
  obtain ⟨p, q, hA0, hV, rfl, hfz, hnd⟩ := hW
  have hA : DataW.TrodAll enc Try.prog W 0 (fun _ => true) true Try.f6.params.toList args.toList ds p := hA0
  rw [Try.params6] at hA hval
  obtain ⟨v0, vs0, d0, ds0, p0, q0, hargs, rfl, rfl, h0, r0⟩ := trodAll_cons hA
  obtain ⟨v1, vs1, d1, ds1, p1, q1, rfl, rfl, rfl, h1, r1⟩ := trodAll_cons r0
  obtain ⟨v2, vs2, d2, ds2, p2, q2, rfl, rfl, rfl, h2, r2⟩ := trodAll_cons r1
  obtain ⟨v3, vs3, d3, ds3, p3, q3, rfl, rfl, rfl, h3, r3⟩ := trodAll_cons r2
  obtain ⟨v4, vs4, d4, ds4, p4, q4, rfl, rfl, rfl, h4, r4⟩ := trodAll_cons r3
  obtain ⟨rfl, rfl, rfl⟩ := trodAll_nil r4
  obtain rfl : args = #[v0, v1, v2, v3, v4] := by cases args; simp_all
  obtain ⟨rfl, rfl⟩ := trodVars_none hV
  obtain ⟨a0, rfl, rfl, rfl, w0⟩ := open_int Try.underlying22 (hval 0 22 v0 rfl rfl) h0
  obtain ⟨a1, rfl, rfl, rfl, w1⟩ := open_int Try.underlying22 (hval 1 22 v1 rfl rfl) h1
  obtain ⟨a2, rfl, rfl, rfl, w2⟩ := open_int Try.underlying22 (hval 2 22 v2 rfl rfl) h2
  obtain ⟨a3, rfl, rfl, rfl, w3⟩ := open_int Try.underlying22 (hval 3 22 v3 rfl rfl) h3
  obtain ⟨a4, rfl, rfl, rfl, w4⟩ := open_int Try.underlying22 (hval 4 22 v4 rfl rfl) h4
  clear hA0 hval0
  simp only [List.append_nil] at hW'
  refine (walk a0 a1 a2 a3 a4 w0 w1 w2 w3 w4 W).mono fun e W' ⟨he, hg⟩ => ?_
  subst he
  exact ⟨_, rfl, _, _, _, [], _, [], hW', trodAll_mk1 (shut_bool Try.underlying4 _), (trodAll_cons_mk (shut_int Try.underlying22 w0) (trodAll_cons_mk (shut_int Try.underlying22 w1) (trodAll_cons_mk (shut_int Try.underlying22 w2) (trodAll_cons_mk (shut_int Try.underlying22 w3) (trodAll_cons_mk (shut_int Try.underlying22 w4) trodAll_mk0))))), rfl, hg.frame _, fun h => by cases h⟩

theorem over : Rows.targetFloorRow.holds Try.pinned (OpenSpec.ofChange Rows.targetFloorSpec) :=
  OpenClaim.holds_of_wide 6 Try.f6 rfl rfl rfl rfl rfl rfl rfl ⟨rfl, rfl, rfl, rfl, rfl⟩ rfl rfl rfl rfl rfl (by kernel_rfl) Try.func6 (by kernel_rfl)
    (of_decide_eq_true (by kernel_rfl)) (by unfold Func.isWrapper; first | (rw [if_pos (by decide +kernel)]; kernel_rfl) | (rw [if_neg (by decide +kernel)]; exact ⟨rfl, rfl⟩))
    (fun os started H enc _ => lifted os started H enc)

theorem proved : Rows.TargetFloorSaid :=
  over
end Go.Proofs.Ytpnhkpbganmodaa.targetFloor
namespace Go.Proofs.Ytpnhkpbganmodaa
theorem targetFloor_holds : Rows.TargetFloorSaid := targetFloor.proved
#print axioms targetFloor_holds
end Go.Proofs.Ytpnhkpbganmodaa
