/-
  Proved: canterlaw14.CycleHolds answers true at every four numbers, and leaves its arguments as they were. Conditions: none.
-/
import Derived.Test.YtaghndfoepkgnaaRows
import Derived.WalkKit
import Derived.ProofKit
import Derived.OpenShut
import Derived.ShutString
import Derived.Test.YtaghndfoepkgnaaAwakeY
import Derived.OwnWalk
namespace Go.Proofs.Ytaghndfoepkgnaa.cycleHolds
open Go.ChangeShapes Go.WideShapes Go.ChangeAt Go.RowKit
open Go.ChangeMaps (open_string shut_string)
set_option linter.unusedVariables false

theorem own : ownKnob Try.prog.godebug = none := by kernel_rfl



set_option maxHeartbeats 4000000 in
set_option maxRecDepth 100000 in
theorem walk (a0 : Int) (a1 : Int) (a2 : Int) (a3 : Int) (w0 : (Lit.int .u64 a0).wf = true) (w1 : (Lit.int .u64 a1).wf = true) (w2 : (Lit.int .u64 a2).wf = true) (w3 : (Lit.int .i64 a3).wf = true) (w : World) :
    Calls Try.prog 4 #[.int .u64 a0, .int .u64 a1, .int .u64 a2, .int .i64 a3] w fun e w' => e = .returned (.bool true) ∧ Below w.heap.size w w' := by
  have b0 := bounds_u64 w0
  have b1 := bounds_u64 w1
  have b2 := bounds_u64 w2
  clear w0 w1 w2 w3
  obtain ⟨u, hu⟩ : ∃ u : Nat, IntKind.u64.wrap a3 = (u : Int) := ⟨(IntKind.u64.wrap a3).toNat, by rw [IntKind.wrap_u64]; omega⟩
  go_enter Try.func4, Try.ntmps4
  go_wp2_with fail
  obtain ⟨R, hR⟩ : ∃ R : Int, a0 % 1000000 = R := ⟨_, rfl⟩
  obtain ⟨U, hU⟩ : ∃ U : Int, 10 + a1 % 1000000 = U := ⟨_, rfl⟩
  obtain ⟨O, hO⟩ : ∃ O : Int, a2 % 1000000 = O := ⟨_, rfl⟩
  have hR0 : 0 ≤ R := by omega
  have hR1 : R < 1000000 := by omega
  have hU0 : 10 ≤ U := by omega
  have hU1 : U < 1000010 := by omega
  have hO0 : 0 ≤ O := by omega
  have hO1 : O < 1000000 := by omega
  rw [hR, hU, hO]
  clear hR hU hO b0 b1 b2
  obtain ⟨F, hF⟩ : ∃ F : Int, (u : Int) % 1000 = F := ⟨_, rfl⟩
  have hF0 : 0 ≤ F := by omega
  have hF1 : F < 1000 := by omega
  obtain ⟨M, hM⟩ : ∃ M : Int, R + 1 + F = M := ⟨_, rfl⟩
  have hM1 : R < M := by omega
  have hM2 : M < 1001001 := by omega
  have NM : Hid (Num M) := Lib.hid ⟨by omega, by omega⟩
  have NR : Hid (Num R) := Lib.hid ⟨by omega, by omega⟩
  have NZ : Hid (Num 0) := Lib.hid ⟨by decide, by decide⟩
  have HS0 : Hid (startC 0 0 = ⟨0, 0⟩) := Lib.hid rfl
  have HS1 : Hid (startC 0 1 = ⟨1, 0⟩) := Lib.hid rfl
  have hsM : satSub M 0 = M := by rw [satSub_ge (by omega)]; omega
  have hsR : satSub R 0 = R := by rw [satSub_ge (by omega)]; omega
  have UA : Hid (begC ⟨0, 0⟩ ⟨M, R, 0, U - 1, U, O⟩ = false ∧ updC ⟨0, 0⟩ ⟨M, R, 0, U - 1, U, O⟩ = ⟨0, 0⟩) := Lib.hid (by
    have : begC ⟨0, 0⟩ ⟨M, R, 0, U - 1, U, O⟩ = false := by simp [begC, overC]; intros; omega
    exact ⟨this, updC_no this⟩)
  have UB : Hid (begC ⟨0, 0⟩ ⟨M, R, 0, U, U, O⟩ = true ∧ updC ⟨0, 0⟩ ⟨M, R, 0, U, U, O⟩ = startC M 1) := Lib.hid (by
    have : begC ⟨0, 0⟩ ⟨M, R, 0, U, U, O⟩ = true := by simp [begC, overC, hsM, hM1]
    exact ⟨this, updC_yes this⟩)
  have UD : Hid (begC ⟨0, 0⟩ ⟨M, R, 1, 0, U, O⟩ = true ∧ updC ⟨0, 0⟩ ⟨M, R, 1, 0, U, O⟩ = startC M 1) := Lib.hid (by
    have : begC ⟨0, 0⟩ ⟨M, R, 1, 0, U, O⟩ = true := by simp [begC, overC, hsM, hM1]
    exact ⟨this, updC_yes this⟩)
  have UE : Hid (begC ⟨1, 0⟩ ⟨0, R, 0, O, U, O⟩ = true ∧ updC ⟨1, 0⟩ ⟨0, R, 0, O, U, O⟩ = startC 0 2) := Lib.hid (by
    have : begC ⟨1, 0⟩ ⟨0, R, 0, O, U, O⟩ = true := by simp [begC]
    exact ⟨this, updC_yes this⟩)
  have UF : Hid (begC ⟨1, 0⟩ ⟨R, R, 0, O + 1, U, O⟩ = false ∧ updC ⟨1, 0⟩ ⟨R, R, 0, O + 1, U, O⟩ = ⟨1, 0⟩) := Lib.hid (by
    have : begC ⟨1, 0⟩ ⟨R, R, 0, O + 1, U, O⟩ = false := by simp [begC, overC, hsR]; omega
    exact ⟨this, updC_no this⟩)
  have HGN : Hid (gainC ⟨1, 0⟩ = 192) := Lib.hid rfl
  clear hsM hsR
  refine ((Room.begin w).cynew).mono ?_
  rintro e w1 ⟨rfl, r1⟩
  have HM := Lib.hid r1; clear r1
  generalize w.heap.size = g at *
  go_wp2_with fail
  refine HM.out.awakey.mono ?_
  rintro e w2 ⟨rfl, r2⟩
  clear HM
  have HM := Lib.hid r2; clear r2
  go_wp2_with fail
  refine (HM.out.cystart HS0.out NZ.out).mono ?_
  rintro e w4 ⟨⟨_, rfl⟩, r4⟩
  clear HM
  have HM := Lib.hid r4; clear r4
  go_wp2_with fail
  (try rw [hF])
  (try rw [hM])
  refine (HM.out.cyupd UA.out NM.out).mono ?_
  rintro e w4 ⟨rfl, r4⟩
  clear HM
  have HM := Lib.hid r4; clear r4
  go_wp2_with fail
  refine (HM.out.cystart HS0.out NZ.out).mono ?_
  rintro e w4 ⟨⟨_, rfl⟩, r4⟩
  clear HM
  have HM := Lib.hid r4; clear r4
  go_wp2_with fail
  refine (HM.out.cyupd UB.out NM.out).mono ?_
  rintro e w4 ⟨rfl, r4⟩
  clear HM
  have HM := Lib.hid r4; clear r4
  go_wp2_with fail
  refine (HM.out.cystart HS0.out NZ.out).mono ?_
  rintro e w4 ⟨⟨_, rfl⟩, r4⟩
  clear HM
  have HM := Lib.hid r4; clear r4
  go_wp2_with fail
  refine (HM.out.cyupd UD.out NM.out).mono ?_
  rintro e w4 ⟨rfl, r4⟩
  clear HM
  have HM := Lib.hid r4; clear r4
  go_wp2_with fail
  refine (HM.out.cystart HS1.out NZ.out).mono ?_
  rintro e w4 ⟨⟨_, rfl⟩, r4⟩
  clear HM
  have HM := Lib.hid r4; clear r4
  go_wp2_with fail
  refine (HM.out.cyupd UE.out NZ.out).mono ?_
  rintro e w4 ⟨rfl, r4⟩
  clear HM
  have HM := Lib.hid r4; clear r4
  go_wp2_with fail
  refine (HM.out.cystart HS1.out NZ.out).mono ?_
  rintro e w4 ⟨⟨_, rfl⟩, r4⟩
  clear HM
  have HM := Lib.hid r4; clear r4
  go_wp2_with fail
  refine (HM.out.cyupd UF.out NR.out).mono ?_
  rintro e w4 ⟨rfl, r4⟩
  clear HM
  have HM := Lib.hid r4; clear r4
  go_wp2_with fail
  refine (HM.out.cygain HGN.out).mono ?_
  rintro e w4 ⟨rfl, rfl⟩
  go_wp2
  go_ret
  exact ⟨rfl, HM.out.bel⟩

set_option maxRecDepth 100000 in
theorem lifted (os : Os) (started : os.Started) (H : Type) (enc : TypeId × Value → H) :
    ReturnsInHanded {} Try.checked os 4 .any (Rows.cycleHoldsSpec.pre6 enc Try.prog Try.f4 Rows.cycleHoldsRow.domain false) (Rows.cycleHoldsSpec.post enc Try.prog Try.f4 false true false false) := by
  refine returnsInHanded_of_change (C := Try.checked) own started (by kernel_rfl) Try.func4
    (ChangeSpec.witness6 (enc := enc) (C := Try.checked) false ⟨#[], #[.int .u64 0, .int .u64 0, .int .u64 0, .int .i64 0], []⟩ 8 (by kernel_rfl) (by kernel_rfl) (by kernel_rfl) (by kernel_rfl)) ?_
  intro W base args ds gs before hval0 hW hcnd _
  have hval : ∀ (j : Nat) t v, Try.f4.params[j]? = some t → args[j]? = some v → Value.okWide Try.prog W .any base t v := hval0
  have hW' := hW
  obtain ⟨p, q, hA0, hV, rfl, hfz, hnd⟩ := hW
  have hA : DataW.TrodAll enc Try.prog W 0 (fun _ => true) true Try.f4.params.toList args.toList ds p := hA0
  rw [Try.params4] at hA hval
  obtain ⟨v0, vs0, d0, ds0, p0, q0, hargs, rfl, rfl, h0, r0⟩ := trodAll_cons hA
  obtain ⟨v1, vs1, d1, ds1, p1, q1, rfl, rfl, rfl, h1, r1⟩ := trodAll_cons r0
  obtain ⟨v2, vs2, d2, ds2, p2, q2, rfl, rfl, rfl, h2, r2⟩ := trodAll_cons r1
  obtain ⟨v3, vs3, d3, ds3, p3, q3, rfl, rfl, rfl, h3, r3⟩ := trodAll_cons r2
  obtain ⟨rfl, rfl, rfl⟩ := trodAll_nil r3
  obtain rfl : args = #[v0, v1, v2, v3] := by cases args; simp_all
  obtain ⟨rfl, rfl⟩ := trodVars_none hV
  obtain ⟨a0, rfl, rfl, rfl, w0⟩ := open_int Try.underlying22 (hval 0 22 v0 rfl rfl) h0
  obtain ⟨a1, rfl, rfl, rfl, w1⟩ := open_int Try.underlying22 (hval 1 22 v1 rfl rfl) h1
  obtain ⟨a2, rfl, rfl, rfl, w2⟩ := open_int Try.underlying22 (hval 2 22 v2 rfl rfl) h2
  obtain ⟨a3, rfl, rfl, rfl, w3⟩ := open_int Try.underlying3 (hval 3 3 v3 rfl rfl) h3
  clear hA0 hval0
  simp only [List.append_nil] at hW'
  refine (walk a0 a1 a2 a3 w0 w1 w2 w3 W).mono fun e W' ⟨he, hg⟩ => ?_
  subst he
  exact ⟨_, rfl, _, _, _, [], _, [], hW', trodAll_mk1 (shut_bool Try.underlying4 _), (trodAll_cons_mk (shut_int Try.underlying22 w0) (trodAll_cons_mk (shut_int Try.underlying22 w1) (trodAll_cons_mk (shut_int Try.underlying22 w2) (trodAll_cons_mk (shut_int Try.underlying3 w3) trodAll_mk0)))), rfl, hg.frame _, fun h => by cases h⟩

theorem over : Rows.cycleHoldsRow.holds Try.pinned (OpenSpec.ofChange Rows.cycleHoldsSpec) :=
  OpenClaim.holds_of_wide 4 Try.f4 rfl rfl rfl rfl rfl rfl rfl ⟨rfl, rfl, rfl, rfl, rfl⟩ rfl rfl rfl rfl rfl (by kernel_rfl) Try.func4 (by kernel_rfl)
    (of_decide_eq_true (by kernel_rfl)) (by unfold Func.isWrapper; first | (rw [if_pos (by decide +kernel)]; kernel_rfl) | (rw [if_neg (by decide +kernel)]; exact ⟨rfl, rfl⟩))
    (fun os started H enc _ => lifted os started H enc)

theorem proved : Rows.CycleHoldsSaid :=
  over
end Go.Proofs.Ytaghndfoepkgnaa.cycleHolds
namespace Go.Proofs.Ytaghndfoepkgnaa
theorem cycleHolds_holds : Rows.CycleHoldsSaid := cycleHolds.proved
#print axioms cycleHolds_holds
end Go.Proofs.Ytaghndfoepkgnaa
