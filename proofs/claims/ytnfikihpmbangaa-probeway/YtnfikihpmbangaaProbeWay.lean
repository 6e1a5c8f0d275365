/-
  Proved: canterlaw15.ProbeWay answers true at every three numbers, and leaves its arguments as they were. Conditions: none.
-/
import Derived.Test.YtnfikihpmbangaaRows
import Derived.WalkKit
import Derived.ProofKit
import Derived.OpenShut
import Derived.ShutString
import Derived.Test.YtnfikihpmbangaaPrbMore
import Derived.OwnWalk
namespace Go.Proofs.Ytnfikihpmbangaa.probeWay
open Go.ChangeShapes Go.WideShapes Go.ChangeAt Go.RowKit
open Go.ChangeMaps (open_string shut_string)
set_option linter.unusedVariables false

theorem own : ownKnob Try.prog.godebug = none := by kernel_rfl



set_option maxHeartbeats 4000000 in
set_option maxRecDepth 100000 in
theorem walk (a0 : Int) (a1 : Int) (a2 : Int) (w0 : (Lit.int .u64 a0).wf = true) (w1 : (Lit.int .u64 a1).wf = true) (w2 : (Lit.int .u64 a2).wf = true) (w : World) :
    Calls Try.prog 5 #[.int .u64 a0, .int .u64 a1, .int .u64 a2] w fun e w' => e = .returned (.bool true) ∧ Below w.heap.size w w' := by
  have b0 := bounds_u64 w0
  have b1 := bounds_u64 w1
  have b2 := bounds_u64 w2
  clear w0 w1 w2
  go_enter Try.func5, Try.ntmps5
  go_wp2_with fail
  obtain ⟨R, hR⟩ : ∃ R : Int, 1 + a0 % 1000000 = R := ⟨_, rfl⟩
  obtain ⟨A, hA⟩ : ∃ A : Int, a1 % 1099511627776 = A := ⟨_, rfl⟩
  obtain ⟨L, hL⟩ : ∃ L : Int, a2 % 1000 = L := ⟨_, rfl⟩
  have hR0 : 1 ≤ R := by omega
  have hR1 : R < 1000001 := by omega
  have hA0 : 0 ≤ A := by omega
  have hA1 : A < 1099511627776 := by omega
  have hL0 : 0 ≤ L := by omega
  have hL1 : L < 1000 := by omega
  rw [hR, hA, hL]
  clear hR hA hL b0 b1 b2
  have NR : Hid (Num R ∧ Num (R + 1) ∧ Num (R + 2)) := Lib.hid ⟨⟨by omega, by omega⟩, ⟨by omega, by omega⟩, ⟨by omega, by omega⟩⟩
  have U1 : Hid (Upd newB ⟨A, R, false, 9, 4⟩ false false ⟨R, A, false, 0, false⟩) := Lib.hid ((Upd.idle exp_none).to (takeB_yes (by simp [tookB]; omega)))
  have U2 : Hid (Upd ⟨R, A, false, 0, false⟩ ⟨A + 10000000000, R + 1, false, 9, 4⟩ false false ⟨R, A, false, 0, false⟩) := Lib.hid ((Upd.idle (exp_soon (by omega) (by omega))).to (takeB_no (took_worse (by omega) (by omega))))
  have U3 : Hid (Upd ⟨R, A, false, 0, false⟩ ⟨A + 10000000000 + 1 + L, R + 1, false, 9, 4⟩ true false ⟨R + 1, A + 10000000000 + 1 + L, true, 0, false⟩) := Lib.hid ((Upd.begins (exp_late (by omega) (by omega) (by omega))).to (by rw [takeB_yes (by simp [tookB]; omega)]))
  have HW : Hid (tookB ⟨R + 1, A + 10000000000 + 1 + L, true, 0, false⟩ (R + 2) false = false ∧ ∀ r, tookB ⟨R + 1, A + 10000000000 + 1 + L, true, A + 10000000000 + 2 + L + 1 + 200000000, r⟩ (R + 2) false = false) := Lib.hid ⟨took_worse (by omega) (by omega), fun r => took_worse (by omega) (by omega)⟩
  have U4 : Hid (Upd ⟨R + 1, A + 10000000000 + 1 + L, true, 0, false⟩ ⟨A + 10000000000 + 2 + L, R + 2, true, 5, 4⟩ false false ⟨R + 1, A + 10000000000 + 1 + L, true, 0, false⟩) := Lib.hid ((Upd.still (exp_soon (by omega) (by omega)) (by decide)).to (takeB_no HW.out.1))
  have U5 : Hid (Upd ⟨R + 1, A + 10000000000 + 1 + L, true, 0, false⟩ ⟨A + 10000000000 + 2 + L + 1, R + 2, true, 4, 4⟩ false false ⟨R + 1, A + 10000000000 + 1 + L, true, A + 10000000000 + 2 + L + 1 + 200000000, false⟩) := Lib.hid ((Upd.waits (exp_soon (by omega) (by omega)) (by decide)).to (by rw [takeB_no HW.out.1, satAdd_le (by omega)]))
  have U6 : Hid (Upd ⟨R + 1, A + 10000000000 + 1 + L, true, A + 10000000000 + 2 + L + 1 + 200000000, false⟩ ⟨A + 10000000000 + 2 + L + 1 + 200000000, R + 2, true, 4, 4⟩ false false ⟨R + 1, A + 10000000000 + 1 + L, true, A + 10000000000 + 2 + L + 1 + 200000000, true⟩) := Lib.hid ((Upd.stays (exp_soon (by omega) (by omega)) (by omega) (by simp)).to (by rw [takeB_no (HW.out.2 _)]; rfl))
  have U7 : Hid (Upd ⟨R + 1, A + 10000000000 + 1 + L, true, A + 10000000000 + 2 + L + 1 + 200000000, true⟩ ⟨A + 10000000000 + 2 + L + 2 + 200000000, R + 2, false, 4, 4⟩ false true ⟨R + 1, A + 10000000000 + 2 + L + 2 + 200000000, false, A + 10000000000 + 2 + L + 1 + 200000000, true⟩) := Lib.hid ((Upd.leaves (exp_soon (by omega) (by omega)) (by omega) rfl (by omega)).to (by rw [takeB_no (HW.out.2 _)]))
  clear HW
  refine ((Room.begin w).prnew).mono ?_
  rintro e w1 ⟨rfl, r1⟩
  have HM := Lib.hid r1; clear r1
  generalize w.heap.size = g at *
  go_wp2_with fail
  refine HM.out.awakeb.mono ?_
  rintro e w4 ⟨rfl, r4⟩
  clear HM
  have HM := Lib.hid r4; clear r4
  go_wp2_with fail
  refine (HM.out.prupd U1.out ⟨by omega, by omega⟩ NR.out.1).mono ?_
  rintro e w4 ⟨rfl, r4⟩
  clear HM
  have HM := Lib.hid r4; clear r4
  go_wp2_with fail
  refine (HM.out.prupd U2.out ⟨by omega, by omega⟩ NR.out.2.1).mono ?_
  rintro e w4 ⟨rfl, r4⟩
  clear HM
  have HM := Lib.hid r4; clear r4
  go_wp2_with fail
  refine (HM.out.prupd U3.out ⟨by omega, by omega⟩ NR.out.2.1).mono ?_
  rintro e w4 ⟨rfl, r4⟩
  clear HM
  have HM := Lib.hid r4; clear r4
  go_wp2_with fail
  refine (HM.out.prupd U4.out ⟨by omega, by omega⟩ NR.out.2.2).mono ?_
  rintro e w4 ⟨rfl, r4⟩
  clear HM
  have HM := Lib.hid r4; clear r4
  go_wp2_with fail
  refine (HM.out.prupd U5.out ⟨by omega, by omega⟩ NR.out.2.2).mono ?_
  rintro e w4 ⟨rfl, r4⟩
  clear HM
  have HM := Lib.hid r4; clear r4
  go_wp2_with fail
  refine (HM.out.prupd U6.out ⟨by omega, by omega⟩ NR.out.2.2).mono ?_
  rintro e w4 ⟨rfl, r4⟩
  clear HM
  have HM := Lib.hid r4; clear r4
  go_wp2_with fail
  refine (HM.out.prupd U7.out ⟨by omega, by omega⟩ NR.out.2.2).mono ?_
  rintro e w4 ⟨rfl, r4⟩
  clear HM
  have HM := Lib.hid r4; clear r4
  go_wp2_with fail
  refine (prupd_nil _ _ _ _ _ _).mono ?_
  rintro e w5 ⟨rfl, rfl⟩
  go_wp2_with fail
  refine (HM.out.prbest rfl).mono ?_
  rintro e w5 ⟨rfl, rfl⟩
  go_wp2_with fail
  refine (prbest_nil _).mono ?_
  rintro e w5 ⟨rfl, rfl⟩
  go_wp2_with fail
  refine (prin_nil _).mono ?_
  rintro e w5 ⟨rfl, rfl⟩
  go_wp2
  go_ret
  exact ⟨rfl, HM.out.bel⟩

set_option maxRecDepth 100000 in
theorem lifted (os : Os) (started : os.Started) (H : Type) (enc : TypeId × Value → H) :
    ReturnsInHanded {} Try.checked os 5 .any (Rows.probeWaySpec.pre6 enc Try.prog Try.f5 Rows.probeWayRow.domain false) (Rows.probeWaySpec.post enc Try.prog Try.f5 false true false false) := by
  refine returnsInHanded_of_change (C := Try.checked) own started (by kernel_rfl) Try.func5
    (ChangeSpec.witness6 (enc := enc) (C := Try.checked) false ⟨#[], #[.int .u64 0, .int .u64 0, .int .u64 0], []⟩ 8 (by kernel_rfl) (by kernel_rfl) (by kernel_rfl) (by kernel_rfl)) ?_
  intro W base args ds gs before hval0 hW hcnd _
  have hval : ∀ (j : Nat) t v, Try.f5.params[j]? = some t → args[j]? = some v → Value.okWide Try.prog W .any base t v := hval0
  have hW' := hW
  obtain ⟨p, q, hA0, hV, rfl, hfz, hnd⟩ := hW
  have hA : DataW.TrodAll enc Try.prog W 0 (fun _ => true) true Try.f5.params.toList args.toList ds p := hA0
  rw [Try.params5] at hA hval
  obtain ⟨v0, vs0, d0, ds0, p0, q0, hargs, rfl, rfl, h0, r0⟩ := trodAll_cons hA
  obtain ⟨v1, vs1, d1, ds1, p1, q1, rfl, rfl, rfl, h1, r1⟩ := trodAll_cons r0
  obtain ⟨v2, vs2, d2, ds2, p2, q2, rfl, rfl, rfl, h2, r2⟩ := trodAll_cons r1
  obtain ⟨rfl, rfl, rfl⟩ := trodAll_nil r2
  obtain rfl : args = #[v0, v1, v2] := by cases args; simp_all
  obtain ⟨rfl, rfl⟩ := trodVars_none hV
  obtain ⟨a0, rfl, rfl, rfl, w0⟩ := open_int Try.underlying26 (hval 0 26 v0 rfl rfl) h0
  obtain ⟨a1, rfl, rfl, rfl, w1⟩ := open_int Try.underlying26 (hval 1 26 v1 rfl rfl) h1
  obtain ⟨a2, rfl, rfl, rfl, w2⟩ := open_int Try.underlying26 (hval 2 26 v2 rfl rfl) h2
  clear hA0 hval0
  simp only [List.append_nil] at hW'
  refine (walk a0 a1 a2 w0 w1 w2 W).mono fun e W' ⟨he, hg⟩ => ?_
  subst he
  exact ⟨_, rfl, _, _, _, [], _, [], hW', trodAll_mk1 (shut_bool Try.underlying4 _), (trodAll_cons_mk (shut_int Try.underlying26 w0) (trodAll_cons_mk (shut_int Try.underlying26 w1) (trodAll_cons_mk (shut_int Try.underlying26 w2) trodAll_mk0))), rfl, hg.frame _, fun h => by cases h⟩

theorem over : Rows.probeWayRow.holds Try.pinned (OpenSpec.ofChange Rows.probeWaySpec) :=
  OpenClaim.holds_of_wide 5 Try.f5 rfl rfl rfl rfl rfl rfl rfl ⟨rfl, rfl, rfl, rfl, rfl⟩ rfl rfl rfl rfl rfl (by kernel_rfl) Try.func5 (by kernel_rfl)
    (of_decide_eq_true (by kernel_rfl)) (by unfold Func.isWrapper; first | (rw [if_pos (by decide +kernel)]; kernel_rfl) | (rw [if_neg (by decide +kernel)]; exact ⟨rfl, rfl⟩))
    (fun os started H enc _ => lifted os started H enc)

theorem proved : Rows.ProbeWaySaid :=
  over
end Go.Proofs.Ytnfikihpmbangaa.probeWay
namespace Go.Proofs.Ytnfikihpmbangaa
theorem probeWay_holds : Rows.ProbeWaySaid := probeWay.proved
#print axioms probeWay_holds
end Go.Proofs.Ytnfikihpmbangaa
