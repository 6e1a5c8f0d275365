/-
  Proved: canterlaw14.CycleRound answers true at every three numbers, and leaves its arguments as they were. Conditions: none.
-/
import Derived.Test.YtaghndfoepkgnaaRows
import Derived.WalkKit
import Derived.ProofKit
import Derived.OpenShut
import Derived.ShutString
import Derived.Test.YtaghndfoepkgnaaAwakeY
import Derived.OwnWalk
namespace Go.Proofs.Ytaghndfoepkgnaa.cycleRound
open Go.ChangeShapes Go.WideShapes Go.ChangeAt Go.RowKit
open Go.ChangeMaps (open_string shut_string)
set_option linter.unusedVariables false

theorem own : ownKnob Try.prog.godebug = none := by kernel_rfl



set_option maxHeartbeats 4000000 in
set_option maxRecDepth 100000 in
theorem walk (a0 : Int) (a1 : Int) (a2 : Int) (w0 : (Lit.int .u64 a0).wf = true) (w1 : (Lit.int .i64 a1).wf = true) (w2 : (Lit.int .i64 a2).wf = true) (w : World) :
    Calls Try.prog 3 #[.int .u64 a0, .int .i64 a1, .int .i64 a2] w fun e w' => e = .returned (.bool true) ∧ Below w.heap.size w w' := by
  have b0 := bounds_u64 w0
  clear w0 w1 w2
  obtain ⟨u, hu⟩ : ∃ u : Nat, IntKind.u64.wrap a2 = (u : Int) := ⟨(IntKind.u64.wrap a2).toNat, by rw [IntKind.wrap_u64]; omega⟩
  obtain ⟨n, hn⟩ : ∃ n : Nat, (u : Int) % 40 = (n : Int) := ⟨u % 40, by omega⟩
  have hn1 : n < 40 := by omega
  go_enter Try.func3, Try.ntmps3
  go_wp2_with fail
  obtain ⟨R, hR⟩ : ∃ R : Int, a0 % 1000000 = R := ⟨_, rfl⟩
  have hR0 : 0 ≤ R := by omega
  have hR1 : R < 1000000 := by omega
  rw [hR]
  clear hR b0 hu hn
  refine ((Room.begin w).cynew).mono ?_
  rintro e w1 ⟨rfl, r1⟩
  have HM := Lib.hid r1; clear r1
  generalize w.heap.size = g at *
  go_wp2_with fail
  refine HM.out.awakey.mono ?_
  rintro e w2 ⟨rfl, r2⟩
  clear HM
  have HM := Lib.hid r2; clear r2
  go_wp2_with fail
  obtain ⟨F, hF⟩ : ∃ F : Int, a1 % 8 = F := ⟨_, rfl⟩
  have hF0 : 0 ≤ F := by omega
  have hF7 : F ≤ 7 := by omega
  have HS : Hid (startC 0 a1 = ⟨F, 0⟩) := Lib.hid (by rw [startC, hF])
  clear hF
  refine (HM.out.cystart HS.out ⟨by decide, by decide⟩).mono ?_
  rintro e w4 ⟨⟨_, rfl⟩, r4⟩
  clear HM HS
  have HM := Lib.hid r4; clear r4
  go_wp2_with fail
  refine (HM.out.cyphase rfl).mono ?_
  rintro e w4 ⟨rfl, rfl⟩
  go_wp2
  go_loopg [8, 9, 11] n (fun j s8 s9 i wr => ∃ (k : Nat) (D : Int), k + j = n ∧ k ≤ n ∧ i = .int .i64 k ∧ s8 = .int .u64 D ∧ s9 = .int .u64 (sumC F k) ∧ 0 ≤ D ∧ D ≤ k * 1000000 ∧ Room w wr [cycT g ⟨(F + k) % 8, D⟩])
  case atStart => exact ⟨0, 0, by omega, Nat.zero_le _, rfl, rfl, rfl, by omega, by omega, by rw [show (F + ((0 : Nat) : Int)) % 8 = F by omega]; exact HM.out⟩
  case round =>
    clear HM
    obtain ⟨k, D, hk40, hk1, rfl, rfl, rfl, hD0, hD1, hRm⟩ := hrel
    have HM := Lib.hid hRm; clear hRm
    by_cases hlt : k < n
    · have hi1 : (k : Int) < (n : Int) := by omega
      have hwk : IntKind.i64.wrap (F + k) = F + k := by rw [IntKind.wrap_i64]; omega
      have htm : (F + (k : Int)).tmod 8 = (F + k) % 8 := Int.tmod_eq_emod_of_nonneg (by omega)
      have hD2 : D ≤ 40000000 := by omega
      have ND : Hid (Num (D + R)) := Lib.hid ⟨by omega, by omega⟩
      have NN : Hid (Num (D + R + 1)) := Lib.hid ⟨by omega, by omega⟩
      have hs1 : satSub (D + R) D = R := by rw [satSub_ge (by omega)]; omega
      have hs2 : satSub (D + R + 1) D = R + 1 := by rw [satSub_ge (by omega)]; omega
      have hb2 : begC ⟨(F + k) % 8, D⟩ ⟨D + R + 1, R, 1, 1, 0, 0⟩ = true := begC_long (by show R < satSub (D + R + 1) D; omega) (by decide)
      have HU2 : Hid (begC ⟨(F + k) % 8, D⟩ ⟨D + R + 1, R, 1, 1, 0, 0⟩ = true ∧ updC ⟨(F + k) % 8, D⟩ ⟨D + R + 1, R, 1, 1, 0, 0⟩ = ⟨(F + (k + 1 : Nat)) % 8, D + R + 1⟩) := Lib.hid ⟨hb2, by
        rw [updC_yes hb2]; show (⟨((F + k) % 8 + 1) % 8, D + R + 1⟩ : Cst) = _; rw [show ((F + (k : Int)) % 8 + 1) % 8 = (F + (k + 1 : Nat)) % 8 by omega]⟩
      clear hs2 hb2
      by_cases hp1 : (F + (k : Int)) % 8 = 1
      · have q1 : ((F + (k : Int)) % 8 != 1) = false := by simp [hp1]
        clear hp1 hs1
        go_wp2_with fail
        refine (HM.out.cyphase (p := (F + k) % 8) rfl).mono ?_
        rintro e w4 ⟨rfl, rfl⟩
        go_wp2_with fail
        refine (HM.out.cyphase (p := (F + k) % 8) rfl).mono ?_
        rintro e w4 ⟨rfl, rfl⟩
        by_cases h8 : k < 8
        · have hk8 : (k : Int) < 8 := by omega
          have HSU : Hid (Value.int .u64 (sumC F k + gainC ⟨(F + k) % 8, 0⟩) = .int .u64 (sumC F (k + 1))) := Lib.hid (by rw [sumC, if_pos h8])
          have hgb := gainC_bd ⟨(F + k) % 8, 0⟩
          have hsb := sumC_bd F k
          have HGV : Hid (gainC ⟨(F + k) % 8, D⟩ = gainC ⟨(F + k) % 8, 0⟩) := Lib.hid rfl
          generalize gainC ⟨(F + k) % 8, 0⟩ = G at *
          generalize sumC F k = SK at *
          go_wp2_with fail
          refine (HM.out.cygain HGV.out).mono ?_
          rintro e w4 ⟨rfl, rfl⟩
          go_wp2_with fail
          refine (HM.out.cyupd HU2.out NN.out).mono ?_
          rintro e w4 ⟨rfl, r4⟩
          have R4 := Lib.hid r4; clear r4 HM
          go_wp2
          go_roundg (gk - 1)
          case measure => omega
          case rel => exact ⟨k + 1, _, by omega, by omega, by go_num, rfl, HSU.out, by omega, by omega, R4.out⟩
        · have hk8 : ¬ (k : Int) < 8 := by omega
          have HSU : Hid (Value.int .u64 (sumC F k) = .int .u64 (sumC F (k + 1))) := Lib.hid (by rw [sumC, if_neg h8])
          generalize sumC F k = SK at *
          go_wp2_with fail
          refine (HM.out.cyupd HU2.out NN.out).mono ?_
          rintro e w4 ⟨rfl, r4⟩
          have R4 := Lib.hid r4; clear r4 HM
          go_wp2
          go_roundg (gk - 1)
          case measure => omega
          case rel => exact ⟨k + 1, _, by omega, by omega, by go_num, rfl, HSU.out, by omega, by omega, R4.out⟩
      · have q1 : ((F + (k : Int)) % 8 != 1) = true := by simp [hp1]
        have hb1 : begC ⟨(F + k) % 8, D⟩ ⟨D + R, R, 1, 0, 0, 0⟩ = false := begC_short (by show ¬ R < satSub (D + R) D; omega) hp1
        have HU1 : Hid (begC ⟨(F + k) % 8, D⟩ ⟨D + R, R, 1, 0, 0, 0⟩ = false ∧ updC ⟨(F + k) % 8, D⟩ ⟨D + R, R, 1, 0, 0, 0⟩ = ⟨(F + k) % 8, D⟩) := Lib.hid ⟨hb1, updC_no hb1⟩
        clear hp1 hs1 hb1
        go_wp2_with fail
        refine (HM.out.cyphase (p := (F + k) % 8) rfl).mono ?_
        rintro e w4 ⟨rfl, rfl⟩
        go_wp2_with fail
        refine (HM.out.cyphase (p := (F + k) % 8) rfl).mono ?_
        rintro e w4 ⟨rfl, rfl⟩
        go_wp2_with fail
        refine (HM.out.cyupd HU1.out ND.out).mono ?_
        rintro e w4 ⟨rfl, r4⟩
        clear HM
        have HM := Lib.hid r4; clear r4
        by_cases h8 : k < 8
        · have hk8 : (k : Int) < 8 := by omega
          have HSU : Hid (Value.int .u64 (sumC F k + gainC ⟨(F + k) % 8, 0⟩) = .int .u64 (sumC F (k + 1))) := Lib.hid (by rw [sumC, if_pos h8])
          have hgb := gainC_bd ⟨(F + k) % 8, 0⟩
          have hsb := sumC_bd F k
          have HGV : Hid (gainC ⟨(F + k) % 8, D⟩ = gainC ⟨(F + k) % 8, 0⟩) := Lib.hid rfl
          generalize gainC ⟨(F + k) % 8, 0⟩ = G at *
          generalize sumC F k = SK at *
          go_wp2_with fail
          refine (HM.out.cygain HGV.out).mono ?_
          rintro e w4 ⟨rfl, rfl⟩
          go_wp2_with fail
          refine (HM.out.cyupd HU2.out NN.out).mono ?_
          rintro e w4 ⟨rfl, r4⟩
          have R4 := Lib.hid r4; clear r4 HM
          go_wp2
          go_roundg (gk - 1)
          case measure => omega
          case rel => exact ⟨k + 1, _, by omega, by omega, by go_num, rfl, HSU.out, by omega, by omega, R4.out⟩
        · have hk8 : ¬ (k : Int) < 8 := by omega
          have HSU : Hid (Value.int .u64 (sumC F k) = .int .u64 (sumC F (k + 1))) := Lib.hid (by rw [sumC, if_neg h8])
          generalize sumC F k = SK at *
          go_wp2_with fail
          refine (HM.out.cyupd HU2.out NN.out).mono ?_
          rintro e w4 ⟨rfl, r4⟩
          have R4 := Lib.hid r4; clear r4 HM
          go_wp2
          go_roundg (gk - 1)
          case measure => omega
          case rel => exact ⟨k + 1, _, by omega, by omega, by go_num, rfl, HSU.out, by omega, by omega, R4.out⟩
    · have hi1 : ¬ (k : Int) < (n : Int) := by omega
      obtain rfl : k = n := by omega
      by_cases h8 : k < 8
      · have hk8 : (k : Int) < 8 := by omega
        generalize sumC F k = SK at *
        go_wp2_with fail
        refine (cystart_nil _ _ _).mono ?_
        rintro e w4 ⟨⟨_, rfl⟩, rfl⟩
        go_wp2_with fail
        refine (cyphase_nil _).mono ?_
        rintro e w4 ⟨rfl, rfl⟩
        go_wp2_with fail
        refine (cygain_nil _).mono ?_
        rintro e w4 ⟨rfl, rfl⟩
        go_wp2_with fail
        refine (cyupd_nil _ _ _ _ _ _ _).mono ?_
        rintro e w4 ⟨rfl, rfl⟩
        go_wp2
        go_ret
        exact ⟨rfl, HM.out.bel⟩
      · have hk8 : ¬ (k : Int) < 8 := by omega
        have hsum := sumC_all hF0 hF7 k (by omega)
        rw [hsum]
        clear hsum
        go_wp2_with fail
        refine (cystart_nil _ _ _).mono ?_
        rintro e w4 ⟨⟨_, rfl⟩, rfl⟩
        go_wp2_with fail
        refine (cyphase_nil _).mono ?_
        rintro e w4 ⟨rfl, rfl⟩
        go_wp2_with fail
        refine (cygain_nil _).mono ?_
        rintro e w4 ⟨rfl, rfl⟩
        go_wp2_with fail
        refine (cyupd_nil _ _ _ _ _ _ _).mono ?_
        rintro e w4 ⟨rfl, rfl⟩
        go_wp2
        go_ret
        exact ⟨rfl, HM.out.bel⟩

set_option maxRecDepth 100000 in
theorem lifted (os : Os) (started : os.Started) (H : Type) (enc : TypeId × Value → H) :
    ReturnsInHanded {} Try.checked os 3 .any (Rows.cycleRoundSpec.pre6 enc Try.prog Try.f3 Rows.cycleRoundRow.domain false) (Rows.cycleRoundSpec.post enc Try.prog Try.f3 false true false false) := by
  refine returnsInHanded_of_change (C := Try.checked) own started (by kernel_rfl) Try.func3
    (ChangeSpec.witness6 (enc := enc) (C := Try.checked) false ⟨#[], #[.int .u64 0, .int .i64 0, .int .i64 0], []⟩ 8 (by kernel_rfl) (by kernel_rfl) (by kernel_rfl) (by kernel_rfl)) ?_
  intro W base args ds gs before hval0 hW hcnd _
  have hval : ∀ (j : Nat) t v, Try.f3.params[j]? = some t → args[j]? = some v → Value.okWide Try.prog W .any base t v := hval0
  have hW' := hW
  obtain ⟨p, q, hA0, hV, rfl, hfz, hnd⟩ := hW
  have hA : DataW.TrodAll enc Try.prog W 0 (fun _ => true) true Try.f3.params.toList args.toList ds p := hA0
  rw [Try.params3] at hA hval
  obtain ⟨v0, vs0, d0, ds0, p0, q0, hargs, rfl, rfl, h0, r0⟩ := trodAll_cons hA
  obtain ⟨v1, vs1, d1, ds1, p1, q1, rfl, rfl, rfl, h1, r1⟩ := trodAll_cons r0
  obtain ⟨v2, vs2, d2, ds2, p2, q2, rfl, rfl, rfl, h2, r2⟩ := trodAll_cons r1
  obtain ⟨rfl, rfl, rfl⟩ := trodAll_nil r2
  obtain rfl : args = #[v0, v1, v2] := by cases args; simp_all
  obtain ⟨rfl, rfl⟩ := trodVars_none hV
  obtain ⟨a0, rfl, rfl, rfl, w0⟩ := open_int Try.underlying22 (hval 0 22 v0 rfl rfl) h0
  obtain ⟨a1, rfl, rfl, rfl, w1⟩ := open_int Try.underlying3 (hval 1 3 v1 rfl rfl) h1
  obtain ⟨a2, rfl, rfl, rfl, w2⟩ := open_int Try.underlying3 (hval 2 3 v2 rfl rfl) h2
  clear hA0 hval0
  simp only [List.append_nil] at hW'
  refine (walk a0 a1 a2 w0 w1 w2 W).mono fun e W' ⟨he, hg⟩ => ?_
  subst he
  exact ⟨_, rfl, _, _, _, [], _, [], hW', trodAll_mk1 (shut_bool Try.underlying4 _), (trodAll_cons_mk (shut_int Try.underlying22 w0) (trodAll_cons_mk (shut_int Try.underlying3 w1) (trodAll_cons_mk (shut_int Try.underlying3 w2) trodAll_mk0))), rfl, hg.frame _, fun h => by cases h⟩

theorem over : Rows.cycleRoundRow.holds Try.pinned (OpenSpec.ofChange Rows.cycleRoundSpec) :=
  OpenClaim.holds_of_wide 3 Try.f3 rfl rfl rfl rfl rfl rfl rfl ⟨rfl, rfl, rfl, rfl, rfl⟩ rfl rfl rfl rfl rfl (by kernel_rfl) Try.func3 (by kernel_rfl)
    (of_decide_eq_true (by kernel_rfl)) (by unfold Func.isWrapper; first | (rw [if_pos (by decide +kernel)]; kernel_rfl) | (rw [if_neg (by decide +kernel)]; exact ⟨rfl, rfl⟩))
    (fun os started H enc _ => lifted os started H enc)

theorem proved : Rows.CycleRoundSaid :=
  over
end Go.Proofs.Ytaghndfoepkgnaa.cycleRound
namespace Go.Proofs.Ytaghndfoepkgnaa
theorem cycleRound_holds : Rows.CycleRoundSaid := cycleRound.proved
#print axioms cycleRound_holds
end Go.Proofs.Ytaghndfoepkgnaa
