/-
  Proved: canterlaw20.FqWaits answers true at every two numbers. Conditions: none.
-/
import Derived.Test.YtnljjdfajmjdjaaRows
import Derived.Test.YtnljjdfajmjdjaaJ31
import Derived.Test.YtnljjdfajmjdjaaJ34
import Derived.WalkKit
import Derived.ProofKit
import Derived.OpenShut
import Derived.ShutString
import Derived.Below
namespace Go.Proofs.Ytnljjdfajmjdjaa.fqWaits
open Go.ChangeShapes Go.WideShapes Go.ChangeAt Go.RowKit
set_option maxRecDepth 100000
set_option linter.unusedVariables false

theorem own : ownKnob Try.prog.godebug = none := by kernel_rfl
theorem laidOut : laidOutB Try.prog = true := by kernel_rfl



set_option maxRecDepth 100000 in
set_option maxHeartbeats 4000000 in
theorem walk (a0 : Int) (a1 : Int) (w : World) (w0 : (Lit.int .u64 a0).wf = true) (w1 : (Lit.int .u64 a1).wf = true) :
    Calls Try.prog 10 #[.int .u64 a0, .int .u64 a1] w fun e w' => e = .returned (.bool true) ∧ Below w.heap.size w w' := by
  obtain ⟨a0l, a0h⟩ := bounds_u64 w0
  obtain ⟨a1l, a1h⟩ := bounds_u64 w1
  clear w0 w1
  have hw : IntKind.u64.wrap (1 + a0 % 10000000000) = 1 + a0 % 10000000000 := by rw [IntKind.wrap_u64]; omega
  obtain ⟨st, hst⟩ : ∃ st, 1 + a0 % 10000000000 = st := ⟨_, rfl⟩
  rw [hst] at hw
  have hst1 : 1 ≤ st ∧ st ≤ 10000000000 := by omega
  obtain ⟨ea, hea⟩ : ∃ ea, a1 % st = ea := ⟨_, rfl⟩
  have hea1 : 0 ≤ ea ∧ ea < st := by rw [← hea]; exact ⟨Int.emod_nonneg _ (by omega), Int.emod_lt_of_pos _ (by omega)⟩
  obtain ⟨x2, x3, fl, he, e2, ok2, s2, p2, d2, e3, ok3, d3⟩ := way_stamp (d := dlyQ [] plainC.r) (fun l z => (dlyQ_bd (fun _ h => by cases h) ⟨by decide, by decide⟩ l z).1) hst1 hea1.1 hea1.2
  have c2 : x2.c = plainC := (deq_c e2).trans (enq_c _ _ _)
  have HST := Lib.hid hst1; have HEA := Lib.hid hea1; have HE := Lib.hid he; have HE2 := Lib.hid e2; have HS2 := Lib.hid s2; have HP2 := Lib.hid p2; have HD2 := Lib.hid d2; have HE3 := Lib.hid e3; have HD3 := Lib.hid d3
  have HE3x : Hid (deqQ (dlyQ [] x2.c.r) x2 st = (x3, some ⟨3, 0, 7, st, false⟩)) := Lib.hid (by rw [c2]; exact e3)
  have hne : ¬ st = 0 := by omega
  have hne2 : (st == 0) = false := by simpa using hne
  clear hst1 hea1 he e2 ok2 s2 p2 d2 e3 ok3 d3
  go_enter Try.func10, Try.ntmps10
  go_wp2_with fail
  refine (plain_any w).mono ?_
  rintro e w1 ⟨rfl, k1⟩
  have R1 := Lib.hid (((Room.begin w).kept k1).box 24 #[.int .i64 3000, .int .i64 15000, .int .i64 100, .int .i64 50, .int .u64 10000000000, .int .u64 0, .bool false, .int .i64 100000, .int .i64 1000])
  clear k1
  go_upto_region 3 with fail
  try rw [hst]
  try rw [hw]
  clear hst
  go_upto_region 4 with fail
  try rw [hea]
  clear hea hne hne2 hw
  go_wp2_with fail
  refine (R1.out.fqnew plainC plain_ok).mono ?_
  rintro e w2 ⟨g, own, rfl, hr2⟩
  have R2 := Lib.hid hr2
  clear hr2 R1
  go_wp2_with fail
  refine (awakef_any w2).mono ?_
  rintro e w3 ⟨rfl, k3⟩
  have R3 := Lib.hid (R2.out.kept k3)
  clear k3 R2
  go_wp2_with fail
  refine (R3.out.fqenq ⟨3, 0, 7, st, false⟩ 0 u0 u0 ⟨by have := HST.out; dsimp only; omega, by have := HST.out; dsimp only; omega⟩).mono ?_
  rintro e w4 ⟨rfl, own4, hr4⟩
  have R4 := Lib.hid hr4
  clear hr4 R3
  go_wp2_with fail
  refine (R4.out.fqdeq0 (y := x2) (o := none) ea ⟨HEA.out.1, by have := HST.out; have := HEA.out; omega⟩ (by rw [enq_c]; exact HE2.out)).mono ?_
  rintro e w5 ⟨rfl, own5, hr5⟩
  have R5 := Lib.hid (hr5.box1 34 #[.int .i64 0, .int .u64 0, .int .i64 0, .int .u64 0, .bool false])
  clear hr5 R4
  dsimp only [Option.getD, Option.isSome, Sg.zero, Sg.v]
  go_wp2_with fail
  refine R5.out.fqdog.mono ?_
  rintro e w6 ⟨rfl, hr6⟩
  rw [(dog_opt x2).1, (dog_opt x2).2, HD2.out]
  dsimp only [Option.getD, Option.isSome]
  have R6 := Lib.hid hr6
  clear hr6 R5
  go_wp2_with fail
  refine (R6.out.fqflow_yes (i := 3) (by decide) HS2.out.T).mono ?_
  rintro e w7 ⟨V, rfl, hr7⟩
  obtain ⟨va, vc, rfl⟩ := sgs_shape hr7.get1
  rw [HS2.out.F] at hr7 ⊢
  have R7 := Lib.hid (hr7.box1 44 #[.int .i64 fl.s, .int .i64 fl.c, .int .i64 fl.p, .int .u64 fl.n, .int .u64 fl.u, .slice va fl.q.length vc])
  clear hr7 R6
  dsimp only [Fl.v]
  go_wp2_with fail
  refine (R7.out.fqdeq0 (y := x3) (o := some ⟨3, 0, 7, st, false⟩) st ⟨by have := HST.out; omega, by have := HST.out; omega⟩ HE3x.out).mono ?_
  rintro e w8 ⟨rfl, own8, hr8⟩
  have R8 := Lib.hid (hr8.box1 34 #[.int .i64 3, .int .u64 0, .int .i64 7, .int .u64 st, .bool false])
  clear hr8 R7
  dsimp only [Option.getD, Option.isSome, Sg.v]
  go_wp2_with fail
  refine R8.out.fqdog.mono ?_
  rintro e w9 ⟨rfl, hr9⟩
  rw [(dog_opt x3).1, (dog_opt x3).2, HD3.out]
  dsimp only [Option.getD, Option.isSome]
  have R9 := Lib.hid hr9
  clear hr9 R8
  have g8 : w9.cell? ⟨w8.heap.size, 3, none⟩ = some (.int .u64 st) := Whole.cell R9.out.get1 3
  have g7 : w9.cell? ⟨w7.heap.size, 2, none⟩ = some (.int .i64 3) := (Whole.cell R9.out.get2 2).trans (by show some (Value.int .i64 fl.p) = _; rw [HP2.out])
  go_wp2
  go_ret
  exact ⟨rfl, R9.out.bel⟩

set_option maxRecDepth 100000 in
theorem lifted (os : Os) (started : os.Started) (H : Type) (enc : TypeId × Value → H) :
    ReturnsInHanded {} Try.checked os 10 .any (Rows.fqWaitsSpec.pre6 enc Try.prog Try.f10 Rows.fqWaitsRow.domain false) (Rows.fqWaitsSpec.post enc Try.prog Try.f10 false true false false) := by
  refine returnsInHanded_of_change (C := Try.checked) own started (by kernel_rfl) Try.func10
    (ChangeSpec.witness6 (enc := enc) (C := Try.checked) false ⟨#[], #[.int .u64 0, .int .u64 0], []⟩ 8 (by kernel_rfl) (by kernel_rfl) (by kernel_rfl) (by kernel_rfl)) ?_
  intro W base args ds gs before hval0 hW hcnd _
  have hval : ∀ (j : Nat) t v, Try.f10.params[j]? = some t → args[j]? = some v → Value.okWide Try.prog W .any base t v := hval0
  have hW' := hW
  obtain ⟨p, q, hA0, hV, rfl, hfz, hnd⟩ := hW
  have hA : DataW.TrodAll enc Try.prog W 0 (fun _ => true) true Try.f10.params.toList args.toList ds p := hA0
  rw [Try.params10] at hA hval
  obtain ⟨v0, vs0, d0, ds0, p0, q0, hargs, rfl, rfl, h0, r0'⟩ := trodAll_cons hA
  obtain ⟨v1, vs1, d1, ds1, p1, q1, rfl, rfl, rfl, h1, r1'⟩ := trodAll_cons r0'
  obtain ⟨rfl, rfl, rfl⟩ := trodAll_nil r1'
  obtain rfl : args = #[v0, v1] := by cases args; simp_all
  obtain ⟨rfl, rfl⟩ := trodVars_none hV
  obtain ⟨a0, rfl, rfl, rfl, w0⟩ := open_int Try.underlying22 (hval 0 22 v0 rfl rfl) h0
  obtain ⟨a1, rfl, rfl, rfl, w1⟩ := open_int Try.underlying22 (hval 1 22 v1 rfl rfl) h1
  clear hA0 hval0
  refine (walk a0 a1 W w0 w1).mono fun e W' ⟨he, bel⟩ => ?_
  subst he
  exact ⟨_, rfl, _, _, _, [], _, [], hW', trodAll_mk1 (shut_bool Try.underlying4 _), (trodAll_cons_mk (shut_int Try.underlying22 w0) (trodAll_cons_mk (shut_int Try.underlying22 w1) trodAll_mk0)), rfl, bel.frame _, fun h => by cases h⟩

theorem over : Rows.fqWaitsRow.holds Try.pinned (OpenSpec.ofChange Rows.fqWaitsSpec) :=
  OpenClaim.holds_of_wide 10 Try.f10 rfl rfl rfl rfl rfl rfl rfl ⟨rfl, rfl, rfl, rfl, rfl⟩ rfl rfl rfl rfl rfl (by kernel_rfl) Try.func10 (by kernel_rfl)
    (of_decide_eq_true (by kernel_rfl)) (by unfold Func.isWrapper; first | (rw [if_pos (by decide +kernel)]; kernel_rfl) | (rw [if_neg (by decide +kernel)]; exact ⟨rfl, rfl⟩))
    (fun os started H enc _ => lifted os started H enc)

theorem proved : Rows.FqWaitsSaid := over
end Go.Proofs.Ytnljjdfajmjdjaa.fqWaits
namespace Go.Proofs.Ytnljjdfajmjdjaa
theorem fqWaits_holds : Rows.FqWaitsSaid := fqWaits.proved
#print axioms fqWaits_holds
end Go.Proofs.Ytnljjdfajmjdjaa
