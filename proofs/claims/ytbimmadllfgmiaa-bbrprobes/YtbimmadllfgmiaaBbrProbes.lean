/-
  Proved: canterlaw17.BbrProbes answers true at every number, and leaves its argument as it was. Conditions: none.
-/
import Derived.Test.YtbimmadllfgmiaaRows
import Derived.WalkKit
import Derived.ProofKit
import Derived.OpenShut
import Derived.ShutString
import Derived.Test.YtbimmadllfgmiaaAwakeM
import Derived.Test.YtbimmadllfgmiaaBbrStep
import Derived.OwnWalk
namespace Go.Proofs.Ytbimmadllfgmiaa.bbrProbes
open Go.ChangeShapes Go.WideShapes Go.ChangeAt Go.RowKit
open Go.ChangeMaps (open_string shut_string)
set_option linter.unusedVariables false

theorem own : ownKnob Try.prog.godebug = none := by kernel_rfl

theorem fit9 {n d p i r a f : Int} (h1 : Num n) (h2 : Num d) (h3 : Num p) (h4 : Num i) (h5 : Num r) (h6 : Num a) (h7 : Num f) : Spl.Fit ⟨n, d, p, i, r, a, 0, f, false⟩ := ⟨h1, h2, h3, h4, h5, h6, num00, h7⟩

set_option maxHeartbeats 4000000 in
set_option maxRecDepth 100000 in
theorem walk (a0 : Int) (w0 : (Lit.int .u64 a0).wf = true) (w : World) :
    Calls Try.prog 8 #[.int .u64 a0] w fun e w' => e = .returned (.bool true) ∧ Below w.heap.size w w' := by
  obtain ⟨v0, v1⟩ := bounds_u64 w0
  clear w0
  obtain ⟨N, hN⟩ : ∃ N, 10000001001 + a0 % 1000 = N := ⟨_, rfl⟩
  have hn0 : 10000001001 ≤ N ∧ N ≤ 10000002000 := by omega
  have HN := Lib.hid hn0
  have w1' : IntKind.u64.wrap (N + 1) = N + 1 := by rw [IntKind.wrap_u64]; omega
  have w2' : IntKind.u64.wrap (N + 200000000) = N + 200000000 := by rw [IntKind.wrap_u64]; omega
  have w3' : IntKind.u64.wrap (N + 2) = N + 2 := by rw [IntKind.wrap_u64]; omega
  have w4' : IntKind.u64.wrap (N + 2 + 200000000) = N + 2 + 200000000 := by rw [IntKind.wrap_u64]; omega
  have n1 : Hid (Num N ∧ Num (N + 1) ∧ Num (N + 200000000) ∧ Num (N + 2 + 200000000)) := Lib.hid ⟨⟨by omega, by omega⟩, ⟨by omega, by omega⟩, ⟨by omega, by omega⟩, ⟨by omega, by omega⟩⟩
  have hf3 := Try.fieldM3
  clear hn0
  go_enter Try.func8, Try.ntmps8
  go_wp2_with fail
  refine ((Room.begin w).modnew ⟨by decide, by decide⟩).mono ?_
  rintro e w1 ⟨g, rfl, r1⟩
  have R1 := Lib.hid r1; clear r1
  go_wp2_with fail
  refine R1.out.awakem.mono ?_
  rintro e w2 ⟨rfl, r2⟩
  have R2 := Lib.hid r2; clear r2 R1
  go_wp2_with fail
  refine (R2.out.modupd (v := staC px1) (s := ⟨1000, 10000, 0, 1000, 1000, 10000, 0, 10000, false⟩) prb1 rfl (fit9 ⟨by decide, by decide⟩ ⟨by decide, by decide⟩ ⟨by decide, by decide⟩ ⟨by decide, by decide⟩ ⟨by decide, by decide⟩ ⟨by decide, by decide⟩ ⟨by decide, by decide⟩) ⟨by decide, by decide⟩ (by decide)).mono ?_
  rintro e w3 ⟨rfl, r3⟩
  have R3 := Lib.hid r3; clear r3 R2
  go_wp2_with fail
  refine (R3.out.modsta (v := #[.int .i64 0, .int .i64 0, .int .u64 28867187500, .int .u64 20000, .int .u64 10000000000, .int .u64 1000, .int .u64 739, .int .u64 1, .bool false, .bool false]) (by kernel_rfl)).mono ?_
  rintro e w4 ⟨rfl, r4⟩
  have R4 := Lib.hid r4; clear r4 R3
  go_wp2_with fail
  clear hN v0 v1
  refine (R4.out.modupd (v := #[.int .i64 3, .int .i64 0, .int .u64 28867187500, .int .u64 4000, .int .u64 10000000000, .int .u64 2000, .int .u64 256, .int .u64 2, .bool false, .bool false]) (prb2 HN.out.1 HN.out.2) (by kernel_rfl) (fit9 n1.out.1 ⟨by decide, by decide⟩ ⟨by decide, by decide⟩ ⟨by decide, by decide⟩ ⟨by decide, by decide⟩ ⟨by decide, by decide⟩ ⟨by decide, by decide⟩) ⟨by decide, by decide⟩ (by decide)).mono ?_
  rintro e w5 ⟨rfl, r5⟩
  have R5 := Lib.hid (r5.box1 28 #[.int .i64 3, .int .i64 0, .int .u64 28867187500, .int .u64 4000, .int .u64 10000000000, .int .u64 2000, .int .u64 256, .int .u64 2, .bool false, .bool false]); clear r5 R4
  go_upto_region 9 with fail
  generalize hw6 : World.alloc w5 _ = w6 at *
  generalize w5.heap.size = b6 at *
  clear hw6
  go_wp2_with fail
  refine (R5.out.modupd (v := #[.int .i64 3, .int .i64 0, .int .u64 28867187500, .int .u64 4000, .int .u64 10000000000, .int .u64 2000, .int .u64 256, .int .u64 3, .bool false, .bool false]) (prb3 HN.out.1 HN.out.2) (by kernel_rfl) (fit9 n1.out.2.1 ⟨by decide, by decide⟩ ⟨by decide, by decide⟩ ⟨by decide, by decide⟩ ⟨by decide, by decide⟩ ⟨by decide, by decide⟩ ⟨by decide, by decide⟩) ⟨by decide, by decide⟩ (show (2 : Int) < 18446744073709551615 by decide)).mono ?_
  rintro e w7 ⟨rfl, r7⟩
  have R7 := Lib.hid (r7.box1 28 #[.int .i64 3, .int .i64 0, .int .u64 28867187500, .int .u64 4000, .int .u64 10000000000, .int .u64 2000, .int .u64 256, .int .u64 3, .bool false, .bool false]); clear r7 R5
  go_upto_region 10 with fail
  generalize hw8 : World.alloc w7 _ = w8 at *
  generalize w7.heap.size = b7 at *
  clear hw8
  go_wp2_with fail
  refine (R7.out.modupd (v := #[.int .i64 3, .int .i64 0, .int .u64 10000000000, .int .u64 4000, .int .u64 10000000000, .int .u64 2000, .int .u64 256, .int .u64 4, .bool true, .bool false]) (prb4 HN.out.1 HN.out.2) (by kernel_rfl) (fit9 n1.out.2.2.1 ⟨by decide, by decide⟩ ⟨by decide, by decide⟩ ⟨by decide, by decide⟩ ⟨by decide, by decide⟩ ⟨by decide, by decide⟩ ⟨by decide, by decide⟩) ⟨by decide, by decide⟩ (show (3 : Int) < 18446744073709551615 by decide)).mono ?_
  rintro e w9 ⟨rfl, r9⟩
  have R9 := Lib.hid (r9.box1 28 #[.int .i64 3, .int .i64 0, .int .u64 10000000000, .int .u64 4000, .int .u64 10000000000, .int .u64 2000, .int .u64 256, .int .u64 4, .bool true, .bool false]); clear r9 R7
  go_upto_region 11 with fail
  generalize hwa : World.alloc w9 _ = wa at *
  generalize w9.heap.size = b8 at *
  clear hwa
  go_wp2_with fail
  refine (R9.out.modupd (v := #[.int .i64 2, .int .i64 2, .int .u64 10000000000, .int .u64 21000, .int .u64 10000000000, .int .u64 2000, .int .u64 256, .int .u64 5, .bool true, .bool false]) (prb5 HN.out.1 HN.out.2) (by kernel_rfl) (fit9 n1.out.2.2.2 ⟨by decide, by decide⟩ ⟨by decide, by decide⟩ ⟨by decide, by decide⟩ ⟨by decide, by decide⟩ ⟨by decide, by decide⟩ ⟨by decide, by decide⟩) ⟨by decide, by decide⟩ (show (4 : Int) < 18446744073709551615 by decide)).mono ?_
  rintro e wb ⟨rfl, rb⟩
  have RB := Lib.hid (rb.box1 28 #[.int .i64 2, .int .i64 2, .int .u64 10000000000, .int .u64 21000, .int .u64 10000000000, .int .u64 2000, .int .u64 256, .int .u64 5, .bool true, .bool false]); clear rb R9
  go_upto_region 12 with fail
  generalize hwd : World.alloc wb _ = wd at *
  generalize wb.heap.size = b9 at *
  clear hwd
  have B9 := (show Whole wd b9 _ _ from RB.out.get1)
  have B8 := (show Whole wd b8 _ _ from RB.out.get2)
  have B7 := (show Whole wd b7 _ _ from RB.out.get3)
  have B6 := (show Whole wd b6 28 #[.int .i64 3, .int .i64 0, .int .u64 28867187500, .int .u64 4000, .int .u64 10000000000, .int .u64 2000, .int .u64 256, .int .u64 2, .bool false, .bool false] from RB.out.all (blkT b6 28 #[.int .i64 3, .int .i64 0, .int .u64 28867187500, .int .u64 4000, .int .u64 10000000000, .int .u64 2000, .int .u64 256, .int .u64 2, .bool false, .bool false]) (by simp))
  have c0 : wd.cell? ⟨b6, 0, none⟩ = some (.int .i64 3) := B6.cell 0
  have c1 : wd.cell? ⟨b6, 3, none⟩ = some (.int .u64 4000) := B6.cell 3
  have c2 : wd.cell? ⟨b6, 6, none⟩ = some (.int .u64 256) := B6.cell 6
  have c3 : wd.cell? ⟨b7, 0, none⟩ = some (.int .i64 3) := B7.cell 0
  have c4 : wd.cell? ⟨b8, 0, none⟩ = some (.int .i64 3) := B8.cell 0
  have c5 : wd.cell? ⟨b8, 8, none⟩ = some (.bool true) := B8.cell 8
  have c6 : wd.cell? ⟨b9, 0, none⟩ = some (.int .i64 2) := B9.cell 0
  have c7 : wd.cell? ⟨b9, 3, none⟩ = some (.int .u64 21000) := B9.cell 3
  have c8 : wd.cell? ⟨b9, 5, none⟩ = some (.int .u64 2000) := B9.cell 5
  clear B6 B7 B8 B9
  go_wp2
  go_ret
  exact ⟨rfl, RB.out.bel⟩

set_option maxRecDepth 100000 in
theorem lifted (os : Os) (started : os.Started) (H : Type) (enc : TypeId × Value → H) :
    ReturnsInHanded {} Try.checked os 8 .any (Rows.bbrProbesSpec.pre6 enc Try.prog Try.f8 Rows.bbrProbesRow.domain false) (Rows.bbrProbesSpec.post enc Try.prog Try.f8 false true false false) := by
  refine returnsInHanded_of_change (C := Try.checked) own started (by kernel_rfl) Try.func8
    (ChangeSpec.witness6 (enc := enc) (C := Try.checked) false ⟨#[], #[.int .u64 0], []⟩ 8 (by kernel_rfl) (by kernel_rfl) (by kernel_rfl) (by kernel_rfl)) ?_
  intro W base args ds gs before hval0 hW hcnd _
  have hval : ∀ (j : Nat) t v, Try.f8.params[j]? = some t → args[j]? = some v → Value.okWide Try.prog W .any base t v := hval0
  have hW' := hW
  obtain ⟨p, q, hA0, hV, rfl, hfz, hnd⟩ := hW
  have hA : DataW.TrodAll enc Try.prog W 0 (fun _ => true) true Try.f8.params.toList args.toList ds p := hA0
  rw [Try.params8] at hA hval
  obtain ⟨v0, vs0, d0, ds0, p0, q0, hargs, rfl, rfl, h0, r0⟩ := trodAll_cons hA
  obtain ⟨rfl, rfl, rfl⟩ := trodAll_nil r0
  obtain rfl : args = #[v0] := by cases args; simp_all
  obtain ⟨rfl, rfl⟩ := trodVars_none hV
  obtain ⟨a0, rfl, rfl, rfl, w0⟩ := open_int Try.underlying22 (hval 0 22 v0 rfl rfl) h0
  clear hA0 hval0
  simp only [List.append_nil] at hW'
  refine (walk a0 w0 W).mono fun e W' ⟨he, hg⟩ => ?_
  subst he
  exact ⟨_, rfl, _, _, _, [], _, [], hW', trodAll_mk1 (shut_bool Try.underlying4 _), (trodAll_cons_mk (shut_int Try.underlying22 w0) trodAll_mk0), rfl, hg.frame _, fun h => by cases h⟩

theorem over : Rows.bbrProbesRow.holds Try.pinned (OpenSpec.ofChange Rows.bbrProbesSpec) :=
  OpenClaim.holds_of_wide 8 Try.f8 rfl rfl rfl rfl rfl rfl rfl ⟨rfl, rfl, rfl, rfl, rfl⟩ rfl rfl rfl rfl rfl (by kernel_rfl) Try.func8 (by kernel_rfl)
    (of_decide_eq_true (by kernel_rfl)) (by unfold Func.isWrapper; first | (rw [if_pos (by decide +kernel)]; kernel_rfl) | (rw [if_neg (by decide +kernel)]; exact ⟨rfl, rfl⟩))
    (fun os started H enc _ => lifted os started H enc)

theorem proved : Rows.BbrProbesSaid :=
  over
end Go.Proofs.Ytbimmadllfgmiaa.bbrProbes
namespace Go.Proofs.Ytbimmadllfgmiaa
theorem bbrProbes_holds : Rows.BbrProbesSaid := bbrProbes.proved
#print axioms bbrProbes_holds
end Go.Proofs.Ytbimmadllfgmiaa
