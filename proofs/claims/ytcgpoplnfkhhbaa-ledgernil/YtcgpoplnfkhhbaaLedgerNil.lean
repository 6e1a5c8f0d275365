/-
  Proved: canterlaw07.LedgerNil answers true at every two numbers, and leaves its arguments as they were. Conditions: none.
-/
import Derived.Test.YtcgpoplnfkhhbaaRows
import Derived.WalkKit
import Derived.ProofKit
import Derived.OpenShut
import Derived.ShutString
import Derived.Test.YtcgpoplnfkhhbaaAwakeL
namespace Go.Proofs.Ytcgpoplnfkhhbaa.ledgerNil
open Go.ChangeShapes Go.WideShapes Go.ChangeAt Go.RowKit
open Go.ChangeMaps (open_string shut_string)
set_option linter.unusedVariables false

theorem own : ownKnob Try.prog.godebug = none := by kernel_rfl

theorem lcount_nil_is (sock : Int) (w : World) : Calls Try.prog 10 #[.pointer none, .int .i64 sock] w fun e w' => e = .returned (.tuple #[.agg #[.int .i64 0, .int .i64 0, .int .i64 0, .int .i64 0, .int .i64 0, .int .i64 0, .int .i64 0, .int .i64 0], .int .i64 2]) ∧ Keep (fun _ => False) w w' := lcount_nil sock w
theorem countM (F : Nat → Int) : countC F (-1) = ⟨0, 0, 0, 0, 0, 0, 0, 0⟩ ∧ checkE (-1) = 8 := ⟨rfl, rfl⟩
theorem count8 (F : Nat → Int) : countC F 8 = ⟨0, 0, 0, 0, 0, 0, 0, 0⟩ ∧ checkE 8 = 8 := ⟨rfl, rfl⟩
theorem noteA : noteE (fun _ => 0) 0 1 = 7 ∧ noteF (fun _ => 0) 0 1 = (fun _ => 0) := ⟨rfl, rfl⟩
theorem noteB : noteE (fun _ => 0) 0 6 = 1 ∧ noteF (fun _ => 0) 0 6 = (fun _ => 0) := ⟨rfl, rfl⟩
theorem noteC : noteE (fun _ => 0) 0 (-1) = 1 ∧ noteF (fun _ => 0) 0 (-1) = (fun _ => 0) := ⟨rfl, rfl⟩
theorem noteD (f : Int) : noteE (fun _ => 0) (-1) f = 8 ∧ noteF (fun _ => 0) (-1) f = (fun _ => 0) := ⟨rfl, rfl⟩

set_option maxHeartbeats 2000000 in
set_option maxRecDepth 100000 in
theorem walk (a0 : Int) (a1 : Int) (w0 : (Lit.int .i64 a0).wf = true) (w1 : (Lit.int .i64 a1).wf = true) (w : World) :
    Calls Try.prog 4 #[.int .i64 a0, .int .i64 a1] w fun e w' => e = .returned (.bool true) ∧ Below w.heap.size w w' := by
  clear w0 w1
  go_enter Try.func4, Try.ntmps4
  go_wp2_with fail
  refine (lcount_nil_is _ _).mono ?_
  rintro e w1 ⟨rfl, k1⟩
  have K1 := Lib.hid (k1.alloc (.cells #[.int .i64 0, .int .i64 0, .int .i64 0, .int .i64 0, .int .i64 0, .int .i64 0, .int .i64 0, .int .i64 0] 28)); clear k1
  go_wp2_with fail
  refine (lnew_any _).mono ?_
  rintro e w2 ⟨rfl, h2, k2⟩
  have hg2 : w.heap.size ≤ (w1.alloc (.cells #[.int .i64 0, .int .i64 0, .int .i64 0, .int .i64 0, .int .i64 0, .int .i64 0, .int .i64 0, .int .i64 0] 28)).heap.size := K1.out.size
  have H2 := Lib.hid h2; have K2 := Lib.hid (K1.out.trans k2); clear h2 k2 K1
  generalize (w1.alloc (.cells #[.int .i64 0, .int .i64 0, .int .i64 0, .int .i64 0, .int .i64 0, .int .i64 0, .int .i64 0, .int .i64 0] 28)).heap.size = g at *
  go_wp2_with fail
  refine (lcount_is (countM _) _ _ (by decide) H2.out).mono ?_
  rintro e w3 ⟨rfl, k3⟩
  have k3' := k3.alloc (.cells #[.int .i64 0, .int .i64 0, .int .i64 0, .int .i64 0, .int .i64 0, .int .i64 0, .int .i64 0, .int .i64 0] 28)
  have H3 := Lib.hid (H2.out.kept k3'); have K3 := Lib.hid (K2.out.trans k3'); clear k3 k3' H2 K2
  go_wp2_with fail
  refine (lcount_is (count8 _) _ _ (by decide) H3.out).mono ?_
  rintro e w4 ⟨rfl, k4⟩
  have k4' := k4.alloc (.cells #[.int .i64 0, .int .i64 0, .int .i64 0, .int .i64 0, .int .i64 0, .int .i64 0, .int .i64 0, .int .i64 0] 28)
  have H4 := Lib.hid (H3.out.kept k4'); have K4 := Lib.hid (K3.out.trans k4'); clear k4 k4' H3 K3
  go_wp2_with fail
  refine (awakel_any _).mono ?_
  rintro e w5 ⟨rfl, k5⟩
  have H5 := Lib.hid (H4.out.kept k5); have K5 := Lib.hid (K4.out.trans k5); clear k5 H4 K4
  go_wp2_with fail
  refine (note_nil _ _ _).mono ?_
  rintro e w' ⟨rfl, rfl⟩
  go_wp2_with fail
  refine (lall_nil _).mono ?_
  rintro e w6 ⟨B, rfl, t6, _, k6⟩
  have T6 := Lib.hid t6; have H6 := Lib.hid (H5.out.kept k6); have K6 := Lib.hid (K5.out.trans k6); clear t6 k6 H5 K5
  go_wp2_with fail
  refine (hallc_is (k := 0) rfl _ (by decide) _ T6.out).mono ?_
  rintro e w7 ⟨a, c, rfl, _, _, k7⟩
  have H7 := Lib.hid (H6.out.kept k7); have K7 := Lib.hid ((K6.out.trans k7).below (Nat.le_refl _) (fun _ h => h.elim)); clear k7 H6 K6
  go_wp2_with fail
  refine (note_is noteA _ _ (by decide) H7.out).mono ?_
  rintro e w8 ⟨rfl, h8, k8⟩
  have H8 := Lib.hid h8; have K8 := Lib.hid (K7.out.trans (k8.below K7.out.size (fun j h => by omega))); clear h8 k8 H7 K7
  go_wp2_with fail
  refine (note_is noteB _ _ (by decide) H8.out).mono ?_
  rintro e w9 ⟨rfl, h9, k9⟩
  have H9 := Lib.hid h9; have K9 := Lib.hid (K8.out.trans (k9.below K8.out.size (fun j h => by omega))); clear h9 k9 H8 K8
  go_wp2_with fail
  refine (note_is noteC _ _ (by decide) H9.out).mono ?_
  rintro e wA ⟨rfl, hA, kA⟩
  have HA := Lib.hid hA; have KA := Lib.hid (K9.out.trans (kA.below K9.out.size (fun j h => by omega))); clear hA kA H9 K9
  go_wp2_with fail
  refine (note_is (noteD _) _ _ (by decide) HA.out).mono ?_
  rintro e wB ⟨rfl, hB, kB⟩
  have KB := Lib.hid (KA.out.trans (kB.below KA.out.size (fun j h => by omega))); clear hB kB HA KA
  go_wp2
  go_ret
  exact ⟨rfl, KB.out⟩

set_option maxRecDepth 100000 in
theorem lifted (os : Os) (started : os.Started) (H : Type) (enc : TypeId × Value → H) :
    ReturnsInHanded {} Try.checked os 4 .any (Rows.ledgerNilSpec.pre6 enc Try.prog Try.f4 Rows.ledgerNilRow.domain false) (Rows.ledgerNilSpec.post enc Try.prog Try.f4 false true false false) := by
  refine returnsInHanded_of_change (C := Try.checked) own started (by kernel_rfl) Try.func4
    (ChangeSpec.witness6 (enc := enc) (C := Try.checked) false ⟨#[], #[.int .i64 0, .int .i64 0], []⟩ 8 (by kernel_rfl) (by kernel_rfl) (by kernel_rfl) (by kernel_rfl)) ?_
  intro W base args ds gs before hval0 hW hcnd _
  have hval : ∀ (j : Nat) t v, Try.f4.params[j]? = some t → args[j]? = some v → Value.okWide Try.prog W .any base t v := hval0
  have hW' := hW
  obtain ⟨p, q, hA0, hV, rfl, hfz, hnd⟩ := hW
  have hA : DataW.TrodAll enc Try.prog W 0 (fun _ => true) true Try.f4.params.toList args.toList ds p := hA0
  rw [Try.params4] at hA hval
  obtain ⟨v0, vs0, d0, ds0, p0, q0, hargs, rfl, rfl, h0, r0⟩ := trodAll_cons hA
  obtain ⟨v1, vs1, d1, ds1, p1, q1, rfl, rfl, rfl, h1, r1⟩ := trodAll_cons r0
  obtain ⟨rfl, rfl, rfl⟩ := trodAll_nil r1
  obtain rfl : args = #[v0, v1] := by cases args; simp_all
  obtain ⟨rfl, rfl⟩ := trodVars_none hV
  obtain ⟨a0, rfl, rfl, rfl, w0⟩ := open_int Try.underlying3 (hval 0 3 v0 rfl rfl) h0
  obtain ⟨a1, rfl, rfl, rfl, w1⟩ := open_int Try.underlying3 (hval 1 3 v1 rfl rfl) h1
  clear hA0 hval0
  simp only [List.append_nil] at hW'
  refine (walk a0 a1 w0 w1 W).mono fun e W' ⟨he, hg⟩ => ?_
  subst he
  exact ⟨_, rfl, _, _, _, [], _, [], hW', trodAll_mk1 (shut_bool Try.underlying4 _), (trodAll_cons_mk (shut_int Try.underlying3 w0) (trodAll_cons_mk (shut_int Try.underlying3 w1) trodAll_mk0)), rfl, hg.frame _, fun h => by cases h⟩

theorem over : Rows.ledgerNilRow.holds Try.pinned (OpenSpec.ofChange Rows.ledgerNilSpec) :=
  OpenClaim.holds_of_wide 4 Try.f4 rfl rfl rfl rfl rfl rfl rfl ⟨rfl, rfl, rfl, rfl, rfl⟩ rfl rfl rfl rfl rfl (by kernel_rfl) Try.func4 (by kernel_rfl)
    (of_decide_eq_true (by kernel_rfl)) (by unfold Func.isWrapper; first | (rw [if_pos (by decide +kernel)]; kernel_rfl) | (rw [if_neg (by decide +kernel)]; exact ⟨rfl, rfl⟩))
    (fun os started H enc _ => lifted os started H enc)

theorem proved : Rows.LedgerNilSaid :=
  over
end Go.Proofs.Ytcgpoplnfkhhbaa.ledgerNil
namespace Go.Proofs.Ytcgpoplnfkhhbaa
theorem ledgerNil_holds : Rows.LedgerNilSaid := ledgerNil.proved
#print axioms ledgerNil_holds
end Go.Proofs.Ytcgpoplnfkhhbaa
