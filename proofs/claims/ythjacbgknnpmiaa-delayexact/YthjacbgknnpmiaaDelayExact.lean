/-
  Proved: canterlaw18.DelayExact answers true at every two numbers, and leaves its arguments as they were. Conditions: none.
-/
import Derived.Test.YthjacbgknnpmiaaRows
import Derived.WalkKit
import Derived.ProofKit
import Derived.OpenShut
import Derived.ShutString
import Derived.Test.YthjacbgknnpmiaaDelMath
import Derived.Deep.QuietTactic
import Derived.BigQuiet
namespace Go.Proofs.Ythjacbgknnpmiaa.delayExact
open Go.ChangeShapes Go.WideShapes Go.ChangeAt Go.RowKit
open Go.ChangeMaps (open_string shut_string)
set_option linter.unusedVariables false

theorem own : ownKnob Try.prog.godebug = none := by kernel_rfl

/-- The law's own two numbers: from 1 to 100000, and no less a rate. -/
theorem exact_nums (a b : Int) (b0 : 0 ≤ b) : ∃ n m r q : Int, (IntKind.u64.wrap a).tmod 100000 = n ∧ wrap64 n = n ∧ wrap64 (1 + n) = m ∧ IntKind.u64.wrap m = m ∧ b % 1000000000 = r ∧ IntKind.u64.wrap (m + r) = q ∧ 1 ≤ m ∧ m ≤ 100000 ∧ m ≤ q ∧ q ≤ 2000000000 := by
  have h0 : 0 ≤ IntKind.u64.wrap a := by rw [IntKind.wrap_u64]; omega
  refine ⟨(IntKind.u64.wrap a).tmod 100000, 1 + (IntKind.u64.wrap a).tmod 100000, b % 1000000000, 1 + (IntKind.u64.wrap a).tmod 100000 + b % 1000000000, rfl, ?_, ?_, ?_, rfl, ?_, ?_, ?_, ?_, ?_⟩
  all_goals rw [Int.tmod_eq_emod_of_nonneg h0]
  all_goals generalize IntKind.u64.wrap a = x at *
  · unfold wrap64; omega
  · unfold wrap64; omega
  · rw [IntKind.wrap_u64]; omega
  · rw [IntKind.wrap_u64]; omega
  all_goals omega

set_option maxHeartbeats 1000000 in
theorem walk (a0 : Int) (a1 : Int) (w0 : (Lit.int .i64 a0).wf = true) (w1 : (Lit.int .u64 a1).wf = true) (w : World) :
    Calls Try.prog 6 #[.int .i64 a0, .int .u64 a1] w fun e w' => e = .returned (.bool true) ∧ Grown w w' := by
  obtain ⟨r0, r1⟩ := bounds_u64 w1
  clear w0 w1
  obtain ⟨n, m, r, q, hn, hw1, hw2, hw3, hr, hq, m0, m1, q0, q1⟩ := exact_nums a0 a1 r0
  have HE := Lib.hid (delV_exact (n := m) (r := q) m0 q0 (by omega))
  have HS := Lib.hid (delV_same (n := m) m0 (by omega))
  have HO := Lib.hid (delV_one (n := m) m0)
  have hp : IntKind.u64.wrap (m * 1000000000) = m * 1000000000 := by rw [IntKind.wrap_u64]; omega
  have hx : (m * 1000000000).tdiv q = quoV m q := Int.tdiv_eq_ediv_of_nonneg (by omega)
  have hz : (q == 0) = false := by rw [beq_eq_false_iff_ne]; omega
  have hz2 : q ≠ 0 := by omega
  obtain ⟨x0, x1⟩ := delV_bd m (show 0 ≤ q by omega)
  rw [HE.out] at x0 x1
  generalize quoV m q = x at *
  have hy : IntKind.u64.wrap x = x := by rw [IntKind.wrap_u64]; omega
  have HQA := Lib.hid (fun (W : World) (n : Nat) => quiet_eq (w := W) (n := n) (awaked_any (W.drewN n)))
  have HQE := Lib.hid (fun (W : World) (n : Nat) => quiet_eq (w := W) (n := n) (del_is HE.out (by omega) (by omega) (by omega) (W.drewN n)))
  have HQS := Lib.hid (fun (W : World) (n : Nat) => quiet_eq (w := W) (n := n) (del_is HS.out (by omega) (by omega) (by omega) (W.drewN n)))
  have HQO := Lib.hid (fun (W : World) (n : Nat) => quiet_eq (w := W) (n := n) (del_is HO.out (by omega) (by omega) (by omega) (W.drewN n)))
  go_enter Try.func6, Try.ntmps6
  go_wp2_with fail
  rw [hw2]
  clear hn hw1 hw2 hr hq r0 r1
  go_quiet (first
    | (go_at_call 8; exact HQA.out _ _)
    | (go_at_call 9; with_reducible exact HQE.out _ _)
    | (go_at_call 9; with_reducible exact HQS.out _ _)
    | (go_at_call 9; with_reducible exact HQO.out _ _))
  go_wp2
  go_ret
  exact ⟨rfl, (Grown.refl w).1, fun _ => rfl, Nat.le_refl _⟩

set_option maxRecDepth 100000 in
theorem lifted (os : Os) (started : os.Started) (H : Type) (enc : TypeId × Value → H) :
    ReturnsInHanded {} Try.checked os 6 .any (Rows.delayExactSpec.pre6 enc Try.prog Try.f6 Rows.delayExactRow.domain false) (Rows.delayExactSpec.post enc Try.prog Try.f6 false true false false) := by
  refine returnsInHanded_of_change (C := Try.checked) own started (by kernel_rfl) Try.func6
    (ChangeSpec.witness6 (enc := enc) (C := Try.checked) false ⟨#[], #[.int .i64 0, .int .u64 0], []⟩ 8 (by kernel_rfl) (by kernel_rfl) (by kernel_rfl) (by kernel_rfl)) ?_
  intro W base args ds gs before hval0 hW hcnd _
  have hval : ∀ (j : Nat) t v, Try.f6.params[j]? = some t → args[j]? = some v → Value.okWide Try.prog W .any base t v := hval0
  have hW' := hW
  obtain ⟨p, q, hA0, hV, rfl, hfz, hnd⟩ := hW
  have hA : DataW.TrodAll enc Try.prog W 0 (fun _ => true) true Try.f6.params.toList args.toList ds p := hA0
  rw [Try.params6] at hA hval
  obtain ⟨v0, vs0, d0, ds0, p0, q0, hargs, rfl, rfl, h0, r0⟩ := trodAll_cons hA
  obtain ⟨v1, vs1, d1, ds1, p1, q1, rfl, rfl, rfl, h1, r1⟩ := trodAll_cons r0
  obtain ⟨rfl, rfl, rfl⟩ := trodAll_nil r1
  obtain rfl : args = #[v0, v1] := by cases args; simp_all
  obtain ⟨rfl, rfl⟩ := trodVars_none hV
  obtain ⟨a0, rfl, rfl, rfl, w0⟩ := open_int Try.underlying3 (hval 0 3 v0 rfl rfl) h0
  obtain ⟨a1, rfl, rfl, rfl, w1⟩ := open_int Try.underlying22 (hval 1 22 v1 rfl rfl) h1
  clear hA0 hval0
  simp only [List.append_nil] at hW'
  refine (walk a0 a1 w0 w1 W).mono fun e W' ⟨he, hg⟩ => ?_
  subst he
  exact ⟨_, rfl, post_of_same (pa := []) (pv := []) hW' (fun _ _ _ => (trodAll_cons_mk (shut_bool Try.underlying4 _) trodAll_mk0)) (fun sp _ => (trodAll_cons_mk (shut_int Try.underlying3 w0) (trodAll_cons_mk (shut_int Try.underlying22 w1) trodAll_mk0))) (fun _ _ => rfl) rfl
    (hg.frame _) hg.2.1 (ok_one (by kernel_rfl) rfl (okWide_bool_mk Try.underlying4 _))⟩

theorem over : Rows.delayExactRow.holds Try.pinned (OpenSpec.ofChange Rows.delayExactSpec) :=
  OpenClaim.holds_of_wide 6 Try.f6 rfl rfl rfl rfl rfl rfl rfl ⟨rfl, rfl, rfl, rfl, rfl⟩ rfl rfl rfl rfl rfl (by kernel_rfl) Try.func6 (by kernel_rfl)
    (of_decide_eq_true (by kernel_rfl)) (by unfold Func.isWrapper; first | (rw [if_pos (by decide +kernel)]; kernel_rfl) | (rw [if_neg (by decide +kernel)]; exact ⟨rfl, rfl⟩))
    (fun os started H enc _ => lifted os started H enc)

theorem proved : Rows.DelayExactSaid :=
  over
end Go.Proofs.Ythjacbgknnpmiaa.delayExact
namespace Go.Proofs.Ythjacbgknnpmiaa
theorem delayExact_holds : Rows.DelayExactSaid := delayExact.proved
#print axioms delayExact_holds
end Go.Proofs.Ythjacbgknnpmiaa
