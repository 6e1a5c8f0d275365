/-
  Proved: canterlaw03.ClockNil answers true at every time, and leaves its argument as it was. Conditions: none.
-/
import Derived.Test.YtnfgkfbcijnhcaaRows
import Derived.WalkKit
import Derived.ProofKit
import Derived.OpenShut
import Derived.ShutString
import Derived.Test.YtnfgkfbcijnhcaaAwakeC
namespace Go.Proofs.Ytnfgkfbcijnhcaa.clockNil
open Go.ChangeShapes Go.WideShapes Go.ChangeAt Go.RowKit
open Go.ChangeMaps (open_string shut_string)
set_option linter.unusedVariables false

theorem own : ownKnob Try.prog.godebug = none := by kernel_rfl

theorem new_max (w : World) : Calls Try.prog 6 #[.int .u64 18446744073709551615] w fun e w' => e = .returned (.pointer (some ⟨w.heap.size, 0, none⟩)) ∧ ClockAt w' w.heap.size 4611686018427387904 ∧ Keep (fun _ => False) w w' :=
  cnew_any 18446744073709551615 (by omega) (by omega) w
theorem after_max (g : Nat) (t : Int) (w : World) (h : ClockAt w g 4611686018427387904) (h0 : 0 ≤ t) (h1 : t ≤ 18446744073709551615) :
    Calls Try.prog 10 #[.pointer (some ⟨g, 0, none⟩), .int .u64 t] w fun e w' => e = .returned (.int .u64 4611686018427387904) ∧ w = w' := by
  have e : afterV 4611686018427387904 t = 4611686018427387904 := by unfold afterV; split <;> omega
  have := after_any g 4611686018427387904 t w h h0 h1
  rwa [e] at this
theorem move_max (g : Nat) (w : World) (h : ClockAt w g 4611686018427387904) : Calls Try.prog 8 #[.pointer (some ⟨g, 0, none⟩), .int .u64 4611686018427387904] w fun e w' => e = .returned (.int .i64 0) ∧ ClockAt w' g 4611686018427387904 ∧ Keep (· = g) w w' :=
  move_any g 4611686018427387904 4611686018427387904 w h (by omega) (by omega)

set_option maxHeartbeats 1000000 in
theorem walk (a0 : Int) (w0 : (Lit.int .u64 a0).wf = true) (w : World) :
    Calls Try.prog 4 #[.int .u64 a0] w fun e w' => e = .returned (.bool true) ∧ Below w.heap.size w w' := by
  obtain ⟨a0l, a0h⟩ := bounds_u64 w0
  clear w0
  go_enter Try.func4, Try.ntmps4
  go_wp2_with fail
  refine (new_max _).mono ?_
  rintro e w1 ⟨rfl, h1, k1⟩
  have H1 := Lib.hid h1; have K1 := Lib.hid k1; clear h1 k1
  go_wp2_with fail
  refine (awakec_any _).mono ?_
  rintro e w2 ⟨rfl, k2⟩
  have H2 := Lib.hid (H1.out.keep k2 (fun h => h)); have K2 := Lib.hid (K1.out.trans k2); clear k2
  go_wp2_with (first
    | (go_at_call 9; (with_reducible refine (now_nil _).mono ?_); rintro e w' ⟨rfl, rfl⟩)
    | (go_at_call 9; (with_reducible refine (now_any _ _ _ H2.out).mono ?_); rintro e w' ⟨rfl, rfl⟩)
    | (go_at_call 8; (with_reducible refine (move_nil _ _).mono ?_); rintro e w' ⟨rfl, rfl⟩)
    | (go_at_call 10; (with_reducible refine (after_nil _ _).mono ?_); rintro e w' ⟨rfl, rfl⟩)
    | (go_at_call 10; (with_reducible refine (after_max _ _ _ H2.out (by omega) (by omega)).mono ?_); rintro e w' ⟨rfl, rfl⟩)
    | (go_at_call 8; (with_reducible refine (move_max _ _ H2.out).mono ?_); rintro e w3 ⟨rfl, h3, k3⟩; have K3 := Lib.hid (K2.out.then k3 (fun i e hi => by omega)); clear h3 k3))
  go_ret
  exact ⟨rfl, K3.out.below (Nat.le_refl _) (fun _ h => h.elim)⟩

set_option maxRecDepth 100000 in
theorem lifted (os : Os) (started : os.Started) (H : Type) (enc : TypeId × Value → H) :
    ReturnsInHanded {} Try.checked os 4 .any (Rows.clockNilSpec.pre6 enc Try.prog Try.f4 Rows.clockNilRow.domain false) (Rows.clockNilSpec.post enc Try.prog Try.f4 false true false false) := by
  refine returnsInHanded_of_change (C := Try.checked) own started (by kernel_rfl) Try.func4
    (ChangeSpec.witness6 (enc := enc) (C := Try.checked) false ⟨#[], #[.int .u64 0], []⟩ 8 (by kernel_rfl) (by kernel_rfl) (by kernel_rfl) (by kernel_rfl)) ?_
  intro W base args ds gs before hval0 hW hcnd _
  have hval : ∀ (j : Nat) t v, Try.f4.params[j]? = some t → args[j]? = some v → Value.okWide Try.prog W .any base t v := hval0
  have hW' := hW
  obtain ⟨p, q, hA0, hV, rfl, hfz, hnd⟩ := hW
  have hA : DataW.TrodAll enc Try.prog W 0 (fun _ => true) true Try.f4.params.toList args.toList ds p := hA0
  rw [Try.params4] at hA hval
  obtain ⟨v0, vs0, d0, ds0, p0, q0, hargs, rfl, rfl, h0, r0⟩ := trodAll_cons hA
  obtain ⟨rfl, rfl, rfl⟩ := trodAll_nil r0
  obtain rfl : args = #[v0] := by cases args; simp_all
  obtain ⟨rfl, rfl⟩ := trodVars_none hV
  obtain ⟨a0, rfl, rfl, rfl, w0⟩ := open_int Try.underlying22 (hval 0 22 v0 rfl rfl) h0
  clear hA0 hval0
  simp only [List.append_nil] at hW'
  refine (walk a0 w0 W).mono fun e W' ⟨he, hg⟩ => ?_
  subst he
  exact ⟨_, rfl, _, _, _, [], _, [], hW', trodAll_mk1 (shut_bool Try.underlying4 _), (trodAll_cons_mk (shut_int Try.underlying22 w0) trodAll_mk0), rfl, hg.frame _, fun h => by cases h⟩

theorem over : Rows.clockNilRow.holds Try.pinned (OpenSpec.ofChange Rows.clockNilSpec) :=
  OpenClaim.holds_of_wide 4 Try.f4 rfl rfl rfl rfl rfl rfl rfl ⟨rfl, rfl, rfl, rfl, rfl⟩ rfl rfl rfl rfl rfl (by kernel_rfl) Try.func4 (by kernel_rfl)
    (of_decide_eq_true (by kernel_rfl)) (by unfold Func.isWrapper; first | (rw [if_pos (by decide +kernel)]; kernel_rfl) | (rw [if_neg (by decide +kernel)]; exact ⟨rfl, rfl⟩))
    (fun os started H enc _ => lifted os started H enc)

theorem proved : Rows.ClockNilSaid :=
  over
end Go.Proofs.Ytnfgkfbcijnhcaa.clockNil
namespace Go.Proofs.Ytnfgkfbcijnhcaa
theorem clockNil_holds : Rows.ClockNilSaid := clockNil.proved
#print axioms clockNil_holds
end Go.Proofs.Ytnfgkfbcijnhcaa
