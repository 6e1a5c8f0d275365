/-
  Proved: canterlaw20.FqNil answers true at every segment and number. Conditions: none.
-/
import Derived.Test.YtnljjdfajmjdjaaRows
import Derived.Test.YtnljjdfajmjdjaaJ31
import Derived.Test.YtnljjdfajmjdjaaJ34
import Derived.Test.YtnljjdfajmjdjaaJ35
import Derived.WalkKit
import Derived.ProofKit
import Derived.OpenShut
import Derived.ShutString
import Derived.Below
namespace Go.Proofs.Ytnljjdfajmjdjaa.fqNil
open Go.ChangeShapes Go.WideShapes Go.ChangeAt Go.RowKit
set_option maxRecDepth 100000
set_option linter.unusedVariables false

theorem own : ownKnob Try.prog.godebug = none := by kernel_rfl
theorem laidOut : laidOutB Try.prog = true := by kernel_rfl

theorem zero_no : ¬ (⟨0, 0, 0, 0, 0, 0, false, 0, 0⟩ : Cf).Ok := by decide
theorem zu : U64 0 := ⟨by decide, by decide⟩

set_option maxRecDepth 100000 in
set_option maxHeartbeats 4000000 in
theorem walk (a0 : Sg) (a1 : Int) (w : World) (w0 : U64 (Sg.f a0) ∧ U64 (Sg.t a0)) (w1 : (Lit.int .u64 a1).wf = true) :
    Calls Try.prog 7 #[Sg.v a0, .int .u64 a1] w fun e w' => e = .returned (.bool true) ∧ Below w.heap.size w w' := by
  obtain ⟨s0, s1, s2, s3, s4⟩ := a0
  dsimp only [Sg.v]
  clear w0 w1
  go_enter Try.func7, Try.ntmps7
  go_wp2_with fail
  have K0 := Lib.hid ((Keep.refl (fun _ => False) w).alloc (.cells #[.int .i64 s0, .int .u64 s1, .int .i64 s2, .int .u64 s3, .bool s4] 34))
  refine (fqenq_nil ⟨s0, s1, s2, s3, s4⟩ a1 _).mono ?_
  rintro e w1 ⟨rfl, k1⟩
  have K1 := Lib.hid (K0.out.trans k1)
  clear k1 K0
  go_wp2_with fail
  refine (fqdeq_nil a1 _).mono ?_
  rintro e w2 ⟨rfl, k2⟩
  have K2 := Lib.hid ((K1.out.trans k2).alloc (.cells #[.int .i64 0, .int .u64 0, .int .i64 0, .int .u64 0, .bool false] 34))
  clear k2 K1
  dsimp only [Sg.zero, Sg.v]
  go_wp2_with fail
  refine (fqdog_nil _).mono ?_
  rintro e w3 ⟨rfl, rfl⟩
  go_wp2_with fail
  refine (fqflow_nil 0 _).mono ?_
  rintro e w4 ⟨rfl, k4⟩
  have K4 := Lib.hid ((K2.out.trans k4).alloc (.cells #[.int .i64 0, .int .i64 0, .int .i64 0, .int .u64 0, .int .u64 0, .slice none 0 0] 44))
  clear k4 K2
  dsimp only [Fl.zero, Fl.v]
  go_wp2_with fail
  refine (fqnew_any ⟨0, 0, 0, 0, 0, 0, false, 0, 0⟩ zu zu _).mono ?_
  rintro e w5 ⟨_, he, k5⟩
  obtain rfl := he zero_no
  have K5 := Lib.hid (K4.out.trans k5)
  clear k5 K4 he
  go_wp2_with fail
  refine (awakef_any _).mono ?_
  rintro e w6 ⟨rfl, k6⟩
  have K6 := Lib.hid (K5.out.trans k6)
  clear k6 K5
  go_wp2_with fail
  refine (plain_any _).mono ?_
  rintro e w7 ⟨rfl, k7⟩
  have K7 := Lib.hid (K6.out.trans k7)
  clear k7 K6
  go_wp2_with fail
  refine (fqset_nil plainC _).mono ?_
  rintro e w8 ⟨rfl, k8⟩
  have K8 := Lib.hid (K7.out.trans k8)
  clear k8 K7
  go_wp2_with fail
  refine (fqclose_nil 0 _).mono ?_
  rintro e w9 ⟨rfl, k9⟩
  have K9 := Lib.hid (K8.out.trans k9)
  clear k9 K8
  go_wp2_with fail
  refine (fqlen_nil _).mono ?_
  rintro e w10 ⟨rfl, rfl⟩
  go_wp2_with fail
  refine (may_any ⟨0, 0, 0, 0, 0, 0, false, 0, 0⟩ zu zu false (by rw [decide_eq_false zero_no]) _).mono ?_
  rintro e w11 ⟨rfl, k11⟩
  have K11 := Lib.hid (K9.out.trans k11)
  clear k11 K9
  go_wp2_with fail
  refine (plain_any _).mono ?_
  rintro e w12 ⟨rfl, k12⟩
  have K12 := Lib.hid (K11.out.trans k12)
  clear k12 K11
  go_wp2_with fail
  refine (may_any plainC zu ⟨by decide, by decide⟩ true (by rw [decide_eq_true plain_ok]) _).mono ?_
  rintro e w13 ⟨rfl, k13⟩
  have K13 := Lib.hid (K12.out.trans k13)
  clear k13 K12
  go_wp2
  go_ret
  exact ⟨rfl, K13.out.below (Nat.le_refl _) (fun _ h => h.elim)⟩

set_option maxRecDepth 100000 in
theorem lifted (os : Os) (started : os.Started) (H : Type) (enc : TypeId × Value → H) :
    ReturnsInHanded {} Try.checked os 7 .any (Rows.fqNilSpec.pre6 enc Try.prog Try.f7 Rows.fqNilRow.domain false) (Rows.fqNilSpec.post enc Try.prog Try.f7 false true false false) := by
  refine returnsInHanded_of_change (C := Try.checked) own started (by kernel_rfl) Try.func7
    (ChangeSpec.witness6 (enc := enc) (C := Try.checked) false ⟨#[], #[.agg #[.int .i64 0, .int .u64 0, .int .i64 0, .int .u64 0, .bool false], .int .u64 0], []⟩ 8 (by kernel_rfl) (by kernel_rfl) (by kernel_rfl) (by kernel_rfl)) ?_
  intro W base args ds gs before hval0 hW hcnd _
  have hval : ∀ (j : Nat) t v, Try.f7.params[j]? = some t → args[j]? = some v → Value.okWide Try.prog W .any base t v := hval0
  have hW' := hW
  obtain ⟨p, q, hA0, hV, rfl, hfz, hnd⟩ := hW
  have hA : DataW.TrodAll enc Try.prog W 0 (fun _ => true) true Try.f7.params.toList args.toList ds p := hA0
  rw [Try.params7] at hA hval
  obtain ⟨v0, vs0, d0, ds0, p0, q0, hargs, rfl, rfl, h0, r0'⟩ := trodAll_cons hA
  obtain ⟨v1, vs1, d1, ds1, p1, q1, rfl, rfl, rfl, h1, r1'⟩ := trodAll_cons r0'
  obtain ⟨rfl, rfl, rfl⟩ := trodAll_nil r1'
  obtain rfl : args = #[v0, v1] := by cases args; simp_all
  obtain ⟨rfl, rfl⟩ := trodVars_none hV
  have k0 := h0
  have lt0 : ∀ x ∈ p0, x.block < W.heap.size := by obtain ⟨m, hm⟩ := k0; exact DataW.trod_lt m _ _ _ hm
  obtain ⟨a0, rfl, w0⟩ := open_seg (hval 0 34 v0 rfl rfl) h0
  obtain ⟨a1, rfl, rfl, rfl, w1⟩ := open_int Try.underlying22 (hval 1 22 v1 rfl rfl) h1
  clear hA0 hval0
  refine (walk a0 a1 W w0 w1).mono fun e W' ⟨he, bel⟩ => ?_
  subst he
  exact ⟨_, rfl, _, _, _, [], _, [], hW', trodAll_mk1 (shut_bool Try.underlying4 _), (trodAll_cons_mk (Below.trod laidOut (by kernel_rfl) (of_decide_eq_true (by kernel_rfl)) k0 bel lt0) (trodAll_cons_mk (shut_int Try.underlying22 w1) trodAll_mk0)), rfl, bel.frame _, fun h => by cases h⟩

theorem over : Rows.fqNilRow.holds Try.pinned (OpenSpec.ofChange Rows.fqNilSpec) :=
  OpenClaim.holds_of_wide 7 Try.f7 rfl rfl rfl rfl rfl rfl rfl ⟨rfl, rfl, rfl, rfl, rfl⟩ rfl rfl rfl rfl rfl (by kernel_rfl) Try.func7 (by kernel_rfl)
    (of_decide_eq_true (by kernel_rfl)) (by unfold Func.isWrapper; first | (rw [if_pos (by decide +kernel)]; kernel_rfl) | (rw [if_neg (by decide +kernel)]; exact ⟨rfl, rfl⟩))
    (fun os started H enc _ => lifted os started H enc)

theorem proved : Rows.FqNilSaid := over
end Go.Proofs.Ytnljjdfajmjdjaa.fqNil
namespace Go.Proofs.Ytnljjdfajmjdjaa
theorem fqNil_holds : Rows.FqNilSaid := fqNil.proved
#print axioms fqNil_holds
end Go.Proofs.Ytnljjdfajmjdjaa
