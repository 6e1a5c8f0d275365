/-
  Proved: canterlaw01.SatEdges answers true at every number a and every k, and leaves its arguments as they were. Conditions: none.
-/
import Derived.Test.YtgohmjjibnaniaaRows
import Derived.WalkKit
import Derived.ProofKit
import Derived.OpenShut
import Derived.ShutString
import Derived.Test.YtgohmjjibnaniaaAwake
namespace Go.Proofs.Ytgohmjjibnaniaa.satEdges
open Go.ChangeShapes Go.WideShapes Go.ChangeAt Go.RowKit
open Go.ChangeMaps (open_string shut_string)
set_option linter.unusedVariables false

theorem own : ownKnob Try.prog.godebug = none := by kernel_rfl

theorem count (k : Int) : ∃ m : Nat, 1 ≤ m ∧ m ≤ 63 ∧ IntKind.u64.wrap (1 + (IntKind.u64.wrap k).tmod 63) = (m : Int) := by
  rw [IntKind.wrap_u64, IntKind.wrap_u64]
  refine ⟨(1 + k % 18446744073709551616 % 63).toNat, by omega, by omega, ?_⟩
  rw [Int.tmod_eq_emod_of_nonneg (by omega)]
  omega

theorem shifted (m : Nat) (h : m ≤ 63) : ∃ x : Nat, x = 2 ^ m ∧ 0 ≤ IntKind.u64.wrap (2 ^ m) ∧ IntKind.u64.wrap (2 ^ m) ≤ 18446744073709551615 ∧ IntKind.u64.wrap (2 ^ m) = (x : Int) := by
  have h2 : 2 ^ m ≤ 2 ^ 63 := Nat.pow_le_pow_right (by omega) h
  have e : ((2 : Int) ^ m) = ((2 ^ m : Nat) : Int) := by simp
  rw [IntKind.wrap_u64, e]
  generalize 2 ^ m = x at *
  exact ⟨x, rfl, by omega, by omega, by omega⟩
theorem over_top (m : Nat) (h1 : 1 ≤ m) (h2 : m ≤ 63) : (satMul (IntKind.u64.wrap (2 ^ m)) (IntKind.u64.wrap (2 ^ (64 - m))) == 18446744073709551615) = true := by
  obtain ⟨x, ex, _, _, hx⟩ := shifted m h2
  obtain ⟨y, ey, _, _, hy⟩ := shifted (64 - m) (by omega)
  have e : x * y = 18446744073709551616 := by
    rw [ex, ey, ← Nat.pow_add, show m + (64 - m) = 64 from by omega]
  rw [hx, hy, beq_iff_eq]
  apply satMul_gt
  rw [← Int.natCast_mul, e]
  omega

theorem walk (a0 : Int) (a1 : Int) (w0 : (Lit.int .u64 a0).wf = true) (w1 : (Lit.int .i64 a1).wf = true) (w : World) :
    Calls Try.prog 6 #[.int .u64 a0, .int .i64 a1] w fun e w' => e = .returned (.bool true) ∧ Grown w w' := by
  obtain ⟨h0, h0x⟩ := bounds_u64 w0
  clear w0 w1
  obtain ⟨m, hm1, hm2, hm⟩ := count a1
  have q1 : (satAdd 18446744073709551615 a0 == 18446744073709551615) = true := by rw [beq_iff_eq]; unfold satAdd; split <;> omega
  have q2 : (satSub 0 a0 == 0) = true := by rw [beq_iff_eq]; unfold satSub; split <;> omega
  have q3 : (satAdd (18446744073709551615 - a0) a0 == 18446744073709551615) = true := by rw [beq_iff_eq]; unfold satAdd; split <;> omega
  have q4 : (satSub 18446744073709551615 (18446744073709551615 - a0) == a0) = true := by rw [beq_iff_eq]; unfold satSub; split <;> omega
  have q5 : (satMul a0 1 == a0) = true := by rw [beq_iff_eq]; unfold satMul; split <;> omega
  have q6 : (satMul a0 0 == 0) = true := by rw [beq_iff_eq]; unfold satMul; split <;> omega
  have q7 : (satInt 9223372036854775808 == 9223372036854775807) = true := by rfl
  have q8 : (satInt 18446744073709551615 == 9223372036854775807) = true := by rfl
  have q9 := over_top m hm1 hm2
  have p0 : 0 ≤ IntKind.u64.wrap (2 ^ m) := by obtain ⟨_, _, h, _⟩ := shifted m hm2; exact h
  have p1 : IntKind.u64.wrap (2 ^ m) ≤ 18446744073709551615 := by obtain ⟨_, _, _, h, _⟩ := shifted m hm2; exact h
  have r0 : 0 ≤ IntKind.u64.wrap (2 ^ (64 - m)) := by obtain ⟨_, _, h, _⟩ := shifted (64 - m) (by omega); exact h
  have r1 : IntKind.u64.wrap (2 ^ (64 - m)) ≤ 18446744073709551615 := by obtain ⟨_, _, _, h, _⟩ := shifted (64 - m) (by omega); exact h
  go_enter Try.func6, Try.ntmps6
  go_wp2_with (first
    | (go_at_call 7; refine (awake_any _).mono ?_; rintro e w' ⟨rfl, rfl⟩)
    | (go_at_call 11; refine (add_any _ _ (by omega) (by omega) (by omega) (by omega) _).mono ?_; rintro e w' ⟨rfl, rfl⟩)
    | (go_at_call 13; refine (sub_any _ _ (by omega) (by omega) (by omega) (by omega) _).mono ?_; rintro e w' ⟨rfl, rfl⟩)
    | (go_at_call 15; refine (mul_any _ _ (by omega) (by omega) (by omega) (by omega) _).mono ?_; rintro e w' ⟨rfl, rfl⟩)
    | (go_at_call 17; refine (int_any _ (by omega) (by omega) _).mono ?_; rintro e w' ⟨rfl, rfl⟩))
  go_ret
  exact ⟨rfl, (Grown.refl _).alloc _ _⟩

set_option maxRecDepth 100000 in
theorem lifted (os : Os) (started : os.Started) (H : Type) (enc : TypeId × Value → H) :
    ReturnsInHanded {} Try.checked os 6 .any (Rows.satEdgesSpec.pre6 enc Try.prog Try.f6 Rows.satEdgesRow.domain false) (Rows.satEdgesSpec.post enc Try.prog Try.f6 false true false false) := by
  refine returnsInHanded_of_change (C := Try.checked) own started (by kernel_rfl) Try.func6
    (ChangeSpec.witness6 (enc := enc) (C := Try.checked) false ⟨#[], #[.int .u64 0, .int .i64 0], []⟩ 8 (by kernel_rfl) (by kernel_rfl) (by kernel_rfl) (by kernel_rfl)) ?_
  intro W base args ds gs before hval0 hW hcnd _
  have hval : ∀ (j : Nat) t v, Try.f6.params[j]? = some t → args[j]? = some v → Value.okWide Try.prog W .any base t v := hval0
  have hW' := hW
  obtain ⟨p, q, hA0, hV, rfl, hfz, hnd⟩ := hW
  have hA : DataW.TrodAll enc Try.prog W 0 (fun _ => true) true Try.f6.params.toList args.toList ds p := hA0
  rw [Try.params6] at hA hval
  obtain ⟨v0, vs0, d0, ds0, p0, q0, hargs, rfl, rfl, h0, r0⟩ := trodAll_cons hA
  obtain ⟨v1, vs1, d1, ds1, p1, q1, rfl, rfl, rfl, h1, r1⟩ := trodAll_cons r0
  obtain ⟨rfl, rfl, rfl⟩ := trodAll_nil r1
  obtain rfl : args = #[v0, v1] := by cases args; simp_all
  obtain ⟨rfl, rfl⟩ := trodVars_none hV
  obtain ⟨a0, rfl, rfl, rfl, w0⟩ := open_int Try.underlying22 (hval 0 22 v0 rfl rfl) h0
  obtain ⟨a1, rfl, rfl, rfl, w1⟩ := open_int Try.underlying3 (hval 1 3 v1 rfl rfl) h1
  clear hA0 hval0
  simp only [List.append_nil] at hW'
  refine (walk a0 a1 w0 w1 W).mono fun e W' ⟨he, hg⟩ => ?_
  subst he
  exact ⟨_, rfl, post_of_same (pa := []) (pv := []) hW' (fun _ _ _ => (trodAll_cons_mk (shut_bool Try.underlying4 _) trodAll_mk0)) (fun sp _ => (trodAll_cons_mk (shut_int Try.underlying22 w0) (trodAll_cons_mk (shut_int Try.underlying3 w1) trodAll_mk0))) (fun _ _ => rfl) rfl
    (hg.frame _) hg.2.1 (ok_one (by kernel_rfl) rfl (okWide_bool_mk Try.underlying4 _))⟩

theorem over : Rows.satEdgesRow.holds Try.pinned (OpenSpec.ofChange Rows.satEdgesSpec) :=
  OpenClaim.holds_of_wide 6 Try.f6 rfl rfl rfl rfl rfl rfl rfl ⟨rfl, rfl, rfl, rfl, rfl⟩ rfl rfl rfl rfl rfl (by kernel_rfl) Try.func6 (by kernel_rfl)
    (of_decide_eq_true (by kernel_rfl)) (by unfold Func.isWrapper; first | (rw [if_pos (by decide +kernel)]; kernel_rfl) | (rw [if_neg (by decide +kernel)]; exact ⟨rfl, rfl⟩))
    (fun os started H enc _ => lifted os started H enc)

theorem proved : Rows.SatEdgesSaid :=
  over
end Go.Proofs.Ytgohmjjibnaniaa.satEdges
namespace Go.Proofs.Ytgohmjjibnaniaa
theorem satEdges_holds : Rows.SatEdgesSaid := satEdges.proved
#print axioms satEdges_holds
end Go.Proofs.Ytgohmjjibnaniaa
