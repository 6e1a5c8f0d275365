/-
  Proved: canterlaw02.WideParts answers true at all numbers, and leaves its arguments as they were. Conditions: none.
-/
import Derived.Test.YtpedcaioghkelaaRows
import Derived.WalkKit
import Derived.ProofKit
import Derived.OpenShut
import Derived.ShutString
import Derived.Test.YtpedcaioghkelaaAwakeW
namespace Go.Proofs.Ytpedcaioghkelaa.wideParts
open Go.ChangeShapes Go.WideShapes Go.ChangeAt Go.RowKit
open Go.ChangeMaps (open_string shut_string)
set_option linter.unusedVariables false

theorem own : ownKnob Try.prog.godebug = none := by kernel_rfl

theorem count (k : Int) : ∃ m : Nat, m ≤ 63 ∧ (IntKind.u64.wrap k).tmod 64 = (m : Int) ∧ IntKind.u64.wrap k % 64 = (m : Int) := by
  rw [IntKind.wrap_u64]
  refine ⟨(k % 18446744073709551616 % 64).toNat, by omega, ?_, by omega⟩
  rw [Int.tmod_eq_emod_of_nonneg (by omega)]
  omega
theorem shifted (m : Nat) (h : m ≤ 63) : ∃ x : Nat, x = 2 ^ m ∧ x ≤ 9223372036854775808 ∧ IntKind.u64.wrap (2 ^ m) = (x : Int) := by
  have h2 : 2 ^ m ≤ 2 ^ 63 := Nat.pow_le_pow_right (by omega) h
  have e : ((2 : Int) ^ m) = ((2 ^ m : Nat) : Int) := by simp
  rw [IntKind.wrap_u64, e]
  generalize 2 ^ m = x at *
  exact ⟨x, rfl, by omega, by omega⟩
theorem high_part (a : Int) (m : Nat) (h0 : 0 < m) (h : m ≤ 63) : a * ((2 ^ m : Nat) : Int) / 18446744073709551616 = a / 2 ^ (64 - m) := by
  have e : (18446744073709551616 : Int) = 2 ^ (64 - m) * ((2 ^ m : Nat) : Int) := by
    have : (18446744073709551616 : Nat) = 2 ^ (64 - m) * 2 ^ m := by rw [← Nat.pow_add, show 64 - m + m = 64 from by omega]
    have h := congrArg (fun n : Nat => (n : Int)) this
    simpa using h
  rw [e, Int.mul_ediv_mul_of_pos_left _ _ (by have := Nat.pow_pos (n := m) (show 0 < 2 by omega); omega)]

set_option maxHeartbeats 1000000 in
theorem walk (a0 : Int) (a1 : Int) (a2 : Int) (w0 : (Lit.int .u64 a0).wf = true) (w1 : (Lit.int .u64 a1).wf = true) (w2 : (Lit.int .i64 a2).wf = true) (w : World) :
    Calls Try.prog 7 #[.int .u64 a0, .int .u64 a1, .int .i64 a2] w fun e w' => e = .returned (.bool true) ∧ Grown w w' := by
  obtain ⟨a0l, a0h⟩ := bounds_u64 w0
  obtain ⟨a1l, a1h⟩ := bounds_u64 w1
  clear w0 w1 w2
  obtain ⟨m, hm, hm1, hm2⟩ := count a2
  obtain ⟨x, ex, hx, hx1⟩ := shifted m hm
  have q1 : (a0 * a1 / 18446744073709551616 == a1 * a0 / 18446744073709551616) = true := by rw [Int.mul_comm]; simp
  have q2 : (a0 * a1 % 18446744073709551616 == a1 * a0 % 18446744073709551616) = true := by rw [Int.mul_comm]; simp
  have q3 : (a0 * a1 % 18446744073709551616 == IntKind.u64.wrap (a0 * a1)) = true := by rw [IntKind.wrap_u64]; simp
  have q4 : (a0 * (x : Int) % 18446744073709551616 == IntKind.u64.wrap (a0 * 2 ^ m)) = true := by
    rw [IntKind.wrap_u64, ex]; simp
  rcases (show m = 0 ∨ 0 < m by omega) with h | h
  · have q5 : (a0 * (x : Int) / 18446744073709551616 == 0) = true := by rw [beq_iff_eq, ex, h]; omega
    have hd : decide (0 < m) = false := by simp; omega
    clear ex h
    go_enter Try.func7, Try.ntmps7
    go_wp2_with (first
      | (go_at_call 13; refine (awakew_any _).mono ?_; rintro e w' ⟨rfl, rfl⟩)
      | (go_at_call 9; refine (wmul_any _ _ (by omega) (by omega) (by omega) (by omega) _).mono ?_; rintro e w' ⟨rfl, rfl⟩))
    go_ret
    exact ⟨rfl, Grown.refl _⟩
  · have q5 : (a0 * (x : Int) / 18446744073709551616 == a0 / 2 ^ (64 - m)) = true := by rw [beq_iff_eq, ex]; exact high_part a0 m h hm
    clear ex
    go_enter Try.func7, Try.ntmps7
    go_wp2_with (first
      | (go_at_call 13; refine (awakew_any _).mono ?_; rintro e w' ⟨rfl, rfl⟩)
      | (go_at_call 9; refine (wmul_any _ _ (by omega) (by omega) (by omega) (by omega) _).mono ?_; rintro e w' ⟨rfl, rfl⟩))
    go_ret
    exact ⟨rfl, Grown.refl _⟩

set_option maxRecDepth 100000 in
theorem lifted (os : Os) (started : os.Started) (H : Type) (enc : TypeId × Value → H) :
    ReturnsInHanded {} Try.checked os 7 .any (Rows.widePartsSpec.pre6 enc Try.prog Try.f7 Rows.widePartsRow.domain false) (Rows.widePartsSpec.post enc Try.prog Try.f7 false true false false) := by
  refine returnsInHanded_of_change (C := Try.checked) own started (by kernel_rfl) Try.func7
    (ChangeSpec.witness6 (enc := enc) (C := Try.checked) false ⟨#[], #[.int .u64 0, .int .u64 0, .int .i64 0], []⟩ 8 (by kernel_rfl) (by kernel_rfl) (by kernel_rfl) (by kernel_rfl)) ?_
  intro W base args ds gs before hval0 hW hcnd _
  have hval : ∀ (j : Nat) t v, Try.f7.params[j]? = some t → args[j]? = some v → Value.okWide Try.prog W .any base t v := hval0
  have hW' := hW
  obtain ⟨p, q, hA0, hV, rfl, hfz, hnd⟩ := hW
  have hA : DataW.TrodAll enc Try.prog W 0 (fun _ => true) true Try.f7.params.toList args.toList ds p := hA0
  rw [Try.params7] at hA hval
  obtain ⟨v0, vs0, d0, ds0, p0, q0, hargs, rfl, rfl, h0, r0⟩ := trodAll_cons hA
  obtain ⟨v1, vs1, d1, ds1, p1, q1, rfl, rfl, rfl, h1, r1⟩ := trodAll_cons r0
  obtain ⟨v2, vs2, d2, ds2, p2, q2, rfl, rfl, rfl, h2, r2⟩ := trodAll_cons r1
  obtain ⟨rfl, rfl, rfl⟩ := trodAll_nil r2
  obtain rfl : args = #[v0, v1, v2] := by cases args; simp_all
  obtain ⟨rfl, rfl⟩ := trodVars_none hV
  obtain ⟨a0, rfl, rfl, rfl, w0⟩ := open_int Try.underlying22 (hval 0 22 v0 rfl rfl) h0
  obtain ⟨a1, rfl, rfl, rfl, w1⟩ := open_int Try.underlying22 (hval 1 22 v1 rfl rfl) h1
  obtain ⟨a2, rfl, rfl, rfl, w2⟩ := open_int Try.underlying3 (hval 2 3 v2 rfl rfl) h2
  clear hA0 hval0
  simp only [List.append_nil] at hW'
  refine (walk a0 a1 a2 w0 w1 w2 W).mono fun e W' ⟨he, hg⟩ => ?_
  subst he
  exact ⟨_, rfl, post_of_same (pa := []) (pv := []) hW' (fun _ _ _ => (trodAll_cons_mk (shut_bool Try.underlying4 _) trodAll_mk0)) (fun sp _ => (trodAll_cons_mk (shut_int Try.underlying22 w0) (trodAll_cons_mk (shut_int Try.underlying22 w1) (trodAll_cons_mk (shut_int Try.underlying3 w2) trodAll_mk0)))) (fun _ _ => rfl) rfl
    (hg.frame _) hg.2.1 (ok_one (by kernel_rfl) rfl (okWide_bool_mk Try.underlying4 _))⟩

theorem over : Rows.widePartsRow.holds Try.pinned (OpenSpec.ofChange Rows.widePartsSpec) :=
  OpenClaim.holds_of_wide 7 Try.f7 rfl rfl rfl rfl rfl rfl rfl ⟨rfl, rfl, rfl, rfl, rfl⟩ rfl rfl rfl rfl rfl (by kernel_rfl) Try.func7 (by kernel_rfl)
    (of_decide_eq_true (by kernel_rfl)) (by unfold Func.isWrapper; first | (rw [if_pos (by decide +kernel)]; kernel_rfl) | (rw [if_neg (by decide +kernel)]; exact ⟨rfl, rfl⟩))
    (fun os started H enc _ => lifted os started H enc)

theorem proved : Rows.WidePartsSaid :=
  over
end Go.Proofs.Ytpedcaioghkelaa.wideParts
namespace Go.Proofs.Ytpedcaioghkelaa
theorem wideParts_holds : Rows.WidePartsSaid := wideParts.proved
#print axioms wideParts_holds
end Go.Proofs.Ytpedcaioghkelaa
