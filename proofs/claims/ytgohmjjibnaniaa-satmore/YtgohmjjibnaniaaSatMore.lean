/-
  Proved: canterlaw01.SatMore answers true at any three numbers, and leaves its arguments as they were. Conditions: none.
-/
import Derived.Test.YtgohmjjibnaniaaRows
import Derived.WalkKit
import Derived.ProofKit
import Derived.OpenShut
import Derived.ShutString
import Derived.Test.YtgohmjjibnaniaaAwake
namespace Go.Proofs.Ytgohmjjibnaniaa.satMore
open Go.ChangeShapes Go.WideShapes Go.ChangeAt Go.RowKit
open Go.ChangeMaps (open_string shut_string)
set_option linter.unusedVariables false

theorem own : ownKnob Try.prog.godebug = none := by kernel_rfl

theorem satAdd_bd (a b : Int) (ha : 0 ≤ a) (hb : 0 ≤ b) : 0 ≤ satAdd a b ∧ satAdd a b ≤ 18446744073709551615 := by
  unfold satAdd; split <;> omega
theorem satAdd_mono (a b c : Int) (h : a ≤ b) : decide (satAdd a c ≤ satAdd b c) = true := by
  rw [decide_eq_true_eq]; unfold satAdd; split <;> split <;> omega
theorem satSub_mono (a b c : Int) (h : a ≤ b) : decide (satSub a c ≤ satSub b c) = true := by
  rw [decide_eq_true_eq]; unfold satSub; split <;> split <;> omega
theorem satMul_mono (a b c : Int) (h : a ≤ b) (hc : 0 ≤ c) : decide (satMul a c ≤ satMul b c) = true := by
  have := Int.mul_le_mul_of_nonneg_right h hc
  rw [decide_eq_true_eq]; unfold satMul; split <;> split <;> omega
theorem satAdd_comm (a b : Int) : (satAdd a b == satAdd b a) = true := by
  rw [beq_iff_eq]; unfold satAdd; rw [Int.add_comm]
theorem satMul_comm (a b : Int) : (satMul a b == satMul b a) = true := by
  rw [beq_iff_eq]; unfold satMul; rw [Int.mul_comm]
theorem satAdd_assoc (a b c : Int) (ha : 0 ≤ a) (hc : 0 ≤ c) : (satAdd (satAdd a b) c == satAdd a (satAdd b c)) = true := by
  rw [beq_iff_eq]; unfold satAdd; repeat' split
  all_goals omega
theorem satAdd_back (a b : Int) (h : (satAdd a b == 18446744073709551615) = false) (ha : 0 ≤ a) : (satSub (satAdd a b) b == a) = true := by
  rw [beq_eq_false_iff_ne] at h
  rw [beq_iff_eq]; revert h; unfold satAdd satSub; split <;> split <;> omega

set_option maxHeartbeats 4000000 in
theorem walk (a0 : Int) (a1 : Int) (a2 : Int) (w0 : (Lit.int .u64 a0).wf = true) (w1 : (Lit.int .u64 a1).wf = true) (w2 : (Lit.int .u64 a2).wf = true) (w : World) :
    Calls Try.prog 4 #[.int .u64 a0, .int .u64 a1, .int .u64 a2] w fun e w' => e = .returned (.bool true) ∧ Grown w w' := by
  obtain ⟨a0l, a0h⟩ := bounds_u64 w0
  obtain ⟨a1l, a1h⟩ := bounds_u64 w1
  obtain ⟨a2l, a2h⟩ := bounds_u64 w2
  clear w0 w1 w2
  rcases Int.lt_trichotomy a0 a1 with h | h | h
  · have q1 := satAdd_mono a0 a1 a2 (by omega)
    have q2 := satMul_mono a0 a1 a2 (by omega) a2l
    have q3 := satSub_mono a0 a1 a2 (by omega)
    have q4 := satAdd_comm a0 a1
    have q5 := satMul_comm a0 a1
    have q6 := satAdd_assoc a0 a1 a2 a0l a2l
    obtain ⟨p1, p2⟩ := satAdd_bd a0 a1 (by omega) (by omega)
    obtain ⟨p3, p4⟩ := satAdd_bd a1 a2 (by omega) (by omega)
    by_cases g : (satAdd a0 a1 == 18446744073709551615) = true
    · go_enter Try.func4, Try.ntmps4
      go_wp2_with (first
        | (go_at_call 7; refine (awake_any _).mono ?_; rintro e w' ⟨rfl, rfl⟩)
        | (go_at_call 11; refine (add_any _ _ (by omega) (by omega) (by omega) (by omega) _).mono ?_; rintro e w' ⟨rfl, rfl⟩)
        | (go_at_call 13; refine (sub_any _ _ (by omega) (by omega) (by omega) (by omega) _).mono ?_; rintro e w' ⟨rfl, rfl⟩)
        | (go_at_call 15; refine (mul_any _ _ (by omega) (by omega) (by omega) (by omega) _).mono ?_; rintro e w' ⟨rfl, rfl⟩))
      go_ret
      exact ⟨rfl, (Grown.refl _).alloc _ _⟩
    · have g : (satAdd a0 a1 == 18446744073709551615) = false := by simpa using g
      have q7 := satAdd_back a0 a1 g a0l
      go_enter Try.func4, Try.ntmps4
      go_wp2_with (first
        | (go_at_call 7; refine (awake_any _).mono ?_; rintro e w' ⟨rfl, rfl⟩)
        | (go_at_call 11; refine (add_any _ _ (by omega) (by omega) (by omega) (by omega) _).mono ?_; rintro e w' ⟨rfl, rfl⟩)
        | (go_at_call 13; refine (sub_any _ _ (by omega) (by omega) (by omega) (by omega) _).mono ?_; rintro e w' ⟨rfl, rfl⟩)
        | (go_at_call 15; refine (mul_any _ _ (by omega) (by omega) (by omega) (by omega) _).mono ?_; rintro e w' ⟨rfl, rfl⟩))
      go_ret
      exact ⟨rfl, (Grown.refl _).alloc _ _⟩
  · subst h
    have q1 := satAdd_mono a0 a0 a2 (by omega)
    have q2 := satMul_mono a0 a0 a2 (by omega) a2l
    have q3 := satSub_mono a0 a0 a2 (by omega)
    have q4 := satAdd_comm a0 a0
    have q5 := satMul_comm a0 a0
    have q6 := satAdd_assoc a0 a0 a2 a0l a2l
    obtain ⟨p1, p2⟩ := satAdd_bd a0 a0 (by omega) (by omega)
    obtain ⟨p3, p4⟩ := satAdd_bd a0 a2 (by omega) (by omega)
    by_cases g : (satAdd a0 a0 == 18446744073709551615) = true
    · go_enter Try.func4, Try.ntmps4
      go_wp2_with (first
        | (go_at_call 7; refine (awake_any _).mono ?_; rintro e w' ⟨rfl, rfl⟩)
        | (go_at_call 11; refine (add_any _ _ (by omega) (by omega) (by omega) (by omega) _).mono ?_; rintro e w' ⟨rfl, rfl⟩)
        | (go_at_call 13; refine (sub_any _ _ (by omega) (by omega) (by omega) (by omega) _).mono ?_; rintro e w' ⟨rfl, rfl⟩)
        | (go_at_call 15; refine (mul_any _ _ (by omega) (by omega) (by omega) (by omega) _).mono ?_; rintro e w' ⟨rfl, rfl⟩))
      go_ret
      exact ⟨rfl, (Grown.refl _).alloc _ _⟩
    · have g : (satAdd a0 a0 == 18446744073709551615) = false := by simpa using g
      have q7 := satAdd_back a0 a0 g a0l
      go_enter Try.func4, Try.ntmps4
      go_wp2_with (first
        | (go_at_call 7; refine (awake_any _).mono ?_; rintro e w' ⟨rfl, rfl⟩)
        | (go_at_call 11; refine (add_any _ _ (by omega) (by omega) (by omega) (by omega) _).mono ?_; rintro e w' ⟨rfl, rfl⟩)
        | (go_at_call 13; refine (sub_any _ _ (by omega) (by omega) (by omega) (by omega) _).mono ?_; rintro e w' ⟨rfl, rfl⟩)
        | (go_at_call 15; refine (mul_any _ _ (by omega) (by omega) (by omega) (by omega) _).mono ?_; rintro e w' ⟨rfl, rfl⟩))
      go_ret
      exact ⟨rfl, (Grown.refl _).alloc _ _⟩
  · have q1 := satAdd_mono a1 a0 a2 (by omega)
    have q2 := satMul_mono a1 a0 a2 (by omega) a2l
    have q3 := satSub_mono a1 a0 a2 (by omega)
    have q4 := satAdd_comm a0 a1
    have q5 := satMul_comm a0 a1
    have q6 := satAdd_assoc a0 a1 a2 a0l a2l
    obtain ⟨p1, p2⟩ := satAdd_bd a0 a1 (by omega) (by omega)
    obtain ⟨p3, p4⟩ := satAdd_bd a1 a2 (by omega) (by omega)
    by_cases g : (satAdd a0 a1 == 18446744073709551615) = true
    · go_enter Try.func4, Try.ntmps4
      go_wp2_with (first
        | (go_at_call 7; refine (awake_any _).mono ?_; rintro e w' ⟨rfl, rfl⟩)
        | (go_at_call 11; refine (add_any _ _ (by omega) (by omega) (by omega) (by omega) _).mono ?_; rintro e w' ⟨rfl, rfl⟩)
        | (go_at_call 13; refine (sub_any _ _ (by omega) (by omega) (by omega) (by omega) _).mono ?_; rintro e w' ⟨rfl, rfl⟩)
        | (go_at_call 15; refine (mul_any _ _ (by omega) (by omega) (by omega) (by omega) _).mono ?_; rintro e w' ⟨rfl, rfl⟩))
      go_ret
      exact ⟨rfl, (Grown.refl _).alloc _ _⟩
    · have g : (satAdd a0 a1 == 18446744073709551615) = false := by simpa using g
      have q7 := satAdd_back a0 a1 g a0l
      go_enter Try.func4, Try.ntmps4
      go_wp2_with (first
        | (go_at_call 7; refine (awake_any _).mono ?_; rintro e w' ⟨rfl, rfl⟩)
        | (go_at_call 11; refine (add_any _ _ (by omega) (by omega) (by omega) (by omega) _).mono ?_; rintro e w' ⟨rfl, rfl⟩)
        | (go_at_call 13; refine (sub_any _ _ (by omega) (by omega) (by omega) (by omega) _).mono ?_; rintro e w' ⟨rfl, rfl⟩)
        | (go_at_call 15; refine (mul_any _ _ (by omega) (by omega) (by omega) (by omega) _).mono ?_; rintro e w' ⟨rfl, rfl⟩))
      go_ret
      exact ⟨rfl, (Grown.refl _).alloc _ _⟩

set_option maxRecDepth 100000 in
theorem lifted (os : Os) (started : os.Started) (H : Type) (enc : TypeId × Value → H) :
    ReturnsInHanded {} Try.checked os 4 .any (Rows.satMoreSpec.pre6 enc Try.prog Try.f4 Rows.satMoreRow.domain false) (Rows.satMoreSpec.post enc Try.prog Try.f4 false true false false) := by
  refine returnsInHanded_of_change (C := Try.checked) own started (by kernel_rfl) Try.func4
    (ChangeSpec.witness6 (enc := enc) (C := Try.checked) false ⟨#[], #[.int .u64 0, .int .u64 0, .int .u64 0], []⟩ 8 (by kernel_rfl) (by kernel_rfl) (by kernel_rfl) (by kernel_rfl)) ?_
  intro W base args ds gs before hval0 hW hcnd _
  have hval : ∀ (j : Nat) t v, Try.f4.params[j]? = some t → args[j]? = some v → Value.okWide Try.prog W .any base t v := hval0
  have hW' := hW
  obtain ⟨p, q, hA0, hV, rfl, hfz, hnd⟩ := hW
  have hA : DataW.TrodAll enc Try.prog W 0 (fun _ => true) true Try.f4.params.toList args.toList ds p := hA0
  rw [Try.params4] at hA hval
  obtain ⟨v0, vs0, d0, ds0, p0, q0, hargs, rfl, rfl, h0, r0⟩ := trodAll_cons hA
  obtain ⟨v1, vs1, d1, ds1, p1, q1, rfl, rfl, rfl, h1, r1⟩ := trodAll_cons r0
  obtain ⟨v2, vs2, d2, ds2, p2, q2, rfl, rfl, rfl, h2, r2⟩ := trodAll_cons r1
  obtain ⟨rfl, rfl, rfl⟩ := trodAll_nil r2
  obtain rfl : args = #[v0, v1, v2] := by cases args; simp_all
  obtain ⟨rfl, rfl⟩ := trodVars_none hV
  obtain ⟨a0, rfl, rfl, rfl, w0⟩ := open_int Try.underlying22 (hval 0 22 v0 rfl rfl) h0
  obtain ⟨a1, rfl, rfl, rfl, w1⟩ := open_int Try.underlying22 (hval 1 22 v1 rfl rfl) h1
  obtain ⟨a2, rfl, rfl, rfl, w2⟩ := open_int Try.underlying22 (hval 2 22 v2 rfl rfl) h2
  clear hA0 hval0
  simp only [List.append_nil] at hW'
  refine (walk a0 a1 a2 w0 w1 w2 W).mono fun e W' ⟨he, hg⟩ => ?_
  subst he
  exact ⟨_, rfl, post_of_same (pa := []) (pv := []) hW' (fun _ _ _ => (trodAll_cons_mk (shut_bool Try.underlying4 _) trodAll_mk0)) (fun sp _ => (trodAll_cons_mk (shut_int Try.underlying22 w0) (trodAll_cons_mk (shut_int Try.underlying22 w1) (trodAll_cons_mk (shut_int Try.underlying22 w2) trodAll_mk0)))) (fun _ _ => rfl) rfl
    (hg.frame _) hg.2.1 (ok_one (by kernel_rfl) rfl (okWide_bool_mk Try.underlying4 _))⟩

theorem over : Rows.satMoreRow.holds Try.pinned (OpenSpec.ofChange Rows.satMoreSpec) :=
  OpenClaim.holds_of_wide 4 Try.f4 rfl rfl rfl rfl rfl rfl rfl ⟨rfl, rfl, rfl, rfl, rfl⟩ rfl rfl rfl rfl rfl (by kernel_rfl) Try.func4 (by kernel_rfl)
    (of_decide_eq_true (by kernel_rfl)) (by unfold Func.isWrapper; first | (rw [if_pos (by decide +kernel)]; kernel_rfl) | (rw [if_neg (by decide +kernel)]; exact ⟨rfl, rfl⟩))
    (fun os started H enc _ => lifted os started H enc)

theorem proved : Rows.SatMoreSaid :=
  over
end Go.Proofs.Ytgohmjjibnaniaa.satMore
namespace Go.Proofs.Ytgohmjjibnaniaa
theorem satMore_holds : Rows.SatMoreSaid := satMore.proved
#print axioms satMore_holds
end Go.Proofs.Ytgohmjjibnaniaa
