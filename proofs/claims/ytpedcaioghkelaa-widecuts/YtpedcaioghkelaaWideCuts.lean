/-
  Proved: canterlaw02.WideCuts answers true at all numbers, and leaves its arguments as they were. Conditions: none.
-/
import Derived.Test.YtpedcaioghkelaaRows
import Derived.WalkKit
import Derived.ProofKit
import Derived.OpenShut
import Derived.ShutString
import Derived.Test.YtpedcaioghkelaaAwakeW
namespace Go.Proofs.Ytpedcaioghkelaa.wideCuts
open Go.ChangeShapes Go.WideShapes Go.ChangeAt Go.RowKit
open Go.ChangeMaps (open_string shut_string)
set_option linter.unusedVariables false

theorem own : ownKnob Try.prog.godebug = none := by kernel_rfl

theorem most_of {c : Int} (h : 1 ≤ c) : divV (c - 1) 18446744073709551615 c = 18446744073709551615 := by
  unfold divV
  rw [if_neg (by omega), if_neg (by omega), show (c - 1) * 18446744073709551616 + 18446744073709551615 = c - 1 + c * 18446744073709551615 from by omega,
    Int.add_mul_ediv_left _ _ (by omega), Int.ediv_eq_zero_of_lt (by omega) (by omega)]
  rfl
theorem most_ok {c l : Int} (h : 1 ≤ c) : divE (c - 1) l c = 0 := by unfold divE; rw [if_neg (by omega), if_neg (by omega)]
theorem over_of {c l : Int} (h : 1 ≤ c) : divE c l c = 3 := by unfold divE; rw [if_neg (by omega), if_pos (Int.le_refl _)]

set_option maxHeartbeats 1000000 in
theorem walk (a0 : Int) (a1 : Int) (a2 : Int) (w0 : (Lit.int .u64 a0).wf = true) (w1 : (Lit.int .u64 a1).wf = true) (w2 : (Lit.int .u64 a2).wf = true) (w : World) :
    Calls Try.prog 8 #[.int .u64 a0, .int .u64 a1, .int .u64 a2] w fun e w' => e = .returned (.bool true) ∧ Grown w w' := by
  obtain ⟨a0l, a0h⟩ := bounds_u64 w0
  obtain ⟨a1l, a1h⟩ := bounds_u64 w1
  obtain ⟨a2l, a2h⟩ := bounds_u64 w2
  clear w0 w1 w2
  rcases (show a2 = 0 ∨ a2 = 1 ∧ a0 = 0 ∨ a2 = 1 ∧ 1 ≤ a0 ∨ 1 < a2 ∧ a2 ≤ a0 ∨ 1 < a2 ∧ a0 < a2 by omega) with h | ⟨h, g⟩ | ⟨h, g⟩ | ⟨h, g⟩ | ⟨h, g⟩
  · subst h
    have e1 : (divE a0 a1 0 == 1) = true := rfl
    have e2 : (divE a0 a1 0 == 0) = false := rfl
    have e3 : (divV a0 a1 0 == 0) = true := rfl
    have e4 : (divE 0 18446744073709551615 1 == 0) = true := rfl
    have e5 : (divV 0 18446744073709551615 1 == 18446744073709551615) = true := rfl
    have e6 : (divE 1 a1 1 == 3) = true := by rw [over_of (by omega)]; rfl
    go_enter Try.func8, Try.ntmps8
    go_wp2_with (first
      | (go_at_call 13; refine (awakew_any _).mono ?_; rintro e w' ⟨rfl, rfl⟩)
      | (go_at_call 11; refine (wdiv_any _ _ _ (by omega) (by omega) (by omega) (by omega) (by omega) (by omega) _).mono ?_; rintro e w' ⟨rfl, rfl⟩))
    go_ret
    exact ⟨rfl, Grown.refl _⟩
  · subst h; subst g
    have e1 : (divE 0 a1 1 == 0) = true := rfl
    have e4 : (divE 0 18446744073709551615 1 == 0) = true := rfl
    have e5 : (divV 0 18446744073709551615 1 == 18446744073709551615) = true := rfl
    have e6 : (divE 1 a1 1 == 3) = true := by rw [over_of (by omega)]; rfl
    go_enter Try.func8, Try.ntmps8
    go_wp2_with (first
      | (go_at_call 13; refine (awakew_any _).mono ?_; rintro e w' ⟨rfl, rfl⟩)
      | (go_at_call 11; refine (wdiv_any _ _ _ (by omega) (by omega) (by omega) (by omega) (by omega) (by omega) _).mono ?_; rintro e w' ⟨rfl, rfl⟩))
    go_ret
    exact ⟨rfl, Grown.refl _⟩
  · subst h
    have e1 : (divE a0 a1 1 == 3) = true := by unfold divE; rw [if_neg (by omega), if_pos g]; rfl
    have e2 : (divE a0 a1 1 == 0) = false := by unfold divE; rw [if_neg (by omega), if_pos g]; rfl
    have e3 : (divV a0 a1 1 == 0) = true := by unfold divV; rw [if_neg (by omega), if_pos g]; rfl
    have e4 : (divE 0 18446744073709551615 1 == 0) = true := rfl
    have e5 : (divV 0 18446744073709551615 1 == 18446744073709551615) = true := rfl
    have e6 : (divE 1 a1 1 == 3) = true := by rw [over_of (by omega)]; rfl
    go_enter Try.func8, Try.ntmps8
    go_wp2_with (first
      | (go_at_call 13; refine (awakew_any _).mono ?_; rintro e w' ⟨rfl, rfl⟩)
      | (go_at_call 11; refine (wdiv_any _ _ _ (by omega) (by omega) (by omega) (by omega) (by omega) (by omega) _).mono ?_; rintro e w' ⟨rfl, rfl⟩))
    go_ret
    exact ⟨rfl, Grown.refl _⟩
  · have hb : (a2 == 0) = false := by rw [beq_eq_false_iff_ne]; omega
    have e1 : (divE a0 a1 a2 == 3) = true := by unfold divE; rw [if_neg (by omega), if_pos g]; rfl
    have e2 : (divE a0 a1 a2 == 0) = false := by unfold divE; rw [if_neg (by omega), if_pos g]; rfl
    have e3 : (divV a0 a1 a2 == 0) = true := by unfold divV; rw [if_neg (by omega), if_pos g]; rfl
    have e4 : (divE (a2 - 1) 18446744073709551615 a2 == 0) = true := by rw [most_ok (by omega)]; rfl
    have e5 : (divV (a2 - 1) 18446744073709551615 a2 == 18446744073709551615) = true := by rw [most_of (by omega)]; rfl
    have e6 : (divE a2 a1 a2 == 3) = true := by rw [over_of (by omega)]; rfl
    go_enter Try.func8, Try.ntmps8
    go_wp2_with (first
      | (go_at_call 13; refine (awakew_any _).mono ?_; rintro e w' ⟨rfl, rfl⟩)
      | (go_at_call 11; refine (wdiv_any _ _ _ (by omega) (by omega) (by omega) (by omega) (by omega) (by omega) _).mono ?_; rintro e w' ⟨rfl, rfl⟩))
    go_ret
    exact ⟨rfl, Grown.refl _⟩
  · have hb : (a2 == 0) = false := by rw [beq_eq_false_iff_ne]; omega
    have e1 : (divE a0 a1 a2 == 0) = true := by unfold divE; rw [if_neg (by omega), if_neg (by omega)]; rfl
    have e4 : (divE (a2 - 1) 18446744073709551615 a2 == 0) = true := by rw [most_ok (by omega)]; rfl
    have e5 : (divV (a2 - 1) 18446744073709551615 a2 == 18446744073709551615) = true := by rw [most_of (by omega)]; rfl
    have e6 : (divE a2 a1 a2 == 3) = true := by rw [over_of (by omega)]; rfl
    go_enter Try.func8, Try.ntmps8
    go_wp2_with (first
      | (go_at_call 13; refine (awakew_any _).mono ?_; rintro e w' ⟨rfl, rfl⟩)
      | (go_at_call 11; refine (wdiv_any _ _ _ (by omega) (by omega) (by omega) (by omega) (by omega) (by omega) _).mono ?_; rintro e w' ⟨rfl, rfl⟩))
    go_ret
    exact ⟨rfl, Grown.refl _⟩

set_option maxRecDepth 100000 in
theorem lifted (os : Os) (started : os.Started) (H : Type) (enc : TypeId × Value → H) :
    ReturnsInHanded {} Try.checked os 8 .any (Rows.wideCutsSpec.pre6 enc Try.prog Try.f8 Rows.wideCutsRow.domain false) (Rows.wideCutsSpec.post enc Try.prog Try.f8 false true false false) := by
  refine returnsInHanded_of_change (C := Try.checked) own started (by kernel_rfl) Try.func8
    (ChangeSpec.witness6 (enc := enc) (C := Try.checked) false ⟨#[], #[.int .u64 0, .int .u64 0, .int .u64 0], []⟩ 8 (by kernel_rfl) (by kernel_rfl) (by kernel_rfl) (by kernel_rfl)) ?_
  intro W base args ds gs before hval0 hW hcnd _
  have hval : ∀ (j : Nat) t v, Try.f8.params[j]? = some t → args[j]? = some v → Value.okWide Try.prog W .any base t v := hval0
  have hW' := hW
  obtain ⟨p, q, hA0, hV, rfl, hfz, hnd⟩ := hW
  have hA : DataW.TrodAll enc Try.prog W 0 (fun _ => true) true Try.f8.params.toList args.toList ds p := hA0
  rw [Try.params8] at hA hval
  obtain ⟨v0, vs0, d0, ds0, p0, q0, hargs, rfl, rfl, h0, r0⟩ := trodAll_cons hA
  obtain ⟨v1, vs1, d1, ds1, p1, q1, rfl, rfl, rfl, h1, r1⟩ := trodAll_cons r0
  obtain ⟨v2, vs2, d2, ds2, p2, q2, rfl, rfl, rfl, h2, r2⟩ := trodAll_cons r1
  obtain ⟨rfl, rfl, rfl⟩ := trodAll_nil r2
  obtain rfl : args = #[v0, v1, v2] := by cases args; simp_all
  obtain ⟨rfl, rfl⟩ := trodVars_none hV
  obtain ⟨a0, rfl, rfl, rfl, w0⟩ := open_int Try.underlying22 (hval 0 22 v0 rfl rfl) h0
  obtain ⟨a1, rfl, rfl, rfl, w1⟩ := open_int Try.underlying22 (hval 1 22 v1 rfl rfl) h1
  obtain ⟨a2, rfl, rfl, rfl, w2⟩ := open_int Try.underlying22 (hval 2 22 v2 rfl rfl) h2
  clear hA0 hval0
  simp only [List.append_nil] at hW'
  refine (walk a0 a1 a2 w0 w1 w2 W).mono fun e W' ⟨he, hg⟩ => ?_
  subst he
  exact ⟨_, rfl, post_of_same (pa := []) (pv := []) hW' (fun _ _ _ => (trodAll_cons_mk (shut_bool Try.underlying4 _) trodAll_mk0)) (fun sp _ => (trodAll_cons_mk (shut_int Try.underlying22 w0) (trodAll_cons_mk (shut_int Try.underlying22 w1) (trodAll_cons_mk (shut_int Try.underlying22 w2) trodAll_mk0)))) (fun _ _ => rfl) rfl
    (hg.frame _) hg.2.1 (ok_one (by kernel_rfl) rfl (okWide_bool_mk Try.underlying4 _))⟩

theorem over : Rows.wideCutsRow.holds Try.pinned (OpenSpec.ofChange Rows.wideCutsSpec) :=
  OpenClaim.holds_of_wide 8 Try.f8 rfl rfl rfl rfl rfl rfl rfl ⟨rfl, rfl, rfl, rfl, rfl⟩ rfl rfl rfl rfl rfl (by kernel_rfl) Try.func8 (by kernel_rfl)
    (of_decide_eq_true (by kernel_rfl)) (by unfold Func.isWrapper; first | (rw [if_pos (by decide +kernel)]; kernel_rfl) | (rw [if_neg (by decide +kernel)]; exact ⟨rfl, rfl⟩))
    (fun os started H enc _ => lifted os started H enc)

theorem proved : Rows.WideCutsSaid :=
  over
end Go.Proofs.Ytpedcaioghkelaa.wideCuts
namespace Go.Proofs.Ytpedcaioghkelaa
theorem wideCuts_holds : Rows.WideCutsSaid := wideCuts.proved
#print axioms wideCuts_holds
end Go.Proofs.Ytpedcaioghkelaa
