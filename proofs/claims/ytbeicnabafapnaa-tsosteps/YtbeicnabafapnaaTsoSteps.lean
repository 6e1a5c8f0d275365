/-
  Proved: canterlaw22.TsoSteps answers true at every three numbers, and leaves its arguments as they were. Conditions: none.
-/
import Derived.Test.YtbeicnabafapnaaRows
import Derived.WalkKit
import Derived.ProofKit
import Derived.OpenShut
import Derived.ShutString
import Derived.Test.YtbeicnabafapnaaTso
import Derived.Test.YtbeicnabafapnaaSched
import Derived.Laws.BitsLemmas
namespace Go.Proofs.Ytbeicnabafapnaa.tsoSteps
open Go.ChangeShapes Go.WideShapes Go.ChangeAt Go.RowKit
open Go.ChangeMaps (open_string shut_string)
set_option linter.unusedVariables false

theorem own : ownKnob Try.prog.godebug = none := by kernel_rfl

/-- The law's own mss and its number of segments. -/
theorem step_nums (a b : Int) : ∃ M N : Int, wrap64 (100 + wrap64 ((IntKind.u64.wrap a).tmod 8900)) = M ∧ wrap64 ((IntKind.u64.wrap b).tmod 100) = N ∧ 100 ≤ M ∧ M ≤ 8999 ∧ 0 ≤ N ∧ N ≤ 99 := by
  have h0 : 0 ≤ IntKind.u64.wrap a := by rw [IntKind.wrap_u64]; omega
  have h1 : 0 ≤ IntKind.u64.wrap b := by rw [IntKind.wrap_u64]; omega
  refine ⟨_, _, rfl, rfl, ?_⟩
  rw [Int.tmod_eq_emod_of_nonneg h0, Int.tmod_eq_emod_of_nonneg h1]
  generalize IntKind.u64.wrap a = x at *
  generalize IntKind.u64.wrap b = y at *
  unfold wrap64
  omega
/-- How many go where n are there, at most b. -/
def goT (n b : Int) : Int := if min n b < 2 then 2 else min n b
theorem go_eq (n b : Int) : (if 2 < (if b < n then b else n) then (if b < n then b else n) else 2) = goT n b := by
  have h : (if b < n then b else n) = min n b := by
    rcases Int.lt_or_le b n with h | h
    · rw [if_pos h, Int.min_eq_right (by omega)]
    · rw [if_neg (by omega), Int.min_eq_left (by omega)]
  rw [h]
  unfold goT
  generalize min n b = x
  rcases Int.lt_trichotomy x 2 with g | g | g
  · rw [if_neg (by omega), if_pos g]
  · rw [if_neg (by omega), if_neg (by omega), g]
  · rw [if_pos g, if_neg (by omega)]
theorem go_bd {n b M : Int} (hb : 7 ≤ b) (hm : 0 ≤ M) (h : b * M ≤ 65536) : 2 ≤ goT n b ∧ goT n b * M ≤ 65536 ∧ 0 ≤ goT n b * M ∧ goT n b ≤ b := by
  have h1 : 2 ≤ goT n b := by unfold goT; split <;> omega
  have h2 : goT n b ≤ b := by unfold goT; split <;> omega
  exact ⟨h1, Int.le_trans (Int.mul_le_mul_of_nonneg_right h2 hm) h, Int.mul_nonneg (by omega) hm, h2⟩
theorem step_facts (M N a : Int) (m0 : 100 ≤ M) (m1 : M ≤ 8999) (n0 : 0 ≤ N) (n1 : N ≤ 99) (a0 : 0 ≤ a) :
    ∃ P o B W V : Int, N * M = P ∧ a % 1024 = o ∧ a.tmod 1024 = o ∧ (65536 : Int).tdiv M = B ∧ Hid (goT N B = W) ∧ Hid (goT (N - 1) B = V) ∧ Hid (sizeT (P * 1024 + o) M = W * M) ∧ Hid (sizeT (P * 1024 - 1) M = V * M) ∧
      0 ≤ P ∧ P ≤ 900000 ∧ 0 ≤ o ∧ o < 1024 ∧ 7 ≤ B ∧ B ≤ 655 ∧ (N = 0 ∨ 100 ≤ P) ∧ 2 ≤ W ∧ W ≤ 655 ∧ W * M ≤ 65536 ∧ 0 ≤ W * M ∧ 2 ≤ V ∧ V ≤ 655 ∧ V * M ≤ 65536 ∧ 0 ≤ V * M := by
  have h3 := most_low (h := M) (by omega) (by omega)
  have h4 := most_high (h := M) (by omega)
  have h5 := most_mul (h := M) (by omega)
  unfold mostT at h3 h4 h5
  have hp0 : 0 ≤ N * M := Int.mul_nonneg n0 (by omega)
  have hp1 : N * M ≤ 99 * 8999 := Int.mul_le_mul n1 m1 (by omega) (by omega)
  have hp2 : N = 0 ∨ 100 ≤ N * M := by
    rcases Int.lt_or_le N 1 with g | g
    · exact .inl (by omega)
    · have := Int.mul_le_mul g m0 (by omega) (by omega)
      exact .inr (by omega)
  obtain ⟨g1, g2, g3, g4⟩ := go_bd (n := N) (b := 65536 / M) h3 (by omega) h5
  obtain ⟨k1, k2, k3, k4⟩ := go_bd (n := N - 1) (b := 65536 / M) h3 (by omega) h5
  refine ⟨N * M, a % 1024, 65536 / M, _, _, rfl, rfl, Int.tmod_eq_emod_of_nonneg a0, Int.tdiv_eq_ediv_of_nonneg (by decide), Lib.hid rfl, Lib.hid rfl, Lib.hid ?_, Lib.hid ?_, hp0, by omega, by omega, by omega, h3, h4, hp2, g1, by omega, g2, g3, k1, by omega, k2, k3⟩
  · rw [size_at m0 (by omega) (by omega) (by omega)]; rfl
  · rw [size_under m0 (by omega)]; rfl

set_option linter.unusedSimpArgs false in
set_option maxHeartbeats 1000000 in
theorem walk (a0 : Int) (a1 : Int) (a2 : Int) (w0 : (Lit.int .i64 a0).wf = true) (w1 : (Lit.int .i64 a1).wf = true) (w2 : (Lit.int .u64 a2).wf = true) (w : World) :
    Calls Try.prog 6 #[.int .i64 a0, .int .i64 a1, .int .u64 a2] w fun e w' => e = .returned (.bool true) ∧ Grown w w' := by
  obtain ⟨o0, o1⟩ := bounds_u64 w2
  clear w0 w1 w2
  obtain ⟨M, N, hM, hN, m0, m1, n0, n1⟩ := step_nums a1 a0
  obtain ⟨P, o, B, W, V, hP, ho, ho2, hB, HW, HV, HS, HT, p0, p1, q0, q1, b0, b1, hn, W0, W1, W2, W3, V0, V1, V2, V3⟩ := step_facts M N a2 m0 m1 n0 n1 o0
  have hz : (M == 0) = false := by rw [beq_eq_false_iff_ne]; omega
  have hz2 : M ≠ 0 := by omega
  have e1 : wrap64 P = P := by unfold wrap64; omega
  have e2 : IntKind.u64.wrap P = P := by rw [IntKind.wrap_u64]; omega
  have e3 : IntKind.u64.wrap (P * 1024) = P * 1024 := by rw [IntKind.wrap_u64]; omega
  have e4 : IntKind.u64.wrap (P * 1024 + o) = P * 1024 + o := by rw [IntKind.wrap_u64]; omega
  have HE : Hid (IntKind.i64.wrap P = P ∧ IntKind.i64.wrap (W * M) = W * M ∧ IntKind.i64.wrap (V * M) = V * M ∧ IntKind.i64.wrap B = B ∧ IntKind.i64.wrap (N - 1) = N - 1) := Lib.hid (by simp only [IntKind.wrap_i64]; omega)
  have HX : Hid (N ≠ 0 → IntKind.u64.wrap (P * 1024 - 1) = P * 1024 - 1 ∧ 0 ≤ P * 1024 - 1) := Lib.hid (by intro h; rw [IntKind.wrap_u64]; omega)
  have H4 := Lib.hid (show 0 ≤ P * 1024 + o ∧ P * 1024 + o ≤ 18446744073709551615 by omega)
  have H5 := Lib.hid (show P * 1024 - 1 ≤ 18446744073709551615 by omega)
  clear p0 p1 q0 q1 W0 W1 W2 W3 V0 V1 V2 V3 hn
  go_enter Try.func6, Try.ntmps6
  go_upto_region 4 with fail
  rw [hM, hN]
  clear hM hN
  go_cut [8] (fun s wx => s = .int .i64 W ∧ wx = w)
  case first =>
    clear e1 e2 e3 e4 hP ho ho2
    by_cases g1 : B < N
    · have HQ : Hid (W = B) := Lib.hid (by rw [← HW.out]; unfold goT; rw [Int.min_eq_right (by omega), if_neg (by omega)])
      have g2 : 2 < B := by omega
      go_wp2
      go_meet
      case rel => exact ⟨by rw [HQ.out], rfl⟩
    · by_cases g2 : 2 < N
      · have HQ : Hid (W = N) := Lib.hid (by rw [← HW.out]; unfold goT; rw [Int.min_eq_left (by omega), if_neg (by omega)])
        go_wp2
        go_meet
        case rel => exact ⟨by rw [HQ.out], rfl⟩
      · have HQ : Hid (W = 2) := Lib.hid (by rw [← HW.out]; unfold goT; rw [Int.min_eq_left (by omega)]; split <;> omega)
        go_wp2
        go_meet
        case rel => exact ⟨by rw [HQ.out], rfl⟩
  case rest =>
    obtain ⟨rfl, rfl⟩ := hcut
    obtain ⟨k1, k2, k3, k4, k5⟩ := HE.out
    have hy := go_eq (N - 1) B
    rw [HV.out] at hy
    have HY := Lib.hid hy
    clear hy e4
    by_cases hN0 : N = 0
    · have hn : (N == 0) = true := by rw [beq_iff_eq]; exact hN0
      clear hN0
      go_upto_region 5 with fail
      refine wp_region_sch (fun _ => True) [(false, 0), (true, 1), (true, 2), (true, 3), (true, 5), (true, 6), (true, 7), (false, 4), (true, 8), (true, 9), (true, 10), (true, 11), (true, 12), (true, 13), (true, 14), (true, 15), (true, 16), (true, 17), (true, 18), (true, 19), (true, 20), (true, 22), (true, 23), (true, 24), (true, 25), (true, 26), (true, 27), (true, 28), (true, 29), (false, 21), (true, 30), (true, 31), (true, 32), (true, 33)] (by kernel_rfl) (by kernel_rfl) (by kernel_rfl) (by kernel_rfl) trivial ?_
      refine wpSch_call rfl (by rfl) (fun K hK => ?_); go_simp
      refine (awaket_any _).mono ?_
      rintro e w' ⟨rfl, rfl⟩
      refine hK.out _ _ ?_ (fun hHeld => ?_)
      · trivial
      clear hK K
      (try simp only [Act.put, List.setIfInBounds_toArray, List.set_cons_zero, List.set_cons_succ])
      (repeat (first
        | (refine wpSch_yes (v := ?_) rfl (fun _ _ _ h => h) (by rfl) ?_ ?_; rotate_left; (next => (intro w hSw; go_simp; (try with_reducible rfl)));   (try simp only [Act.put, List.setIfInBounds_toArray, List.set_cons_zero, List.set_cons_succ]))
        | (refine wpSch_no rfl (fun _ _ _ h => h) (by rfl) ?_;   (try simp only [Act.put, List.setIfInBounds_toArray, List.set_cons_zero, List.set_cons_succ]))))
      refine wpSch_call rfl (by rfl) (fun K hK => ?_); go_simp
      refine (size_is HS.out H4.out.1 H4.out.2 _).mono ?_
      rintro e w' ⟨rfl, rfl⟩
      refine hK.out _ _ ?_ (fun hHeld => ?_)
      · trivial
      clear hK K
      (try simp only [Act.put, List.setIfInBounds_toArray, List.set_cons_zero, List.set_cons_succ])
      (repeat (first
        | (refine wpSch_yes (v := ?_) rfl (fun _ _ _ h => h) (by rfl) ?_ ?_; rotate_left; (next => (intro w hSw; go_simp; (try with_reducible rfl)));   (try simp only [Act.put, List.setIfInBounds_toArray, List.set_cons_zero, List.set_cons_succ]))
        | (refine wpSch_no rfl (fun _ _ _ h => h) (by rfl) ?_;   (try simp only [Act.put, List.setIfInBounds_toArray, List.set_cons_zero, List.set_cons_succ]))))
      refine wpSch_not rfl (by rfl) trivial ?_
      (try simp only [Act.put, List.setIfInBounds_toArray, List.set_cons_zero, List.set_cons_succ])
      (repeat (first
        | (refine wpSch_yes (v := ?_) rfl (fun _ _ _ h => h) (by rfl) ?_ ?_; rotate_left; (next => (intro w hSw; go_simp; (try with_reducible rfl)));   (try simp only [Act.put, List.setIfInBounds_toArray, List.set_cons_zero, List.set_cons_succ]))
        | (refine wpSch_no rfl (fun _ _ _ h => h) (by rfl) ?_;   (try simp only [Act.put, List.setIfInBounds_toArray, List.set_cons_zero, List.set_cons_succ]))))
      refine wpSch_nil ?_
      go_wp2
      all_goals go_ret
      all_goals exact ⟨rfl, (Grown.refl wc).1, fun _ => rfl, Nat.le_refl _⟩
    · have hn : (N == 0) = false := by rw [beq_eq_false_iff_ne]; exact hN0
      obtain ⟨k6, HL⟩ := HX.out hN0
      have HL2 := Lib.hid HL
      clear hN0 HL
      go_upto_region 5 with fail
      refine wp_region_sch (fun _ => True) [(false, 0), (true, 1), (true, 2), (true, 3), (true, 5), (true, 6), (true, 7), (false, 4), (true, 8), (true, 9), (true, 10), (true, 11), (true, 12), (true, 13), (true, 14), (true, 15), (true, 16), (true, 17), (true, 18), (true, 19), (true, 20), (true, 22), (true, 23), (true, 24), (true, 25), (true, 26), (true, 27), (true, 28), (true, 29), (false, 21), (true, 30), (true, 31), (true, 32), (true, 33)] (by kernel_rfl) (by kernel_rfl) (by kernel_rfl) (by kernel_rfl) trivial ?_
      refine wpSch_call rfl (by rfl) (fun K hK => ?_); go_simp
      refine (awaket_any _).mono ?_
      rintro e w' ⟨rfl, rfl⟩
      refine hK.out _ _ ?_ (fun hHeld => ?_)
      · trivial
      clear hK K
      (try simp only [Act.put, List.setIfInBounds_toArray, List.set_cons_zero, List.set_cons_succ])
      (repeat (first
        | (refine wpSch_yes (v := ?_) rfl (fun _ _ _ h => h) (by rfl) ?_ ?_; rotate_left; (next => (intro w hSw; go_simp; (try with_reducible rfl)));   (try simp only [Act.put, List.setIfInBounds_toArray, List.set_cons_zero, List.set_cons_succ]))
        | (refine wpSch_no rfl (fun _ _ _ h => h) (by rfl) ?_;   (try simp only [Act.put, List.setIfInBounds_toArray, List.set_cons_zero, List.set_cons_succ]))))
      refine wpSch_call rfl (by rfl) (fun K hK => ?_); go_simp
      refine (size_is HS.out H4.out.1 H4.out.2 _).mono ?_
      rintro e w' ⟨rfl, rfl⟩
      refine hK.out _ _ ?_ (fun hHeld => ?_)
      · trivial
      clear hK K
      (try simp only [Act.put, List.setIfInBounds_toArray, List.set_cons_zero, List.set_cons_succ])
      (repeat (first
        | (refine wpSch_yes (v := ?_) rfl (fun _ _ _ h => h) (by rfl) ?_ ?_; rotate_left; (next => (intro w hSw; go_simp; (try with_reducible rfl)));   (try simp only [Act.put, List.setIfInBounds_toArray, List.set_cons_zero, List.set_cons_succ]))
        | (refine wpSch_no rfl (fun _ _ _ h => h) (by rfl) ?_;   (try simp only [Act.put, List.setIfInBounds_toArray, List.set_cons_zero, List.set_cons_succ]))))
      refine wpSch_call rfl (by rfl) (fun K hK => ?_); go_simp
      refine (size_is HT.out HL2.out H5.out _).mono ?_
      rintro e w' ⟨rfl, rfl⟩
      refine hK.out _ _ ?_ (fun hHeld => ?_)
      · trivial
      clear hK K
      (try simp only [Act.put, List.setIfInBounds_toArray, List.set_cons_zero, List.set_cons_succ])
      (repeat (first
        | (refine wpSch_yes (v := ?_) rfl (fun _ _ _ h => h) (by rfl) ?_ ?_; rotate_left; (next => (intro w hSw; go_simp; (try with_reducible rfl)));   (try simp only [Act.put, List.setIfInBounds_toArray, List.set_cons_zero, List.set_cons_succ]))
        | (refine wpSch_no rfl (fun _ _ _ h => h) (by rfl) ?_;   (try simp only [Act.put, List.setIfInBounds_toArray, List.set_cons_zero, List.set_cons_succ]))))
      simp only [HY.out, k3, beq_self_eq_true]
      refine wpSch_nil ?_
      go_wp2
      all_goals go_ret
      all_goals exact ⟨rfl, (Grown.refl wc).1, fun _ => rfl, Nat.le_refl _⟩

set_option maxRecDepth 100000 in
theorem lifted (os : Os) (started : os.Started) (H : Type) (enc : TypeId × Value → H) :
    ReturnsInHanded {} Try.checked os 6 .any (Rows.tsoStepsSpec.pre6 enc Try.prog Try.f6 Rows.tsoStepsRow.domain false) (Rows.tsoStepsSpec.post enc Try.prog Try.f6 false true false false) := by
  refine returnsInHanded_of_change (C := Try.checked) own started (by kernel_rfl) Try.func6
    (ChangeSpec.witness6 (enc := enc) (C := Try.checked) false ⟨#[], #[.int .i64 0, .int .i64 0, .int .u64 0], []⟩ 8 (by kernel_rfl) (by kernel_rfl) (by kernel_rfl) (by kernel_rfl)) ?_
  intro W base args ds gs before hval0 hW hcnd _
  have hval : ∀ (j : Nat) t v, Try.f6.params[j]? = some t → args[j]? = some v → Value.okWide Try.prog W .any base t v := hval0
  have hW' := hW
  obtain ⟨p, q, hA0, hV, rfl, hfz, hnd⟩ := hW
  have hA : DataW.TrodAll enc Try.prog W 0 (fun _ => true) true Try.f6.params.toList args.toList ds p := hA0
  rw [Try.params6] at hA hval
  obtain ⟨v0, vs0, d0, ds0, p0, q0, hargs, rfl, rfl, h0, r0⟩ := trodAll_cons hA
  obtain ⟨v1, vs1, d1, ds1, p1, q1, rfl, rfl, rfl, h1, r1⟩ := trodAll_cons r0
  obtain ⟨v2, vs2, d2, ds2, p2, q2, rfl, rfl, rfl, h2, r2⟩ := trodAll_cons r1
  obtain ⟨rfl, rfl, rfl⟩ := trodAll_nil r2
  obtain rfl : args = #[v0, v1, v2] := by cases args; simp_all
  obtain ⟨rfl, rfl⟩ := trodVars_none hV
  obtain ⟨a0, rfl, rfl, rfl, w0⟩ := open_int Try.underlying3 (hval 0 3 v0 rfl rfl) h0
  obtain ⟨a1, rfl, rfl, rfl, w1⟩ := open_int Try.underlying3 (hval 1 3 v1 rfl rfl) h1
  obtain ⟨a2, rfl, rfl, rfl, w2⟩ := open_int Try.underlying22 (hval 2 22 v2 rfl rfl) h2
  clear hA0 hval0
  simp only [List.append_nil] at hW'
  refine (walk a0 a1 a2 w0 w1 w2 W).mono fun e W' ⟨he, hg⟩ => ?_
  subst he
  exact ⟨_, rfl, post_of_same (pa := []) (pv := []) hW' (fun _ _ _ => (trodAll_cons_mk (shut_bool Try.underlying4 _) trodAll_mk0)) (fun sp _ => (trodAll_cons_mk (shut_int Try.underlying3 w0) (trodAll_cons_mk (shut_int Try.underlying3 w1) (trodAll_cons_mk (shut_int Try.underlying22 w2) trodAll_mk0)))) (fun _ _ => rfl) rfl
    (hg.frame _) hg.2.1 (ok_one (by kernel_rfl) rfl (okWide_bool_mk Try.underlying4 _))⟩

theorem over : Rows.tsoStepsRow.holds Try.pinned (OpenSpec.ofChange Rows.tsoStepsSpec) :=
  OpenClaim.holds_of_wide 6 Try.f6 rfl rfl rfl rfl rfl rfl rfl ⟨rfl, rfl, rfl, rfl, rfl⟩ rfl rfl rfl rfl rfl (by kernel_rfl) Try.func6 (by kernel_rfl)
    (of_decide_eq_true (by kernel_rfl)) (by unfold Func.isWrapper; first | (rw [if_pos (by decide +kernel)]; kernel_rfl) | (rw [if_neg (by decide +kernel)]; exact ⟨rfl, rfl⟩))
    (fun os started H enc _ => lifted os started H enc)

theorem proved : Rows.TsoStepsSaid :=
  over
end Go.Proofs.Ytbeicnabafapnaa.tsoSteps
namespace Go.Proofs.Ytbeicnabafapnaa
theorem tsoSteps_holds : Rows.TsoStepsSaid := tsoSteps.proved
#print axioms tsoSteps_holds
end Go.Proofs.Ytbeicnabafapnaa
