/-
  Proved: canterlaw22.TsoHeld answers true at every two numbers, and leaves its arguments as they were. Conditions: none.
-/
import Derived.Test.YtbeicnabafapnaaRows
import Derived.WalkKit
import Derived.ProofKit
import Derived.OpenShut
import Derived.ShutString
import Derived.Test.YtbeicnabafapnaaTso
import Derived.Test.YtbeicnabafapnaaSched
import Derived.Laws.BitsLemmas
namespace Go.Proofs.Ytbeicnabafapnaa.tsoHeld
open Go.ChangeShapes Go.WideShapes Go.ChangeAt Go.RowKit
open Go.ChangeMaps (open_string shut_string)
set_option linter.unusedVariables false

theorem own : ownKnob Try.prog.godebug = none := by kernel_rfl

theorem held_facts (r m : Int) :
    ∃ h x b : Int, Hid (h = if m < 100 then 100 else if 9000 < m then 9000 else m) ∧ Hid (sizeT r m = x) ∧ Hid (sizeT r h = x) ∧ Hid (sizeT 18446744073709551615 h = b * h) ∧ 100 ≤ h ∧ h ≤ 9000 ∧ 2 * h ≤ x ∧ x ≤ 65536 ∧ (65536 : Int).tdiv h = b ∧ IntKind.i64.wrap b = b ∧ IntKind.i64.wrap (b * h) = b * h ∧ IntKind.i64.wrap (2 * h) = 2 * h := by
  have h1 := held_low m
  have h2 := held_high m
  have h3 := most_low h1 h2
  have h4 := most_high h1
  have h5 := most_mul h1
  unfold mostT at h3 h4 h5
  have h6 := Int.mul_nonneg (show 0 ≤ 65536 / heldT m by omega) (show 0 ≤ heldT m by omega)
  refine ⟨heldT m, _, 65536 / heldT m, Lib.hid rfl, Lib.hid rfl, Lib.hid (size_held r m), Lib.hid ?_, h1, h2, size_low r m, size_high r m, Int.tdiv_eq_ediv_of_nonneg (by decide), ?_, ?_, ?_⟩
  · rw [size_all, held_held]
  all_goals rw [IntKind.wrap_i64]
  all_goals omega

set_option maxHeartbeats 1000000 in
theorem walk (a0 : Int) (a1 : Int) (w0 : (Lit.int .u64 a0).wf = true) (w1 : (Lit.int .i64 a1).wf = true) (w : World) :
    Calls Try.prog 5 #[.int .u64 a0, .int .i64 a1] w fun e w' => e = .returned (.bool true) ∧ Grown w w' := by
  obtain ⟨r0, r1⟩ := bounds_u64 w0
  clear w0 w1
  obtain ⟨h, x, b, HH, HX, HX2, HA, h0, h1, x0, x1, hq, hb, hw, hw2⟩ := held_facts a0 a1
  have hz : (h == 0) = false := by rw [beq_eq_false_iff_ne]; omega
  have hz2 : h ≠ 0 := by omega
  go_enter Try.func5, Try.ntmps5
  go_upto_region 1 with fail
  go_cut [5] (fun s wx => s = .int .i64 h ∧ wx = w)
  case first =>
    clear x0 x1 hq hw hw2 hz hz2 hb
    by_cases g1 : a1 ≤ 100
    · have HV : Hid (h = 100) := Lib.hid (by rw [HH.out]; split <;> omega)
      have g2 : ¬ 9000 < a1 := by omega
      have g3 : ¬ 100 < a1 := by omega
      clear h0 h1
      go_wp2
      go_meet
      case rel => exact ⟨by rw [HV.out], rfl⟩
    · by_cases g2 : 9000 < a1
      · have HV : Hid (h = 9000) := Lib.hid (by rw [HH.out, if_neg (by omega), if_pos g2])
        clear h0 h1
        go_wp2
        go_meet
        case rel => exact ⟨by rw [HV.out], rfl⟩
      · have HV : Hid (h = a1) := Lib.hid (by rw [HH.out, if_neg (by omega), if_neg g2])
        have g3 : 100 < a1 := by omega
        clear h0 h1
        go_wp2
        go_meet
        case rel => exact ⟨by rw [HV.out], rfl⟩
  case rest =>
    obtain ⟨rfl, rfl⟩ := hcut
    go_wp2_with fail
    refine (size_is HX.out r0 r1 _).mono ?_
    rintro e w' ⟨rfl, rfl⟩
    go_upto_region 3 with fail
    refine wp_region_sch (fun _ => True) [(false, 0), (true, 1), (true, 2), (true, 3), (true, 4), (false, 5), (true, 6), (true, 7), (true, 8), (true, 9), (true, 10), (true, 11), (true, 12), (true, 13), (true, 14), (true, 15), (true, 16), (true, 17), (true, 18), (true, 19), (true, 21), (true, 22), (true, 23), (true, 24), (false, 20), (true, 25), (true, 26), (true, 27)] (by kernel_rfl) (by kernel_rfl) (by kernel_rfl) (by kernel_rfl) trivial ?_
    refine wpSch_call rfl (by rfl) (fun K hK => ?_); go_simp
    refine (awaket_any _).mono ?_
    rintro e w' ⟨rfl, rfl⟩
    refine hK.out _ _ ?_ (fun hHeld => ?_)
    · trivial
    clear hK K
    (try simp only [Act.put, List.setIfInBounds_toArray, List.set_cons_zero, List.set_cons_succ])
    (repeat (first
      | (refine wpSch_yes (v := ?_) rfl (fun _ _ _ h => h) (by rfl) ?_ ?_; rotate_left; (next => (intro w hSw; go_simp; (try with_reducible rfl)));   (try simp only [Act.put, List.setIfInBounds_toArray, List.set_cons_zero, List.set_cons_succ]))
      | (refine wpSch_no rfl (fun _ _ _ h => h) (by rfl) ?_;   (try simp only [Act.put, List.setIfInBounds_toArray, List.set_cons_zero, List.set_cons_succ]))))
    refine wpSch_call rfl (by rfl) (fun K hK => ?_); go_simp
    refine (size_is HX2.out r0 r1 _).mono ?_
    rintro e w' ⟨rfl, rfl⟩
    refine hK.out _ _ ?_ (fun hHeld => ?_)
    · trivial
    clear hK K
    (try simp only [Act.put, List.setIfInBounds_toArray, List.set_cons_zero, List.set_cons_succ])
    (repeat (first
      | (refine wpSch_yes (v := ?_) rfl (fun _ _ _ h => h) (by rfl) ?_ ?_; rotate_left; (next => (intro w hSw; go_simp; (try with_reducible rfl)));   (try simp only [Act.put, List.setIfInBounds_toArray, List.set_cons_zero, List.set_cons_succ]))
      | (refine wpSch_no rfl (fun _ _ _ h => h) (by rfl) ?_;   (try simp only [Act.put, List.setIfInBounds_toArray, List.set_cons_zero, List.set_cons_succ]))))
    refine wpSch_call rfl (by rfl) (fun K hK => ?_); go_simp
    refine (size_is HA.out (by decide) (by decide) _).mono ?_
    rintro e w' ⟨rfl, rfl⟩
    refine hK.out _ _ ?_ (fun hHeld => ?_)
    · trivial
    clear hK K
    (try simp only [Act.put, List.setIfInBounds_toArray, List.set_cons_zero, List.set_cons_succ])
    (repeat (first
      | (refine wpSch_yes (v := ?_) rfl (fun _ _ _ h => h) (by rfl) ?_ ?_; rotate_left; (next => (intro w hSw; go_simp; (try with_reducible rfl)));   (try simp only [Act.put, List.setIfInBounds_toArray, List.set_cons_zero, List.set_cons_succ]))
      | (refine wpSch_no rfl (fun _ _ _ h => h) (by rfl) ?_;   (try simp only [Act.put, List.setIfInBounds_toArray, List.set_cons_zero, List.set_cons_succ]))))
    refine wpSch_nil ?_
    go_wp2
    go_ret
    exact ⟨rfl, (Grown.refl wc).1, fun _ => rfl, Nat.le_refl _⟩

set_option maxRecDepth 100000 in
theorem lifted (os : Os) (started : os.Started) (H : Type) (enc : TypeId × Value → H) :
    ReturnsInHanded {} Try.checked os 5 .any (Rows.tsoHeldSpec.pre6 enc Try.prog Try.f5 Rows.tsoHeldRow.domain false) (Rows.tsoHeldSpec.post enc Try.prog Try.f5 false true false false) := by
  refine returnsInHanded_of_change (C := Try.checked) own started (by kernel_rfl) Try.func5
    (ChangeSpec.witness6 (enc := enc) (C := Try.checked) false ⟨#[], #[.int .u64 0, .int .i64 0], []⟩ 8 (by kernel_rfl) (by kernel_rfl) (by kernel_rfl) (by kernel_rfl)) ?_
  intro W base args ds gs before hval0 hW hcnd _
  have hval : ∀ (j : Nat) t v, Try.f5.params[j]? = some t → args[j]? = some v → Value.okWide Try.prog W .any base t v := hval0
  have hW' := hW
  obtain ⟨p, q, hA0, hV, rfl, hfz, hnd⟩ := hW
  have hA : DataW.TrodAll enc Try.prog W 0 (fun _ => true) true Try.f5.params.toList args.toList ds p := hA0
  rw [Try.params5] at hA hval
  obtain ⟨v0, vs0, d0, ds0, p0, q0, hargs, rfl, rfl, h0, r0⟩ := trodAll_cons hA
  obtain ⟨v1, vs1, d1, ds1, p1, q1, rfl, rfl, rfl, h1, r1⟩ := trodAll_cons r0
  obtain ⟨rfl, rfl, rfl⟩ := trodAll_nil r1
  obtain rfl : args = #[v0, v1] := by cases args; simp_all
  obtain ⟨rfl, rfl⟩ := trodVars_none hV
  obtain ⟨a0, rfl, rfl, rfl, w0⟩ := open_int Try.underlying22 (hval 0 22 v0 rfl rfl) h0
  obtain ⟨a1, rfl, rfl, rfl, w1⟩ := open_int Try.underlying3 (hval 1 3 v1 rfl rfl) h1
  clear hA0 hval0
  simp only [List.append_nil] at hW'
  refine (walk a0 a1 w0 w1 W).mono fun e W' ⟨he, hg⟩ => ?_
  subst he
  exact ⟨_, rfl, post_of_same (pa := []) (pv := []) hW' (fun _ _ _ => (trodAll_cons_mk (shut_bool Try.underlying4 _) trodAll_mk0)) (fun sp _ => (trodAll_cons_mk (shut_int Try.underlying22 w0) (trodAll_cons_mk (shut_int Try.underlying3 w1) trodAll_mk0))) (fun _ _ => rfl) rfl
    (hg.frame _) hg.2.1 (ok_one (by kernel_rfl) rfl (okWide_bool_mk Try.underlying4 _))⟩

theorem over : Rows.tsoHeldRow.holds Try.pinned (OpenSpec.ofChange Rows.tsoHeldSpec) :=
  OpenClaim.holds_of_wide 5 Try.f5 rfl rfl rfl rfl rfl rfl rfl ⟨rfl, rfl, rfl, rfl, rfl⟩ rfl rfl rfl rfl rfl (by kernel_rfl) Try.func5 (by kernel_rfl)
    (of_decide_eq_true (by kernel_rfl)) (by unfold Func.isWrapper; first | (rw [if_pos (by decide +kernel)]; kernel_rfl) | (rw [if_neg (by decide +kernel)]; exact ⟨rfl, rfl⟩))
    (fun os started H enc _ => lifted os started H enc)

theorem proved : Rows.TsoHeldSaid :=
  over
end Go.Proofs.Ytbeicnabafapnaa.tsoHeld
namespace Go.Proofs.Ytbeicnabafapnaa
theorem tsoHeld_holds : Rows.TsoHeldSaid := tsoHeld.proved
#print axioms tsoHeld_holds
end Go.Proofs.Ytbeicnabafapnaa
