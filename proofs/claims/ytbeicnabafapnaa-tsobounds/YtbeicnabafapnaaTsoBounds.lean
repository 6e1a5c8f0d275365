/-
  Proved: canterlaw22.TsoBounds answers true at every three numbers, and leaves its arguments as they were. Conditions: none.
-/
import Derived.Test.YtbeicnabafapnaaRows
import Derived.WalkKit
import Derived.ProofKit
import Derived.OpenShut
import Derived.ShutString
import Derived.Test.YtbeicnabafapnaaTso
import Derived.Test.YtbeicnabafapnaaRefA
namespace Go.Proofs.Ytbeicnabafapnaa.tsoBounds
open Go.ChangeShapes Go.WideShapes Go.ChangeAt Go.RowKit
open Go.ChangeMaps (open_string shut_string)
set_option linter.unusedVariables false

theorem own : ownKnob Try.prog.godebug = none := by kernel_rfl

/-- The law's own mss: from 100 to 9000. -/
theorem mss_num (a : Int) : ∃ m : Int, wrap64 (100 + wrap64 ((IntKind.u64.wrap a).tmod 8901)) = m ∧ 100 ≤ m ∧ m ≤ 9000 := by
  have h0 : 0 ≤ IntKind.u64.wrap a := by rw [IntKind.wrap_u64]; omega
  refine ⟨_, rfl, ?_, ?_⟩
  all_goals rw [Int.tmod_eq_emod_of_nonneg h0]
  all_goals generalize IntKind.u64.wrap a = x at *
  all_goals unfold wrap64
  all_goals omega
theorem add_up {a b : Int} (ha : a ≤ 18446744073709551615) (hb : 0 ≤ b) : a ≤ satAdd a b ∧ satAdd a b ≤ 18446744073709551615 := by unfold satAdd; split <;> omega
theorem bound_facts (r p m : Int) (r0 : 0 ≤ r) (r1 : r ≤ 18446744073709551615) (p0 : 0 ≤ p) (m0 : 100 ≤ m) (m1 : m ≤ 9000) :
    ∃ x F y : Int, Hid (sizeT r m = x) ∧ Hid (satAdd r p = F) ∧ Hid (sizeT F m = y) ∧ 0 ≤ F ∧ F ≤ 18446744073709551615 ∧ x.tmod m = 0 ∧ 2 * m ≤ x ∧ x ≤ 65536 ∧ x ≤ y ∧ (x = 2 * m ∨ x ≤ r / 1024) ∧ (65536 - m < x ∨ r / 1024 < x + m) := by
  have hf := add_up r1 p0
  have e := held_in m0 m1
  have h1 := size_mod r m
  have h2 := size_low r m
  have h3 := size_worth r m
  have h4 := size_near r m
  rw [e] at h1 h2 h3 h4
  refine ⟨_, _, _, Lib.hid rfl, Lib.hid rfl, Lib.hid rfl, by omega, hf.2, ?_, h2, size_high r m, size_mono m hf.1, h3, h4⟩
  rw [Int.tmod_eq_emod_of_nonneg (by omega)]
  exact h1

set_option maxHeartbeats 1000000 in
theorem walk (a0 : Int) (a1 : Int) (a2 : Int) (w0 : (Lit.int .u64 a0).wf = true) (w1 : (Lit.int .u64 a1).wf = true) (w2 : (Lit.int .i64 a2).wf = true) (w : World) :
    Calls Try.prog 4 #[.int .u64 a0, .int .u64 a1, .int .i64 a2] w fun e w' => e = .returned (.bool true) ∧ Grown w w' := by
  obtain ⟨r0, r1⟩ := bounds_u64 w0
  obtain ⟨p0, p1⟩ := bounds_u64 w1
  clear w0 w1 w2
  obtain ⟨m, hm, m0, m1⟩ := mss_num a2
  obtain ⟨x, F, y, HX, HF, HY, F0, F1, hx, x0, x1, y0, x2, x3⟩ := bound_facts a0 a1 m r0 r1 p0 m0 m1
  go_enter Try.func4, Try.ntmps4
  go_wp2_with fail
  try rw [hm]
  clear hm
  refine (size_is HX.out r0 r1 _).mono ?_
  rintro e w' ⟨rfl, rfl⟩
  have hw : IntKind.u64.wrap x = x := by rw [IntKind.wrap_u64]; omega
  have hw2 : IntKind.u64.wrap (x + m) = x + m := by rw [IntKind.wrap_u64]; omega
  have hz : (m == 0) = false := by rw [beq_eq_false_iff_ne]; omega
  have hz2 : m ≠ 0 := by omega
  rcases Int.lt_or_eq_of_le x0 with g | g
  · have g2 : x ≤ a0 / 1024 := by omega
    clear x2
    have g3 : (x == 2 * m) = false := by rw [beq_eq_false_iff_ne]; omega
    rcases Int.lt_or_le (65536 - m) x with h | h
    · clear x3
      go_wp2_with fail
      refine (awaket_any _).mono ?_
      rintro e w' ⟨rfl, rfl⟩
      go_wp2_with fail
      refine (radd_any _ _ r0 r1 p0 p1 _).mono ?_
      rintro e w' ⟨rfl, rfl⟩
      rw [HF.out]
      go_wp2_with fail
      refine (size_is HY.out F0 F1 _).mono ?_
      rintro e w' ⟨rfl, rfl⟩
      go_wp2
      go_ret
      exact ⟨rfl, Grown.refl _⟩
    · have h2 : a0 / 1024 < x + m := by omega
      clear x3
      go_wp2_with fail
      refine (awaket_any _).mono ?_
      rintro e w' ⟨rfl, rfl⟩
      go_wp2_with fail
      refine (radd_any _ _ r0 r1 p0 p1 _).mono ?_
      rintro e w' ⟨rfl, rfl⟩
      rw [HF.out]
      go_wp2_with fail
      refine (size_is HY.out F0 F1 _).mono ?_
      rintro e w' ⟨rfl, rfl⟩
      go_wp2
      go_ret
      exact ⟨rfl, Grown.refl _⟩
  · have g3 : (x == 2 * m) = true := by rw [beq_iff_eq]; omega
    clear x2 g
    rcases Int.lt_or_le (65536 - m) x with h | h
    · clear x3
      go_wp2_with fail
      refine (awaket_any _).mono ?_
      rintro e w' ⟨rfl, rfl⟩
      go_wp2_with fail
      refine (radd_any _ _ r0 r1 p0 p1 _).mono ?_
      rintro e w' ⟨rfl, rfl⟩
      rw [HF.out]
      go_wp2_with fail
      refine (size_is HY.out F0 F1 _).mono ?_
      rintro e w' ⟨rfl, rfl⟩
      go_wp2
      go_ret
      exact ⟨rfl, Grown.refl _⟩
    · have h2 : a0 / 1024 < x + m := by omega
      clear x3
      go_wp2_with fail
      refine (awaket_any _).mono ?_
      rintro e w' ⟨rfl, rfl⟩
      go_wp2_with fail
      refine (radd_any _ _ r0 r1 p0 p1 _).mono ?_
      rintro e w' ⟨rfl, rfl⟩
      rw [HF.out]
      go_wp2_with fail
      refine (size_is HY.out F0 F1 _).mono ?_
      rintro e w' ⟨rfl, rfl⟩
      go_wp2
      go_ret
      exact ⟨rfl, Grown.refl _⟩

set_option maxRecDepth 100000 in
theorem lifted (os : Os) (started : os.Started) (H : Type) (enc : TypeId × Value → H) :
    ReturnsInHanded {} Try.checked os 4 .any (Rows.tsoBoundsSpec.pre6 enc Try.prog Try.f4 Rows.tsoBoundsRow.domain false) (Rows.tsoBoundsSpec.post enc Try.prog Try.f4 false true false false) := by
  refine returnsInHanded_of_change (C := Try.checked) own started (by kernel_rfl) Try.func4
    (ChangeSpec.witness6 (enc := enc) (C := Try.checked) false ⟨#[], #[.int .u64 0, .int .u64 0, .int .i64 0], []⟩ 8 (by kernel_rfl) (by kernel_rfl) (by kernel_rfl) (by kernel_rfl)) ?_
  intro W base args ds gs before hval0 hW hcnd _
  have hval : ∀ (j : Nat) t v, Try.f4.params[j]? = some t → args[j]? = some v → Value.okWide Try.prog W .any base t v := hval0
  have hW' := hW
  obtain ⟨p, q, hA0, hV, rfl, hfz, hnd⟩ := hW
  have hA : DataW.TrodAll enc Try.prog W 0 (fun _ => true) true Try.f4.params.toList args.toList ds p := hA0
  rw [Try.params4] at hA hval
  obtain ⟨v0, vs0, d0, ds0, p0, q0, hargs, rfl, rfl, h0, r0⟩ := trodAll_cons hA
  obtain ⟨v1, vs1, d1, ds1, p1, q1, rfl, rfl, rfl, h1, r1⟩ := trodAll_cons r0
  obtain ⟨v2, vs2, d2, ds2, p2, q2, rfl, rfl, rfl, h2, r2⟩ := trodAll_cons r1
  obtain ⟨rfl, rfl, rfl⟩ := trodAll_nil r2
  obtain rfl : args = #[v0, v1, v2] := by cases args; simp_all
  obtain ⟨rfl, rfl⟩ := trodVars_none hV
  obtain ⟨a0, rfl, rfl, rfl, w0⟩ := open_int Try.underlying22 (hval 0 22 v0 rfl rfl) h0
  obtain ⟨a1, rfl, rfl, rfl, w1⟩ := open_int Try.underlying22 (hval 1 22 v1 rfl rfl) h1
  obtain ⟨a2, rfl, rfl, rfl, w2⟩ := open_int Try.underlying3 (hval 2 3 v2 rfl rfl) h2
  clear hA0 hval0
  simp only [List.append_nil] at hW'
  refine (walk a0 a1 a2 w0 w1 w2 W).mono fun e W' ⟨he, hg⟩ => ?_
  subst he
  exact ⟨_, rfl, post_of_same (pa := []) (pv := []) hW' (fun _ _ _ => (trodAll_cons_mk (shut_bool Try.underlying4 _) trodAll_mk0)) (fun sp _ => (trodAll_cons_mk (shut_int Try.underlying22 w0) (trodAll_cons_mk (shut_int Try.underlying22 w1) (trodAll_cons_mk (shut_int Try.underlying3 w2) trodAll_mk0)))) (fun _ _ => rfl) rfl
    (hg.frame _) hg.2.1 (ok_one (by kernel_rfl) rfl (okWide_bool_mk Try.underlying4 _))⟩

theorem over : Rows.tsoBoundsRow.holds Try.pinned (OpenSpec.ofChange Rows.tsoBoundsSpec) :=
  OpenClaim.holds_of_wide 4 Try.f4 rfl rfl rfl rfl rfl rfl rfl ⟨rfl, rfl, rfl, rfl, rfl⟩ rfl rfl rfl rfl rfl (by kernel_rfl) Try.func4 (by kernel_rfl)
    (of_decide_eq_true (by kernel_rfl)) (by unfold Func.isWrapper; first | (rw [if_pos (by decide +kernel)]; kernel_rfl) | (rw [if_neg (by decide +kernel)]; exact ⟨rfl, rfl⟩))
    (fun os started H enc _ => lifted os started H enc)

theorem proved : Rows.TsoBoundsSaid :=
  over
end Go.Proofs.Ytbeicnabafapnaa.tsoBounds
namespace Go.Proofs.Ytbeicnabafapnaa
theorem tsoBounds_holds : Rows.TsoBoundsSaid := tsoBounds.proved
#print axioms tsoBounds_holds
end Go.Proofs.Ytbeicnabafapnaa
