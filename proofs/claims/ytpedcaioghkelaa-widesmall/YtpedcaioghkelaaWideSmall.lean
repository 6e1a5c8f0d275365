/-
  Proved: canterlaw02.WideSmall answers true at all numbers, and leaves its arguments as they were. Conditions: none.
-/
import Derived.Test.YtpedcaioghkelaaRows
import Derived.WalkKit
import Derived.ProofKit
import Derived.OpenShut
import Derived.ShutString
import Derived.Test.YtpedcaioghkelaaAwakeW
import Derived.Deep.QuietTactic
import Derived.BigQuiet
namespace Go.Proofs.Ytpedcaioghkelaa.wideSmall
open Go.ChangeShapes Go.WideShapes Go.ChangeAt Go.RowKit
open Go.ChangeMaps (open_string shut_string)
set_option linter.unusedVariables false

theorem own : ownKnob Try.prog.godebug = none := by kernel_rfl

theorem quiet_eq {P : Program} {f : FuncId} {args : Array Value} {w : World} {n : Nat} {v : Value}
    (h : Calls P f args (w.drewN n) fun e w' => e = .returned v ∧ w.drewN n = w') : Calls P f args (w.drewN n) fun e w'' => e = .returned v ∧ ∃ m, w'' = w.drewN m :=
  h.mono fun _ _ ⟨he, hm⟩ => ⟨he, n, hm.symm⟩
theorem prod_lt {A B : Int} (a0 : 0 ≤ A) (a1 : A ≤ 4294967295) (b0 : 0 ≤ B) (b1 : B ≤ 4294967295) : 0 ≤ A * B ∧ A * B ≤ 18446744065119617025 :=
  ⟨Int.mul_nonneg a0 b0, Int.mul_le_mul a1 b1 b0 (by omega)⟩

set_option maxHeartbeats 1000000 in
theorem walk (a0 : Int) (a1 : Int) (a2 : Int) (w0 : (Lit.int .u64 a0).wf = true) (w1 : (Lit.int .u64 a1).wf = true) (w2 : (Lit.int .u64 a2).wf = true) (w : World) :
    Calls Try.prog 6 #[.int .u64 a0, .int .u64 a1, .int .u64 a2] w fun e w' => e = .returned (.bool true) ∧ Grown w w' := by
  obtain ⟨a0l, a0h⟩ := bounds_u64 w0
  obtain ⟨a1l, a1h⟩ := bounds_u64 w1
  obtain ⟨a2l, a2h⟩ := bounds_u64 w2
  clear w0 w1 w2
  go_enter Try.func6, Try.ntmps6
  go_wp2_with fail
  have A0 : 0 ≤ a0 % 4294967296 := by omega
  have A1 : a0 % 4294967296 ≤ 4294967295 := by omega
  have B0 : 0 ≤ a1 % 4294967296 := by omega
  have B1 : a1 % 4294967296 ≤ 4294967295 := by omega
  have C0 : 1 ≤ 1 + a2 % 4294967296 := by omega
  have C1 : 1 + a2 % 4294967296 ≤ 4294967296 := by omega
  generalize a0 % 4294967296 = A at *
  generalize a1 % 4294967296 = B at *
  generalize 1 + a2 % 4294967296 = C at *
  clear a0l a0h a1l a1h a2l a2h
  obtain ⟨p0, p1⟩ := prod_lt A0 A1 B0 B1
  refine (wmul_any A B (by omega) (by omega) (by omega) (by omega) _).mono ?_
  rintro e w' ⟨rfl, rfl⟩
  go_wp2_with fail
  refine (wdiv_any 0 A C (by omega) (by omega) (by omega) (by omega) (by omega) (by omega) _).mono ?_
  rintro e w' ⟨rfl, rfl⟩
  have q1 : (A * B / 18446744073709551616 == 0) = true := by rw [beq_iff_eq]; omega
  have q2 : (A * B % 18446744073709551616 == A * B) = true := by rw [beq_iff_eq]; omega
  have q3 : (divE 0 A C == 0) = true := by rw [beq_iff_eq]; unfold divE; rw [if_neg (by omega), if_neg (by omega)]
  have q4 : (divV 0 A C == A / C) = true := by rw [beq_iff_eq]; unfold divV; rw [if_neg (by omega), if_neg (by omega), Int.zero_mul, Int.zero_add]
  have q5 : (mulDivV A B C == A * B / C) = true := by
    rw [beq_iff_eq]
    have h1 : A * B / C ≤ A * B := Int.ediv_le_self _ p0
    unfold mulDivV
    by_cases h0 : A * B = 0
    · rw [if_pos h0, h0]; simp
    · rw [if_neg h0, if_neg (by omega), if_neg (by omega)]
  have q6 : (mulDivV A 0 0 == 0) = true := by rw [beq_iff_eq]; unfold mulDivV; rw [Int.mul_zero]; rfl
  have q7 : (mulDivV (1 + A) (1 + B) 0 == 18446744073709551615) = true := by
    rw [beq_iff_eq]; unfold mulDivV
    have : 0 < (1 + A) * (1 + B) := Int.mul_pos (by omega) (by omega)
    rw [if_neg (by omega)]; rfl
  have e1 : IntKind.u64.wrap (A * B) = A * B := by rw [IntKind.wrap_u64]; omega
  have e2 : IntKind.u64.wrap (1 + A) = 1 + A := by rw [IntKind.wrap_u64]; omega
  have e3 : IntKind.u64.wrap (1 + B) = 1 + B := by rw [IntKind.wrap_u64]; omega
  have e4 : A.tdiv C = A / C := Int.tdiv_eq_ediv_of_nonneg A0
  have e5 : (A * B).tdiv C = A * B / C := Int.tdiv_eq_ediv_of_nonneg p0
  have g1 : 0 ≤ A / C := Int.ediv_nonneg A0 (by omega)
  have g2 : A / C ≤ A := Int.ediv_le_self _ A0
  have g3 : 0 ≤ A * B / C := Int.ediv_nonneg p0 (by omega)
  have g4 : A * B / C ≤ A * B := Int.ediv_le_self _ p0
  have e8 : IntKind.u64.wrap (A / C) = A / C := by rw [IntKind.wrap_u64]; omega
  have e9 : IntKind.u64.wrap (A * B / C) = A * B / C := by rw [IntKind.wrap_u64]; omega
  clear g1 g2 g3 g4
  have e6 : (C == 0) = false := by rw [beq_eq_false_iff_ne]; omega
  have e7 : C ≠ 0 := by omega
  have r1 := fun (W : World) (n : Nat) => quiet_eq (w := W) (n := n) (awakew_any (W.drewN n))
  have r2 := fun (W : World) (n : Nat) => quiet_eq (w := W) (n := n) (wmuldiv_any A B C (by omega) (by omega) (by omega) (by omega) (by omega) (by omega) (W.drewN n))
  have r3 := fun (W : World) (n : Nat) => quiet_eq (w := W) (n := n) (wmuldiv_any A 0 0 (by omega) (by omega) (by omega) (by omega) (by omega) (by omega) (W.drewN n))
  have r4 := fun (W : World) (n : Nat) => quiet_eq (w := W) (n := n) (wmuldiv_any (1 + A) (1 + B) 0 (by omega) (by omega) (by omega) (by omega) (by omega) (by omega) (W.drewN n))
  have R1 := Lib.hid r1; have R2 := Lib.hid r2; have R3 := Lib.hid r3; have R4 := Lib.hid r4
  clear r1 r2 r3 r4
  go_wp2_with fail
  go_quiet (first
    | (go_at_call 13; exact R1.out _ _)
    | (go_at_call 14; with_reducible exact R2.out _ _)
    | (go_at_call 14; with_reducible exact R3.out _ _)
    | (go_at_call 14; with_reducible exact R4.out _ _))
  go_wp2
  go_ret
  exact ⟨rfl, (Grown.refl w).1, fun _ => rfl, Nat.le_refl _⟩

set_option maxRecDepth 100000 in
theorem lifted (os : Os) (started : os.Started) (H : Type) (enc : TypeId × Value → H) :
    ReturnsInHanded {} Try.checked os 6 .any (Rows.wideSmallSpec.pre6 enc Try.prog Try.f6 Rows.wideSmallRow.domain false) (Rows.wideSmallSpec.post enc Try.prog Try.f6 false true false false) := by
  refine returnsInHanded_of_change (C := Try.checked) own started (by kernel_rfl) Try.func6
    (ChangeSpec.witness6 (enc := enc) (C := Try.checked) false ⟨#[], #[.int .u64 0, .int .u64 0, .int .u64 0], []⟩ 8 (by kernel_rfl) (by kernel_rfl) (by kernel_rfl) (by kernel_rfl)) ?_
  intro W base args ds gs before hval0 hW hcnd _
  have hval : ∀ (j : Nat) t v, Try.f6.params[j]? = some t → args[j]? = some v → Value.okWide Try.prog W .any base t v := hval0
  have hW' := hW
  obtain ⟨p, q, hA0, hV, rfl, hfz, hnd⟩ := hW
  have hA : DataW.TrodAll enc Try.prog W 0 (fun _ => true) true Try.f6.params.toList args.toList ds p := hA0
  rw [Try.params6] at hA hval
  obtain ⟨v0, vs0, d0, ds0, p0, q0, hargs, rfl, rfl, h0, r0⟩ := trodAll_cons hA
  obtain ⟨v1, vs1, d1, ds1, p1, q1, rfl, rfl, rfl, h1, r1⟩ := trodAll_cons r0
  obtain ⟨v2, vs2, d2, ds2, p2, q2, rfl, rfl, rfl, h2, r2⟩ := trodAll_cons r1
  obtain ⟨rfl, rfl, rfl⟩ := trodAll_nil r2
  obtain rfl : args = #[v0, v1, v2] := by cases args; simp_all
  obtain ⟨rfl, rfl⟩ := trodVars_none hV
  obtain ⟨a0, rfl, rfl, rfl, w0⟩ := open_int Try.underlying22 (hval 0 22 v0 rfl rfl) h0
  obtain ⟨a1, rfl, rfl, rfl, w1⟩ := open_int Try.underlying22 (hval 1 22 v1 rfl rfl) h1
  obtain ⟨a2, rfl, rfl, rfl, w2⟩ := open_int Try.underlying22 (hval 2 22 v2 rfl rfl) h2
  clear hA0 hval0
  simp only [List.append_nil] at hW'
  refine (walk a0 a1 a2 w0 w1 w2 W).mono fun e W' ⟨he, hg⟩ => ?_
  subst he
  exact ⟨_, rfl, post_of_same (pa := []) (pv := []) hW' (fun _ _ _ => (trodAll_cons_mk (shut_bool Try.underlying4 _) trodAll_mk0)) (fun sp _ => (trodAll_cons_mk (shut_int Try.underlying22 w0) (trodAll_cons_mk (shut_int Try.underlying22 w1) (trodAll_cons_mk (shut_int Try.underlying22 w2) trodAll_mk0)))) (fun _ _ => rfl) rfl
    (hg.frame _) hg.2.1 (ok_one (by kernel_rfl) rfl (okWide_bool_mk Try.underlying4 _))⟩

theorem over : Rows.wideSmallRow.holds Try.pinned (OpenSpec.ofChange Rows.wideSmallSpec) :=
  OpenClaim.holds_of_wide 6 Try.f6 rfl rfl rfl rfl rfl rfl rfl ⟨rfl, rfl, rfl, rfl, rfl⟩ rfl rfl rfl rfl rfl (by kernel_rfl) Try.func6 (by kernel_rfl)
    (of_decide_eq_true (by kernel_rfl)) (by unfold Func.isWrapper; first | (rw [if_pos (by decide +kernel)]; kernel_rfl) | (rw [if_neg (by decide +kernel)]; exact ⟨rfl, rfl⟩))
    (fun os started H enc _ => lifted os started H enc)

theorem proved : Rows.WideSmallSaid :=
  over
end Go.Proofs.Ytpedcaioghkelaa.wideSmall
namespace Go.Proofs.Ytpedcaioghkelaa
theorem wideSmall_holds : Rows.WideSmallSaid := wideSmall.proved
#print axioms wideSmall_holds
end Go.Proofs.Ytpedcaioghkelaa
