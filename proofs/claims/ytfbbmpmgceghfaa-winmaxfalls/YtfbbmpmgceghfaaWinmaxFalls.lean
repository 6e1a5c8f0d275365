/-
  Proved: canterlaw08.WinmaxFalls answers true at every three numbers, and leaves its arguments as they were. Conditions: none.
-/
import Derived.Test.YtfbbmpmgceghfaaRows
import Derived.WalkKit
import Derived.ProofKit
import Derived.OpenShut
import Derived.ShutString
import Derived.Test.YtfbbmpmgceghfaaAwakeX
namespace Go.Proofs.Ytfbbmpmgceghfaa.winmaxFalls
open Go.ChangeShapes Go.WideShapes Go.ChangeAt Go.RowKit
open Go.ChangeMaps (open_string shut_string)
set_option linter.unusedVariables false

theorem own : ownKnob Try.prog.godebug = none := by kernel_rfl

theorem fall_first {W Hh : Int} (hW : 0 ≤ W) (hH : 0 ≤ Hh) : updT false W (newT 0) 0 Hh = allT 0 0 Hh ∧ (allT 0 0 Hh).v0 = Hh := ⟨updT_beats (least := false) (x := newT 0) (t := 0) hH hW, rfl⟩
theorem fall_stays {W Hh v t : Int} {x : Tri} (h0 : x.t0 = 0) (hv0 : x.v0 = Hh) (hl : x.l ≤ W) (hf : x.Fit) (ht : t ≤ W) (hv : v < Hh) :
    (updT false W x t v).t0 = 0 ∧ (updT false W x t v).v0 = Hh ∧ (updT false W x t v).l ≤ W := by
  have hT : topT t x.l ≤ W := by unfold topT; split <;> omega
  have := updT_stays (least := false) (win := W) (t := t) (v := v) (x := x) (fun h => by have h : x.v0 ≤ v := h; omega) (by omega) (by have := hf.a2; omega)
  exact ⟨this.1.trans h0, this.2.trans hv0, by rw [updT_l]; exact hT⟩
theorem fall_gone {W v : Int} {x : Tri} (hl : x.l ≤ W) (hf : x.Fit) (hW : 0 ≤ W) : updT false W x (3 * W + 3) v = allT (3 * W + 3) (3 * W + 3) v ∧ (allT (3 * W + 3) (3 * W + 3) v).v0 = v := by
  have hT : topT (3 * W + 3) x.l = 3 * W + 3 := if_pos (by omega)
  have h2 := hf.a2
  have := updT_old (least := false) (win := W) (t := 3 * W + 3) (v := v) (x := x) (by rw [hT]; omega) hW
  rw [hT] at this
  exact ⟨this, rfl⟩
theorem fall_back {W Hh : Int} (hW : 0 ≤ W) : updT false W (allT (3 * W + 3) (3 * W + 3) (Hh - 1)) (3 * W + 4) Hh = allT (3 * W + 4) (3 * W + 4) Hh ∧ (allT (3 * W + 4) (3 * W + 4) Hh).v0 = Hh := by
  have hT : topT (3 * W + 4) (allT (3 * W + 3) (3 * W + 3) (Hh - 1)).l = 3 * W + 4 := if_pos (show 3 * W + 3 ≤ 3 * W + 4 by omega)
  have := updT_beats (least := false) (win := W) (t := 3 * W + 4) (v := Hh) (x := allT (3 * W + 3) (3 * W + 3) (Hh - 1)) (show Hh - 1 ≤ Hh by omega) hW
  rw [hT] at this
  exact ⟨this, rfl⟩

set_option maxHeartbeats 2000000 in
set_option maxRecDepth 100000 in
theorem walk (a0 : Int) (a1 : Int) (a2 : Int) (w0 : (Lit.int .u64 a0).wf = true) (w1 : (Lit.int .u64 a1).wf = true) (w2 : (Lit.int .i64 a2).wf = true) (w : World) :
    Calls Try.prog 5 #[.int .u64 a0, .int .u64 a1, .int .i64 a2] w fun e w' => e = .returned (.bool true) ∧ Below w.heap.size w w' := by
  have b0 := bounds_u64 w0
  have b1 := bounds_u64 w1
  clear w0 w1 w2
  obtain ⟨u, hu⟩ : ∃ u : Nat, IntKind.u64.wrap a2 = (u : Int) := ⟨(IntKind.u64.wrap a2).toNat, by rw [IntKind.wrap_u64]; omega⟩
  obtain ⟨m, hm⟩ : ∃ m : Nat, (u : Int) % 20 = (m : Int) := ⟨u % 20, by omega⟩
  have hm20 : m < 20 := by omega
  go_enter Try.func5, Try.ntmps5
  go_wp2_with fail
  obtain ⟨W, hW⟩ : ∃ W, 1 + a0 % 1000 = W := ⟨_, rfl⟩
  obtain ⟨Hh, hH⟩ : ∃ Hh, a1 / 2 + 1 = Hh := ⟨_, rfl⟩
  have hW0 : 1 ≤ W := by omega
  have hW1 : W ≤ 1000 := by omega
  have hH0 : 1 ≤ Hh := by omega
  have hH1 : Hh ≤ 9223372036854775808 := by omega
  rw [hW, hH]
  clear hu hm hW hH b0 b1
  refine (xnew_any W ⟨by omega, by omega⟩ _).mono ?_
  rintro e w1 ⟨rfl, h1, k1⟩
  have H1 := Lib.hid h1; have K1 := Lib.hid k1; clear h1 k1
  go_wp2_with fail
  refine (xupd_is (fall_first (by omega) (by omega)) _ _ H1.out ⟨by omega, by omega⟩ ⟨by omega, by omega⟩).mono ?_
  rintro e w2 ⟨rfl, h2, k2⟩
  have H2 := Lib.hid h2; have K2 := Lib.hid ((K1.out.then k2 (fun i e hlt => by omega)).below (Nat.le_refl _) (fun _ h => h.elim)); clear h2 k2 H1 K1
  obtain ⟨g, hg⟩ : ∃ g, w.heap.size = g := ⟨_, rfl⟩
  rw [hg] at H2 ⊢
  have hgle : w.heap.size ≤ g := by omega
  clear hg
  go_wp2
  go_loopw [8] (fun i wr => ∃ (n : Nat) (x : Tri), n ≤ m ∧ i = .int .i64 n ∧ MaxAt wr g W x ∧ x.t0 = 0 ∧ x.v0 = Hh ∧ x.l ≤ W ∧ Below w.heap.size w wr) (fun i _ => m - (intOf i).toNat)
  case atStart => exact ⟨0, _, Nat.zero_le _, rfl, H2.out, rfl, rfl, (show (0 : Int) ≤ W by omega), K2.out⟩
  case round =>
    obtain ⟨n, x, hn, rfl, hx, x0, xv, xl, hB⟩ := hrel
    have HX := Lib.hid hx; have HB := Lib.hid hB; have HS := Lib.hid (⟨x0, xv, xl⟩ : _ ∧ _ ∧ _); clear hx hB x0 xv xl H2 K2
    have hne : (Hh != Hh) = false := by simp
    by_cases hlt : n < m
    · have hi1 : (n : Int) < (m : Int) := by omega
      have hmul : 0 ≤ W * (n : Int) ∧ W * (n : Int) ≤ W * 20 := ⟨Int.mul_nonneg (by omega) (by omega), Int.mul_le_mul_of_nonneg_left (by omega) (by omega)⟩
      generalize hp : W * (n : Int) = p at *
      have HQ := Lib.hid hmul
      have hwr : IntKind.u64.wrap p = p := by rw [IntKind.wrap_u64]; omega
      have hwn : IntKind.u64.wrap (n : Int) = (n : Int) := by rw [IntKind.wrap_u64]; omega
      go_wp2_with fail
      have hq0 : 0 ≤ p / 20 := by have := HQ.out.1; omega
      have hq1 : p / 20 ≤ W := by have := HQ.out.2; omega
      have HFS := fall_stays (v := Hh - 1) (t := p / 20) HS.out.1 HS.out.2.1 HS.out.2.2 HX.out.fit hq1 (by omega)
      refine (xupd_is ⟨rfl, HFS.2.1⟩ _ _ HX.out ⟨hq0, by omega⟩ ⟨by omega, by omega⟩).mono ?_
      rintro e w3 ⟨rfl, h3, k3⟩
      have H3 := Lib.hid h3; have HF := Lib.hid HFS; have B3 := Lib.hid (HB.out.trans (k3.below HB.out.size (fun j h => by omega))); clear h3 k3 HFS hq0 hq1 hwr hwn HQ hmul
      go_wp2
      go_roundw
      case rel => exact ⟨n + 1, _, by omega, by go_num, H3.out, HF.out.1, HF.out.2.1, HF.out.2.2, B3.out⟩
      case measure => simp [intOf]; omega
    · obtain rfl : m = n := by omega
      clear hn hlt
      have hen : (Hh == Hh) = true := by simp
      have hen' : (Hh - 1 == Hh - 1) = true := by simp
      go_wp2_with fail
      refine (xupd_is (fall_gone HS.out.2.2 HX.out.fit (by omega)) _ _ HX.out ⟨by omega, by omega⟩ ⟨by omega, by omega⟩).mono ?_
      rintro e w3 ⟨rfl, h3, k3⟩
      have H3 := Lib.hid h3; have B3 := Lib.hid (HB.out.trans (k3.below HB.out.size (fun j h => by omega))); clear h3 k3
      go_wp2_with fail
      refine (awakex_any _).mono ?_
      rintro e w4 ⟨rfl, k4⟩
      have H4 := Lib.hid (H3.out.kept k4); have B4 := Lib.hid (B3.out.trans (k4.below B3.out.size (fun j h => h.elim))); clear k4
      go_wp2_with fail
      refine (xupd_is (fall_back (by omega)) _ _ H4.out ⟨by omega, by omega⟩ ⟨by omega, by omega⟩).mono ?_
      rintro e w5 ⟨rfl, h5, k5⟩
      have B5 := Lib.hid (B4.out.trans (k5.below B4.out.size (fun j h => by omega))); clear h5 k5
      go_wp2_with (first
        | (go_at_call 21; (with_reducible refine (xupd_nil _ _ _).mono ?_); rintro e w' ⟨rfl, rfl⟩)
        | (go_at_call 23; (with_reducible refine (xbest_nil _).mono ?_); rintro e w' ⟨rfl, rfl⟩))
      go_ret
      exact ⟨rfl, B5.out⟩

set_option maxRecDepth 100000 in
theorem lifted (os : Os) (started : os.Started) (H : Type) (enc : TypeId × Value → H) :
    ReturnsInHanded {} Try.checked os 5 .any (Rows.winmaxFallsSpec.pre6 enc Try.prog Try.f5 Rows.winmaxFallsRow.domain false) (Rows.winmaxFallsSpec.post enc Try.prog Try.f5 false true false false) := by
  refine returnsInHanded_of_change (C := Try.checked) own started (by kernel_rfl) Try.func5
    (ChangeSpec.witness6 (enc := enc) (C := Try.checked) false ⟨#[], #[.int .u64 0, .int .u64 0, .int .i64 0], []⟩ 8 (by kernel_rfl) (by kernel_rfl) (by kernel_rfl) (by kernel_rfl)) ?_
  intro W base args ds gs before hval0 hW hcnd _
  have hval : ∀ (j : Nat) t v, Try.f5.params[j]? = some t → args[j]? = some v → Value.okWide Try.prog W .any base t v := hval0
  have hW' := hW
  obtain ⟨p, q, hA0, hV, rfl, hfz, hnd⟩ := hW
  have hA : DataW.TrodAll enc Try.prog W 0 (fun _ => true) true Try.f5.params.toList args.toList ds p := hA0
  rw [Try.params5] at hA hval
  obtain ⟨v0, vs0, d0, ds0, p0, q0, hargs, rfl, rfl, h0, r0⟩ := trodAll_cons hA
  obtain ⟨v1, vs1, d1, ds1, p1, q1, rfl, rfl, rfl, h1, r1⟩ := trodAll_cons r0
  obtain ⟨v2, vs2, d2, ds2, p2, q2, rfl, rfl, rfl, h2, r2⟩ := trodAll_cons r1
  obtain ⟨rfl, rfl, rfl⟩ := trodAll_nil r2
  obtain rfl : args = #[v0, v1, v2] := by cases args; simp_all
  obtain ⟨rfl, rfl⟩ := trodVars_none hV
  obtain ⟨a0, rfl, rfl, rfl, w0⟩ := open_int Try.underlying28 (hval 0 28 v0 rfl rfl) h0
  obtain ⟨a1, rfl, rfl, rfl, w1⟩ := open_int Try.underlying28 (hval 1 28 v1 rfl rfl) h1
  obtain ⟨a2, rfl, rfl, rfl, w2⟩ := open_int Try.underlying3 (hval 2 3 v2 rfl rfl) h2
  clear hA0 hval0
  simp only [List.append_nil] at hW'
  refine (walk a0 a1 a2 w0 w1 w2 W).mono fun e W' ⟨he, hg⟩ => ?_
  subst he
  exact ⟨_, rfl, _, _, _, [], _, [], hW', trodAll_mk1 (shut_bool Try.underlying4 _), (trodAll_cons_mk (shut_int Try.underlying28 w0) (trodAll_cons_mk (shut_int Try.underlying28 w1) (trodAll_cons_mk (shut_int Try.underlying3 w2) trodAll_mk0))), rfl, hg.frame _, fun h => by cases h⟩

theorem over : Rows.winmaxFallsRow.holds Try.pinned (OpenSpec.ofChange Rows.winmaxFallsSpec) :=
  OpenClaim.holds_of_wide 5 Try.f5 rfl rfl rfl rfl rfl rfl rfl ⟨rfl, rfl, rfl, rfl, rfl⟩ rfl rfl rfl rfl rfl (by kernel_rfl) Try.func5 (by kernel_rfl)
    (of_decide_eq_true (by kernel_rfl)) (by unfold Func.isWrapper; first | (rw [if_pos (by decide +kernel)]; kernel_rfl) | (rw [if_neg (by decide +kernel)]; exact ⟨rfl, rfl⟩))
    (fun os started H enc _ => lifted os started H enc)

theorem proved : Rows.WinmaxFallsSaid :=
  over
end Go.Proofs.Ytfbbmpmgceghfaa.winmaxFalls
namespace Go.Proofs.Ytfbbmpmgceghfaa
theorem winmaxFalls_holds : Rows.WinmaxFallsSaid := winmaxFalls.proved
#print axioms winmaxFalls_holds
end Go.Proofs.Ytfbbmpmgceghfaa
