/-
  Proved: canterlaw03.ClockSteps answers true at every time and every list of steps, and leaves its arguments as they were. Conditions: none.
-/
import Derived.Test.YtnfgkfbcijnhcaaRows
import Derived.WalkKit
import Derived.ProofKit
import Derived.OpenShut
import Derived.ShutString
import Derived.ChangeOld
import Derived.Below
import Derived.Test.YtnfgkfbcijnhcaaAwakeC
namespace Go.Proofs.Ytnfgkfbcijnhcaa.clockSteps
open Go.ChangeShapes Go.WideShapes Go.ChangeAt Go.RowKit
open Go.ChangeMaps (open_string shut_string)
set_option linter.unusedVariables false

theorem own : ownKnob Try.prog.godebug = none := by kernel_rfl
theorem laidOut : laidOutB Try.prog = true := by kernel_rfl

def IsRow (k : IntKind) (w : World) (a : Option Addr) (len cap : Nat) (zs : List Int) : Prop :=
  (a = none ∧ len = 0 ∧ cap = 0 ∧ zs = []) ∨
  ∃ x, a = some x ∧ len ≤ cap ∧ cap ≤ maxLen ∧ zs.length = cap ∧ (∀ i, i < zs.length → w.cell? (x.add i) = some (.int k (zs.getD i 0))) ∧ ∀ n ∈ zs, (Lit.int k n).wf = true

theorem rd_of_row {w : World} {a : Option Addr} {len cap : Nat} {z : List Int} (h : IsRow .u64 w a len cap z) :
    (z.take len).length = len ∧ len ≤ 9223372036854775807 ∧ Rd .u64 w a (z.take len) ∧ ∀ k, k < (z.take len).length → 0 ≤ (z.take len).getD k 0 ∧ (z.take len).getD k 0 ≤ 18446744073709551615 := by
  rcases h with ⟨rfl, rfl, rfl, rfl⟩ | ⟨x, rfl, hl, hm, hz, hc, hw⟩
  · exact ⟨rfl, by omega, fun i hi => by simp at hi, fun k hk => by simp at hk⟩
  · have hlen : (z.take len).length = len := by simp; omega
    have eg : ∀ i, i < len → (z.take len).getD i 0 = z.getD i 0 := fun i hi => by simp [List.getD_eq_getElem?_getD, hi]
    refine ⟨hlen, by unfold maxLen at hm; omega, fun i hi => ?_, fun k hk => ?_⟩
    · rw [hlen] at hi
      obtain ⟨b, off, e, hat⟩ := ints_at hc (by omega)
      subst e
      have hcell := hat i (by omega)
      exact ⟨b, off, rfl, lt_of_cell hcell, by rw [eg i hi]; exact hcell⟩
    · rw [hlen] at hk
      rw [eg k hk, List.getD_eq_getElem?_getD, List.getElem?_eq_getElem (by omega)]
      exact bounds_u64 (hw _ (List.getElem_mem _))

theorem after_in (g : Nat) (n d : Int) (w : World) (h : ClockAt w g n) (hd0 : 0 ≤ d) (hd1 : n + d ≤ 4611686018427387904) :
    Calls Try.prog 10 #[.pointer (some ⟨g, 0, none⟩), .int .u64 d] w fun e w' => e = .returned (.int .u64 (n + d)) ∧ w = w' := by
  have e : afterV n d = n + d := if_pos hd1
  have := after_any g n d w h hd0 (by have := h.2; omega)
  rwa [e] at this
theorem move_on (g : Nat) (n t : Int) (w : World) (h : ClockAt w g n) (hn : n ≤ t) (ht : t ≤ 4611686018427387904) :
    Calls Try.prog 8 #[.pointer (some ⟨g, 0, none⟩), .int .u64 t] w fun e w' => e = .returned (.int .i64 0) ∧ ClockAt w' g t ∧ Keep (· = g) w w' := by
  have e1 : moveE n t = 0 := by unfold moveE; rw [if_neg (by omega), if_neg (by omega)]
  have e2 : moveN n t = t := by unfold moveN; rw [if_neg (by omega), if_neg (by omega)]
  have := move_any g n t w h (by have := h.2; omega) (by omega)
  unfold Moved at this
  rwa [e1, e2] at this
theorem move_back (g : Nat) (n t : Int) (w : World) (h : ClockAt w g n) (hn : t < n) (ht : 0 ≤ t) :
    Calls Try.prog 8 #[.pointer (some ⟨g, 0, none⟩), .int .u64 t] w fun e w' => e = .returned (.int .i64 4) ∧ ClockAt w' g n ∧ Keep (· = g) w w' := by
  have hb := h.2
  have e1 : moveE n t = 4 := by unfold moveE; rw [if_neg (by omega), if_pos hn]
  have e2 : moveN n t = n := by unfold moveN; rw [if_neg (by omega), if_pos hn]
  have := move_any g n t w h (by omega) (by omega)
  unfold Moved at this
  rwa [e1, e2] at this
theorem cnew_in (a : Int) (h0 : 0 ≤ a) (h1 : a ≤ 4611686018427387904) (w : World) :
    Calls Try.prog 6 #[.int .u64 a] w fun e w' => e = .returned (.pointer (some ⟨w.heap.size, 0, none⟩)) ∧ ClockAt w' w.heap.size a ∧ Keep (fun _ => False) w w' := by
  have e : capT a = a := if_pos h1
  have := cnew_any a h0 (by omega) w
  rwa [e] at this

set_option maxHeartbeats 1000000 in
theorem walk (a0 : Int) (a1 : Option Addr) (len1 cap1 : Nat) (z1 : List Int) (w : World) (w0 : (Lit.int .u64 a0).wf = true) (w1 : IsRow .u64 w a1 len1 cap1 z1) :
    Calls Try.prog 5 #[.int .u64 a0, .slice a1 len1 cap1] w fun e w' => e = .returned (.bool true) ∧ Below w.heap.size w w' := by
  obtain ⟨a0l, a0h⟩ := bounds_u64 w0
  obtain ⟨hlen, hmax, hrd, hbd⟩ := rd_of_row w1
  clear w0 w1
  generalize z1.take len1 = zs at *
  subst hlen
  have HD := Lib.hid hrd; have HB := Lib.hid hbd; clear hrd hbd
  go_enter Try.func5, Try.ntmps5
  go_wp2_with fail
  have A0 : 0 ≤ a0 % 1152921504606846976 := by omega
  have A1 : a0 % 1152921504606846976 ≤ 1152921504606846975 := by omega
  generalize a0 % 1152921504606846976 = A at *
  clear a0l a0h
  refine (cnew_in _ (by omega) (by omega) _).mono ?_
  rintro e w1 ⟨rfl, h1, k1⟩
  have H1 := Lib.hid h1; have K1 := Lib.hid k1; clear h1 k1
  go_wp2_with fail
  refine (awakec_any _).mono ?_
  rintro e w2 ⟨rfl, k2⟩
  have H2 := Lib.hid (H1.out.keep k2 (fun h => h)); have K2 := Lib.hid ((K1.out.trans k2).below (Nat.le_refl _) (fun _ h => h.elim)); clear k2 H1 K1
  go_wp2
  go_loopw [6, 7] (fun s i wr => ∃ (k : Nat) (n : Int), k ≤ 60 ∧ i = .int .i64 k ∧ s = .int .u64 n ∧ n ≤ 1152921504606846975 + k * 1125899906842623 ∧ ClockAt wr w.heap.size n ∧ Below w.heap.size w wr) (fun _ i _ => 60 - (intOf i).toNat)
  case atStart => exact ⟨0, A, by omega, rfl, rfl, by omega, H2.out, K2.out⟩
  case round =>
    obtain ⟨k, n, hk, rfl, rfl, hn, hcl, hbel⟩ := hrel
    have n0 := hcl.2.1
    have HC := Lib.hid hcl; have HBEL := Lib.hid hbel; clear hcl hbel H2 K2
    by_cases hin : k < zs.length ∧ k < 60
    · obtain ⟨hin1, hin2⟩ := hin
      obtain ⟨b, off, rfl, hb, hc⟩ := HD.out k hin1
      obtain ⟨x0, x1⟩ := HB.out k hin1
      have hcell : wr.cell? ⟨b, off + k, none⟩ = some (.int .u64 (zs.getD k 0)) := (HBEL.out.cell (p := ⟨b, off + k, none⟩) hb).trans hc
      generalize zs.getD k 0 = x at *
      clear hc hb HD HB
      have D0 : 0 ≤ x % 1125899906842624 := by omega
      have D1 : x % 1125899906842624 ≤ 1125899906842623 := by omega
      go_wp2_with fail
      generalize x % 1125899906842624 = D at *
      refine (after_in _ _ _ _ HC.out (by omega) (by omega)).mono ?_
      rintro e w' ⟨rfl, rfl⟩
      go_wp2_with fail
      refine (move_on _ _ _ _ HC.out (by omega) (by omega)).mono ?_
      rintro e w3 ⟨rfl, h3, k3⟩
      have H3 := Lib.hid h3; have K3 := Lib.hid (HBEL.out.trans (k3.below HBEL.out.size (fun i e => by omega))); clear h3 k3
      go_wp2
      go_roundw
      case rel => exact ⟨k + 1, n + D, by omega, by go_num, rfl, by omega, H3.out, K3.out⟩
      case measure => simp [intOf]; omega
    · have f1 : (n == n) = true := by simp
      by_cases hz : n = 0
      · subst hz
        by_cases hin1 : k < zs.length
        all_goals
          go_wp2_with (first
            | (go_at_call 9; (with_reducible refine (now_any _ _ _ HC.out).mono ?_); rintro e w' ⟨rfl, rfl⟩)
            | (go_at_call 10; (with_reducible refine (after_in _ _ _ _ HC.out (by omega) (by omega)).mono ?_); rintro e w' ⟨rfl, rfl⟩)
            | (go_at_call 8; (with_reducible refine (move_on _ _ _ _ HC.out (by omega) (by omega)).mono ?_); rintro e w3 ⟨rfl, h3, k3⟩; have K3 := Lib.hid (HBEL.out.trans (k3.below HBEL.out.size (fun i e => by omega))); clear h3 k3))
          go_ret
          exact ⟨rfl, K3.out⟩
      · have hp : 0 < n := by omega
        have f2 : (n == 0) = false := by rw [beq_eq_false_iff_ne]; omega
        clear hz
        by_cases hin1 : k < zs.length
        all_goals
          go_wp2_with (first
            | (go_at_call 9; (with_reducible refine (now_any _ _ _ HC.out).mono ?_); rintro e w' ⟨rfl, rfl⟩)
            | (go_at_call 10; (with_reducible refine (after_in _ _ _ _ HC.out (by omega) (by omega)).mono ?_); rintro e w' ⟨rfl, rfl⟩)
            | (go_at_call 8; (with_reducible refine (move_on _ _ _ _ HC.out (by omega) (by omega)).mono ?_); rintro e w3 ⟨rfl, h3, k3⟩; have H3 := Lib.hid h3; have K3 := Lib.hid (HBEL.out.trans (k3.below HBEL.out.size (fun i e => by omega))); clear h3 k3)
            | (go_at_call 8; (with_reducible refine (move_back _ _ _ _ H3.out (by omega) (by omega)).mono ?_); rintro e w4 ⟨rfl, h4, k4⟩; have K4 := Lib.hid (K3.out.trans (k4.below K3.out.size (fun i e => by omega))); clear h4 k4))
          go_ret
          exact ⟨rfl, K4.out⟩

set_option maxRecDepth 100000 in
theorem lifted (os : Os) (started : os.Started) (H : Type) (enc : TypeId × Value → H) :
    ReturnsInHanded {} Try.checked os 5 .any (Rows.clockStepsSpec.pre6 enc Try.prog Try.f5 Rows.clockStepsRow.domain false) (Rows.clockStepsSpec.post enc Try.prog Try.f5 false true false false) := by
  refine returnsInHanded_of_change (C := Try.checked) own started (by kernel_rfl) Try.func5
    (ChangeSpec.witness6 (enc := enc) (C := Try.checked) false ⟨#[], #[.int .u64 0, .slice none 0 0], []⟩ 8 (by kernel_rfl) (by kernel_rfl) (by kernel_rfl) (by kernel_rfl)) ?_
  intro W base args ds gs before hval0 hW hcnd _
  have hval : ∀ (j : Nat) t v, Try.f5.params[j]? = some t → args[j]? = some v → Value.okWide Try.prog W .any base t v := hval0
  have hW' := hW
  obtain ⟨p, q, hA0, hV, rfl, hfz, hnd⟩ := hW
  have hA : DataW.TrodAll enc Try.prog W 0 (fun _ => true) true Try.f5.params.toList args.toList ds p := hA0
  rw [Try.params5] at hA hval
  obtain ⟨v0, vs0, d0, ds0, p0, q0, hargs, rfl, rfl, h0, r0⟩ := trodAll_cons hA
  obtain ⟨v1, vs1, d1, ds1, p1, q1, rfl, rfl, rfl, h1, r1⟩ := trodAll_cons r0
  obtain ⟨rfl, rfl, rfl⟩ := trodAll_nil r1
  obtain rfl : args = #[v0, v1] := by cases args; simp_all
  obtain ⟨rfl, rfl⟩ := trodVars_none hV
  obtain ⟨a0, rfl, rfl, rfl, w0⟩ := open_int Try.underlying22 (hval 0 22 v0 rfl rfl) h0
  obtain ⟨a1, len1, cap1, rfl⟩ := okWide_slice Try.underlying23 (hval 1 23 v1 rfl rfl)
  have k1 := h1
  have lt1 : ∀ x ∈ p1, x.block < W.heap.size := by obtain ⟨m, hm⟩ := k1; exact DataW.trod_lt m _ _ _ hm
  obtain ⟨z1, w1⟩ : ∃ zs, IsRow .u64 W a1 len1 cap1 zs := by
    obtain ⟨fuel, hf⟩ := h1
    rcases open_ints Try.underlying23 Try.underlying22 (by kernel_rfl) hf with ⟨hcs, _⟩ | ⟨x, l, c, zs, hcs, _, hl, hm, hz, _, hcell, hwz⟩
    · simp [Value.cells] at hcs
      obtain ⟨rfl, rfl, rfl⟩ := hcs
      exact ⟨[], .inl ⟨rfl, rfl, rfl, rfl⟩⟩
    · simp [Value.cells] at hcs
      obtain ⟨rfl, rfl, rfl⟩ := hcs
      exact ⟨zs, .inr ⟨_, rfl, hl, hm, by simpa using hz, hcell, hwz⟩⟩
  clear hA0 hval0
  refine (walk a0 a1 len1 cap1 z1 W w0 w1).mono fun e W' ⟨he, bel⟩ => ?_
  subst he
  exact ⟨_, rfl, _, _, _, [], _, [], hW', trodAll_mk1 (shut_bool Try.underlying4 _), (trodAll_cons_mk (shut_int Try.underlying22 w0) (trodAll_cons_mk (Below.trod laidOut (by kernel_rfl) (of_decide_eq_true (by kernel_rfl)) k1 bel lt1) trodAll_mk0)), rfl, bel.frame _, fun h => by cases h⟩

theorem over : Rows.clockStepsRow.holds Try.pinned (OpenSpec.ofChange Rows.clockStepsSpec) :=
  OpenClaim.holds_of_wide 5 Try.f5 rfl rfl rfl rfl rfl rfl rfl ⟨rfl, rfl, rfl, rfl, rfl⟩ rfl rfl rfl rfl rfl (by kernel_rfl) Try.func5 (by kernel_rfl)
    (of_decide_eq_true (by kernel_rfl)) (by unfold Func.isWrapper; first | (rw [if_pos (by decide +kernel)]; kernel_rfl) | (rw [if_neg (by decide +kernel)]; exact ⟨rfl, rfl⟩))
    (fun os started H enc _ => lifted os started H enc)

theorem proved : Rows.ClockStepsSaid := over
end Go.Proofs.Ytnfgkfbcijnhcaa.clockSteps
namespace Go.Proofs.Ytnfgkfbcijnhcaa
theorem clockSteps_holds : Rows.ClockStepsSaid := clockSteps.proved
#print axioms clockSteps_holds
end Go.Proofs.Ytnfgkfbcijnhcaa
