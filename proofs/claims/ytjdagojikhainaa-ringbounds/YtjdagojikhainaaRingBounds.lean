/-
  Proved: canterlaw06.RingBounds answers true at every three numbers, and leaves its arguments as they were. Conditions: none.
-/
import Derived.Test.YtjdagojikhainaaRows
import Derived.WalkKit
import Derived.ProofKit
import Derived.OpenShut
import Derived.ShutString
import Derived.Test.YtjdagojikhainaaAwakeR
namespace Go.Proofs.Ytjdagojikhainaa.ringBounds
open Go.ChangeShapes Go.WideShapes Go.ChangeAt Go.RowKit
open Go.ChangeMaps (open_string shut_string)
set_option linter.unusedVariables false

theorem own : ownKnob Try.prog.godebug = none := by kernel_rfl

theorem ring_drew {w w' : World} {n : Nat} (e : w' = w.drewN n) {g p N : Nat} {l : List Int} (h : RingAt w g p N l) : RingAt w' g p N l := by subst e; exact h.drewN n
theorem below_drew {w0 w w' : World} {n B : Nat} (e : w' = w.drewN n) (h : Below B w0 w) : Below B w0 w' := by subst e; exact h.trans ⟨rfl, rfl, rfl, Nat.le_refl _, fun _ _ => rfl⟩
theorem rat_is {N : Nat} {l : List Int} {i v : Int} {b : Bool} (e : atV l i = v ∧ atB l i = b) (g p : Nat) (w : World) (h : RingAt w g p N l) :
    Calls Try.prog 14 #[.pointer (some ⟨g, 0, none⟩), .int .i64 i] w fun e w' => e = .returned (.tuple #[.int .i64 v, .bool b]) ∧ ∃ n, w' = w.drewN n := by
  have := rat_any g p N l i w h; rwa [e.1, e.2] at this
theorem getD_rep {m k : Nat} (h : k < m) (v : Int) : (List.replicate m v).getD k 0 = v := by simp [h]
theorem push_more {m k : Nat} (v : Int) (h : k < m) : pushE m (List.replicate k v) = 0 ∧ pushS m (List.replicate k v) v = List.replicate (k + 1) v := by
  unfold pushE pushS
  rw [if_neg (by simp; omega), if_neg (by simp; omega), List.replicate_succ']
  exact ⟨rfl, rfl⟩
theorem push_full (m : Nat) (v : Int) : pushE m (List.replicate m v) = 5 ∧ pushS m (List.replicate m v) v = List.replicate m v := by
  unfold pushE pushS
  rw [if_pos (by simp), if_pos (by simp)]
  exact ⟨rfl, rfl⟩

set_option maxHeartbeats 2000000 in
set_option maxRecDepth 100000 in
theorem walk (a0 : Int) (a1 : Int) (a2 : Int) (w0 : (Lit.int .i64 a0).wf = true) (w1 : (Lit.int .i64 a1).wf = true) (w2 : (Lit.int .i64 a2).wf = true) (w : World) :
    Calls Try.prog 5 #[.int .i64 a0, .int .i64 a1, .int .i64 a2] w fun e w' => e = .returned (.bool true) ∧ Below w.heap.size w w' := by
  clear w0 w1 w2
  obtain ⟨u, hu⟩ : ∃ u : Nat, IntKind.u64.wrap a0 = (u : Int) := ⟨(IntKind.u64.wrap a0).toNat, by rw [IntKind.wrap_u64]; omega⟩
  go_enter Try.func5, Try.ntmps5
  go_wp2_with fail
  obtain ⟨m, hm⟩ : ∃ m : Nat, (u : Int) % 40 = (m : Int) := ⟨u % 40, by omega⟩
  have hm39 : m ≤ 39 := by omega
  rw [hm]
  clear hm hu
  have HC : Hid (capN (m : Int) = m) := Lib.hid (by unfold capN; rw [if_neg (by omega), if_pos (by omega)]; simp)
  have HC' : Hid (capN (-(m : Int)) = 0) := Lib.hid (by unfold capN; split; rfl; rw [if_pos (by omega)]; omega)
  refine (rnew_is HC.out _).mono ?_
  rintro e w1 ⟨rfl, h1, k1⟩
  have H1 := Lib.hid h1; have K1 := Lib.hid k1; clear h1 k1 HC
  have hl1 := H1.out.lt
  go_wp2_with fail
  refine (rnew_is HC'.out _).mono ?_
  rintro e w2 ⟨rfl, h2, k2⟩
  have X2 := Lib.hid h2; have H2 := Lib.hid (H1.out.kept k2); have K2 := Lib.hid (K1.out.trans k2); clear h2 k2 HC' H1 K1
  go_wp2_with fail
  refine (awaker_any _).mono ?_
  rintro e w3 ⟨rfl, k3⟩
  have H3 := Lib.hid (H2.out.kept k3); have X3 := Lib.hid (X2.out.kept k3); have K3 := Lib.hid ((K2.out.trans k3).below (Nat.le_refl _) (fun _ h => h.elim)); clear k3 H2 X2 K2
  generalize w1.heap.size = s1 at *
  go_wp2
  go_loopw [9] (fun i wr => ∃ (k : Nat), k ≤ m ∧ i = .int .i64 k ∧ RingAt wr (w.heap.size + 1) w.heap.size m (List.replicate k a2) ∧ RingAt wr (s1 + 1) s1 0 (List.replicate 0 a2) ∧ Below w.heap.size w wr) (fun i _ => m - (intOf i).toNat)
  case atStart => exact ⟨0, by omega, rfl, H3.out, X3.out, K3.out⟩
  case round =>
    obtain ⟨k, hk, rfl, hA, hX, hB⟩ := hrel
    have HA := Lib.hid hA; have HX := Lib.hid hX; have HBEL := Lib.hid hB; clear hA hX hB H3 X3 K3
    by_cases hlt : k < m
    · have hi1 : (k : Int) < (m : Int) := by omega
      go_wp2_with (go_at_call 10; (with_reducible refine (rpush_is (push_more _ hlt) _ _ _ HA.out).mono ?_); rintro e w5 ⟨rfl, h5, k5⟩; have H5 := Lib.hid h5; have X5 := Lib.hid (HX.out.keep k5 (by omega) (by omega)); have B5 := Lib.hid (HBEL.out.trans (k5.below HBEL.out.size (fun j h => by omega))); clear h5 k5)
      go_roundw
      case rel => exact ⟨k + 1, by omega, by go_num, H5.out, X5.out, B5.out⟩
      case measure => simp [intOf]; omega
    · obtain rfl : m = k := by omega
      clear hk hlt
      have f1 : ((m : Int) == (m : Int)) = true := by simp
      have f2 : (a2 == a2) = true := by simp
      by_cases hneg : a1 < 0
      · have HV : Hid (atV (List.replicate m a2) a1 = 0 ∧ atB (List.replicate m a2) a1 = false) := Lib.hid ⟨by unfold atV; rw [if_neg (by omega)], by unfold atB; simp; omega⟩
        by_cases hm0 : m = 0
        · subst hm0
          go_wp2_with (first
            | (go_at_call 14; (with_reducible refine (rat_is HV.out _ _ _ HA.out).mono ?_); rintro e w5 ⟨rfl, n5, hw5⟩; have A5 := Lib.hid (ring_drew hw5 HA.out); have X5 := Lib.hid (ring_drew hw5 HX.out); have B5 := Lib.hid (below_drew hw5 HBEL.out); clear hw5 HA HX HBEL)
            | (go_at_call 10; (with_reducible refine (rpush_is (push_full _ _) _ _ _ A5.out).mono ?_); rintro e w6 ⟨rfl, h6, k6⟩; have A6 := Lib.hid h6; have X6 := Lib.hid (X5.out.keep k6 (by omega) (by omega)); have B6 := Lib.hid (B5.out.trans (k6.below B5.out.size (fun j h => by omega))); clear h6 k6 A5 X5 B5)
            | (go_at_call 12; (with_reducible refine (rlen_is List.length_replicate _ _ _ A6.out).mono ?_); rintro e w' ⟨rfl, rfl⟩)
            | (go_at_call 10; (with_reducible refine (rpush_is (push_full 0 _) _ _ _ X6.out).mono ?_); rintro e w7 ⟨rfl, h7, k7⟩; have B7 := Lib.hid (B6.out.trans (k7.below B6.out.size (fun j h => by omega))); clear h7 k7))
          go_ret
          first
            | exact ⟨rfl, B7.out⟩
            | exact ⟨rfl, B6.out⟩
        · have g0 : ((m : Int) == 0) = false := by simp; omega
          go_wp2_with (first
            | (go_at_call 14; (with_reducible refine (rat_is HV.out _ _ _ HA.out).mono ?_); rintro e w5 ⟨rfl, n5, hw5⟩; have A5 := Lib.hid (ring_drew hw5 HA.out); have X5 := Lib.hid (ring_drew hw5 HX.out); have B5 := Lib.hid (below_drew hw5 HBEL.out); clear hw5 HA HX HBEL)
            | (go_at_call 10; (with_reducible refine (rpush_is (push_full _ _) _ _ _ A5.out).mono ?_); rintro e w6 ⟨rfl, h6, k6⟩; have A6 := Lib.hid h6; have X6 := Lib.hid (X5.out.keep k6 (by omega) (by omega)); have B6 := Lib.hid (B5.out.trans (k6.below B5.out.size (fun j h => by omega))); clear h6 k6 A5 X5 B5)
            | (go_at_call 12; (with_reducible refine (rlen_is List.length_replicate _ _ _ A6.out).mono ?_); rintro e w' ⟨rfl, rfl⟩)
            | (go_at_call 10; (with_reducible refine (rpush_is (push_full 0 _) _ _ _ X6.out).mono ?_); rintro e w7 ⟨rfl, h7, k7⟩; have B7 := Lib.hid (B6.out.trans (k7.below B6.out.size (fun j h => by omega))); clear h7 k7))
          go_ret
          first
            | exact ⟨rfl, B7.out⟩
            | exact ⟨rfl, B6.out⟩
      · have hge : 0 ≤ a1 := by omega
        by_cases hin : a1 < m
        · have HV : Hid (atV (List.replicate m a2) a1 = a2 ∧ atB (List.replicate m a2) a1 = true) := Lib.hid ⟨by unfold atV; rw [if_pos (by simp; omega)]; exact getD_rep (by omega) _, by unfold atB; simp; omega⟩
          have g0 : ((m : Int) == 0) = false := by simp; omega
          go_wp2_with (first
            | (go_at_call 14; (with_reducible refine (rat_is HV.out _ _ _ HA.out).mono ?_); rintro e w5 ⟨rfl, n5, hw5⟩; have A5 := Lib.hid (ring_drew hw5 HA.out); have X5 := Lib.hid (ring_drew hw5 HX.out); have B5 := Lib.hid (below_drew hw5 HBEL.out); clear hw5 HA HX HBEL)
            | (go_at_call 10; (with_reducible refine (rpush_is (push_full _ _) _ _ _ A5.out).mono ?_); rintro e w6 ⟨rfl, h6, k6⟩; have A6 := Lib.hid h6; have X6 := Lib.hid (X5.out.keep k6 (by omega) (by omega)); have B6 := Lib.hid (B5.out.trans (k6.below B5.out.size (fun j h => by omega))); clear h6 k6 A5 X5 B5)
            | (go_at_call 12; (with_reducible refine (rlen_is List.length_replicate _ _ _ A6.out).mono ?_); rintro e w' ⟨rfl, rfl⟩)
            | (go_at_call 10; (with_reducible refine (rpush_is (push_full 0 _) _ _ _ X6.out).mono ?_); rintro e w7 ⟨rfl, h7, k7⟩; have B7 := Lib.hid (B6.out.trans (k7.below B6.out.size (fun j h => by omega))); clear h7 k7))
          go_ret
          first
            | exact ⟨rfl, B7.out⟩
            | exact ⟨rfl, B6.out⟩
        · have HV : Hid (atV (List.replicate m a2) a1 = 0 ∧ atB (List.replicate m a2) a1 = false) := Lib.hid ⟨by unfold atV; rw [if_neg (by simp; omega)], by unfold atB; simp; omega⟩
          by_cases hm0 : m = 0
          · subst hm0
            go_wp2_with (first
              | (go_at_call 14; (with_reducible refine (rat_is HV.out _ _ _ HA.out).mono ?_); rintro e w5 ⟨rfl, n5, hw5⟩; have A5 := Lib.hid (ring_drew hw5 HA.out); have X5 := Lib.hid (ring_drew hw5 HX.out); have B5 := Lib.hid (below_drew hw5 HBEL.out); clear hw5 HA HX HBEL)
              | (go_at_call 10; (with_reducible refine (rpush_is (push_full _ _) _ _ _ A5.out).mono ?_); rintro e w6 ⟨rfl, h6, k6⟩; have A6 := Lib.hid h6; have X6 := Lib.hid (X5.out.keep k6 (by omega) (by omega)); have B6 := Lib.hid (B5.out.trans (k6.below B5.out.size (fun j h => by omega))); clear h6 k6 A5 X5 B5)
              | (go_at_call 12; (with_reducible refine (rlen_is List.length_replicate _ _ _ A6.out).mono ?_); rintro e w' ⟨rfl, rfl⟩)
              | (go_at_call 10; (with_reducible refine (rpush_is (push_full 0 _) _ _ _ X6.out).mono ?_); rintro e w7 ⟨rfl, h7, k7⟩; have B7 := Lib.hid (B6.out.trans (k7.below B6.out.size (fun j h => by omega))); clear h7 k7))
            go_ret
            first
              | exact ⟨rfl, B7.out⟩
              | exact ⟨rfl, B6.out⟩
          · have g0 : ((m : Int) == 0) = false := by simp; omega
            go_wp2_with (first
              | (go_at_call 14; (with_reducible refine (rat_is HV.out _ _ _ HA.out).mono ?_); rintro e w5 ⟨rfl, n5, hw5⟩; have A5 := Lib.hid (ring_drew hw5 HA.out); have X5 := Lib.hid (ring_drew hw5 HX.out); have B5 := Lib.hid (below_drew hw5 HBEL.out); clear hw5 HA HX HBEL)
              | (go_at_call 10; (with_reducible refine (rpush_is (push_full _ _) _ _ _ A5.out).mono ?_); rintro e w6 ⟨rfl, h6, k6⟩; have A6 := Lib.hid h6; have X6 := Lib.hid (X5.out.keep k6 (by omega) (by omega)); have B6 := Lib.hid (B5.out.trans (k6.below B5.out.size (fun j h => by omega))); clear h6 k6 A5 X5 B5)
              | (go_at_call 12; (with_reducible refine (rlen_is List.length_replicate _ _ _ A6.out).mono ?_); rintro e w' ⟨rfl, rfl⟩)
              | (go_at_call 10; (with_reducible refine (rpush_is (push_full 0 _) _ _ _ X6.out).mono ?_); rintro e w7 ⟨rfl, h7, k7⟩; have B7 := Lib.hid (B6.out.trans (k7.below B6.out.size (fun j h => by omega))); clear h7 k7))
            go_ret
            first
              | exact ⟨rfl, B7.out⟩
              | exact ⟨rfl, B6.out⟩

set_option maxRecDepth 100000 in
theorem lifted (os : Os) (started : os.Started) (H : Type) (enc : TypeId × Value → H) :
    ReturnsInHanded {} Try.checked os 5 .any (Rows.ringBoundsSpec.pre6 enc Try.prog Try.f5 Rows.ringBoundsRow.domain false) (Rows.ringBoundsSpec.post enc Try.prog Try.f5 false true false false) := by
  refine returnsInHanded_of_change (C := Try.checked) own started (by kernel_rfl) Try.func5
    (ChangeSpec.witness6 (enc := enc) (C := Try.checked) false ⟨#[], #[.int .i64 0, .int .i64 0, .int .i64 0], []⟩ 8 (by kernel_rfl) (by kernel_rfl) (by kernel_rfl) (by kernel_rfl)) ?_
  intro W base args ds gs before hval0 hW hcnd _
  have hval : ∀ (j : Nat) t v, Try.f5.params[j]? = some t → args[j]? = some v → Value.okWide Try.prog W .any base t v := hval0
  have hW' := hW
  obtain ⟨p, q, hA0, hV, rfl, hfz, hnd⟩ := hW
  have hA : DataW.TrodAll enc Try.prog W 0 (fun _ => true) true Try.f5.params.toList args.toList ds p := hA0
  rw [Try.params5] at hA hval
  obtain ⟨v0, vs0, d0, ds0, p0, q0, hargs, rfl, rfl, h0, r0⟩ := trodAll_cons hA
  obtain ⟨v1, vs1, d1, ds1, p1, q1, rfl, rfl, rfl, h1, r1⟩ := trodAll_cons r0
  obtain ⟨v2, vs2, d2, ds2, p2, q2, rfl, rfl, rfl, h2, r2⟩ := trodAll_cons r1
  obtain ⟨rfl, rfl, rfl⟩ := trodAll_nil r2
  obtain rfl : args = #[v0, v1, v2] := by cases args; simp_all
  obtain ⟨rfl, rfl⟩ := trodVars_none hV
  obtain ⟨a0, rfl, rfl, rfl, w0⟩ := open_int Try.underlying3 (hval 0 3 v0 rfl rfl) h0
  obtain ⟨a1, rfl, rfl, rfl, w1⟩ := open_int Try.underlying3 (hval 1 3 v1 rfl rfl) h1
  obtain ⟨a2, rfl, rfl, rfl, w2⟩ := open_int Try.underlying3 (hval 2 3 v2 rfl rfl) h2
  clear hA0 hval0
  simp only [List.append_nil] at hW'
  refine (walk a0 a1 a2 w0 w1 w2 W).mono fun e W' ⟨he, hg⟩ => ?_
  subst he
  exact ⟨_, rfl, _, _, _, [], _, [], hW', trodAll_mk1 (shut_bool Try.underlying4 _), (trodAll_cons_mk (shut_int Try.underlying3 w0) (trodAll_cons_mk (shut_int Try.underlying3 w1) (trodAll_cons_mk (shut_int Try.underlying3 w2) trodAll_mk0))), rfl, hg.frame _, fun h => by cases h⟩

theorem over : Rows.ringBoundsRow.holds Try.pinned (OpenSpec.ofChange Rows.ringBoundsSpec) :=
  OpenClaim.holds_of_wide 5 Try.f5 rfl rfl rfl rfl rfl rfl rfl ⟨rfl, rfl, rfl, rfl, rfl⟩ rfl rfl rfl rfl rfl (by kernel_rfl) Try.func5 (by kernel_rfl)
    (of_decide_eq_true (by kernel_rfl)) (by unfold Func.isWrapper; first | (rw [if_pos (by decide +kernel)]; kernel_rfl) | (rw [if_neg (by decide +kernel)]; exact ⟨rfl, rfl⟩))
    (fun os started H enc _ => lifted os started H enc)

theorem proved : Rows.RingBoundsSaid :=
  over
end Go.Proofs.Ytjdagojikhainaa.ringBounds
namespace Go.Proofs.Ytjdagojikhainaa
theorem ringBounds_holds : Rows.RingBoundsSaid := ringBounds.proved
#print axioms ringBounds_holds
end Go.Proofs.Ytjdagojikhainaa
