/-
  Proved: canterlaw04.ArenaBounds answers true at every two numbers, and leaves its arguments as they were. Conditions: none.
-/
import Derived.Test.YtlhppmffbidjnaaRows
import Derived.WalkKit
import Derived.ProofKit
import Derived.OpenShut
import Derived.ShutString
import Derived.Test.YtlhppmffbidjnaaAwakeA
import Derived.Deep.DeepCutAuto
import Derived.Deep.CutBlock
namespace Go.Proofs.Ytlhppmffbidjnaa.arenaBounds
open Go.ChangeShapes Go.WideShapes Go.ChangeAt Go.RowKit
open Go.ChangeMaps (open_string shut_string)
set_option linter.unusedVariables false

theorem own : ownKnob Try.prog.godebug = none := by kernel_rfl

theorem has_none (n : Nat) (i : Int) : St.has ⟨n, [], []⟩ i = false := by simp [St.has]
theorem free_is {s : St} {i c : Int} (s' : St) (e : s.freeE i = c ∧ s.freeS i = s') (S : Nat → Prop) (g : Nat) (w : World) (h : ArenaAt 45 w S g s) :
    Calls Try.prog 12 #[.pointer (some ⟨g, 0, none⟩), .int .i64 i] w fun e w' => e = .returned (.int .i64 c) ∧ ∃ S', ArenaAt 45 w' S' g s' ∧ Step S S' w w' := by
  have := free_any S g s i w h
  unfold Freed at this
  rwa [e.1, e.2] at this
theorem get_more {k : Nat} (h : k < 4096) : St.getV ⟨4096, List.replicate k true, []⟩ = k ∧ St.getE ⟨4096, List.replicate k true, []⟩ = 0 ∧ St.getS ⟨4096, List.replicate k true, []⟩ = ⟨4096, List.replicate (k + 1) true, []⟩ := by
  have := get_new (N := 4096) (out := List.replicate k true) (by simp; omega)
  rw [List.length_replicate, ← List.replicate_succ'] at this
  exact this
theorem get_over : St.getV ⟨4096, List.replicate 4096 true, []⟩ = 0 ∧ St.getE ⟨4096, List.replicate 4096 true, []⟩ = 5 ∧ St.getS ⟨4096, List.replicate 4096 true, []⟩ = ⟨4096, List.replicate 4096 true, []⟩ := get_full List.length_replicate
theorem used_over : (St.out ⟨4096, List.replicate 4096 true, []⟩).count true = 4096 := List.count_replicate_self

set_option maxHeartbeats 2000000 in
set_option maxRecDepth 100000 in
theorem walk (a0 : Int) (a1 : Int) (w0 : (Lit.int .i64 a0).wf = true) (w1 : (Lit.int .i64 a1).wf = true) (w : World) :
    Calls Try.prog 6 #[.int .i64 a0, .int .i64 a1] w fun e w' => e = .returned (.bool true) ∧ Below w.heap.size w w' := by
  obtain ⟨a0l, a0h⟩ := bounds_i64 w0
  obtain ⟨a1l, a1h⟩ := bounds_i64 w1
  clear w0 w1
  go_enter Try.func6, Try.ntmps6
  go_wp2_with fail
  refine (anew_any _ _).mono ?_
  rintro e w1 ⟨rfl, h1, k1⟩
  have H1 := Lib.hid h1; have K1 := Lib.hid k1; clear h1 k1
  go_wp2_with fail
  refine (awakea_any _).mono ?_
  rintro e w2 ⟨rfl, k2⟩
  have h2 := H1.out.keep k2 (fun _ _ h => h)
  have H2 := Lib.hid h2; have K2 := Lib.hid ((K1.out.trans k2).below (Nat.le_refl _) (fun _ h => h.elim)); clear k2 h2 H1 K1
  obtain ⟨u, hu⟩ : ∃ u : Nat, IntKind.u64.wrap a1 = (u : Int) := ⟨(IntKind.u64.wrap a1).toNat, by rw [IntKind.wrap_u64]; omega⟩
  have HC : Hid (capN (4097 + (u : Int) % 100) = 4096) := Lib.hid (by unfold capN; rw [if_neg (by omega), if_neg (by omega)])
  go_upto_region 4 with fail
  go_cut [0] (fun s0 wx => s0 = .int .i64 (capN a0 : Nat) ∧ w2 = wx)
  case first =>
    rcases Int.lt_trichotomy a0 0 with h | h | h
    · have E : Hid (capN a0 = 0) := Lib.hid (if_pos h)
      go_wp2_with fail
      go_meet
      exact ⟨by rw [E.out]; rfl, rfl⟩
    · subst h
      go_wp2_with fail
      go_meet
      exact ⟨rfl, rfl⟩
    · rcases Int.lt_trichotomy a0 4096 with h' | h' | h'
      · have E : Hid ((capN a0 : Nat) = a0) := Lib.hid (by unfold capN; rw [if_neg (by omega), if_pos (by omega)]; omega)
        go_wp2_with fail
        go_meet
        exact ⟨by rw [E.out], rfl⟩
      · subst h'
        go_wp2_with fail
        go_meet
        exact ⟨rfl, rfl⟩
      · have E : Hid (capN a0 = 4096) := Lib.hid (by unfold capN; rw [if_neg (by omega), if_neg (by omega)])
        go_wp2_with fail
        go_meet
        exact ⟨by rw [E.out]; rfl, rfl⟩
  case rest =>
    obtain ⟨rfl, rfl⟩ := hcut
    have hn : capN a0 ≤ 4096 := (capN_ok a0).n
    generalize capN a0 = n0 at *
    by_cases hneg : a1 < 0
    · have E : Hid (St.freeE ⟨n0, [], []⟩ a1 = 1 ∧ St.freeS ⟨n0, [], []⟩ a1 = ⟨n0, [], []⟩) := Lib.hid ⟨if_pos (.inl hneg), if_pos (.inl hneg)⟩
      go_wp2_with (first
        | (go_at_call 12; (with_reducible refine (free_is _ E.out _ _ _ H2.out).mono ?_); rintro e w3 ⟨rfl, S3, h3, t3⟩; have H3 := Lib.hid h3; have T3 := Lib.hid t3; clear h3 t3)
        | (go_at_call 14; (with_reducible refine (has_is _ _ _ _ false (has_none _ _) _ H3.out).mono ?_); rintro e w' ⟨rfl, rfl⟩)
        | fail)
      refine (anew_is (k := 4096) HC.out _).mono ?_
      rintro e w4 ⟨rfl, h4, k4⟩
      have H4 := Lib.hid h4
      have K4 := Lib.hid ((K2.out.trans (T3.out.below (fun k e => by omega) K2.out.size)).trans (k4.below (Nat.le_trans K2.out.size T3.out.1.size) (fun _ h => h.elim)))
      have HG : Hid (w.heap.size ≤ w3.heap.size) := Lib.hid (Nat.le_trans K2.out.size T3.out.1.size)
      clear h4 k4 H3 T3 H2 K2 E HC
      go_wp2
      go_loopw [8] (fun i wr => ∃ (k : Nat) (S : Nat → Prop), k ≤ 4096 ∧ i = .int .i64 k ∧ ArenaAt 45 wr S w3.heap.size ⟨4096, List.replicate k true, []⟩ ∧ (∀ j, S j → w.heap.size ≤ j) ∧ Below w.heap.size w wr) (fun i _ => 4096 - (intOf i).toNat)
      case atStart => exact ⟨0, _, by omega, rfl, H4.out, fun j e => by rw [e]; exact HG.out, K4.out⟩
      case round =>
        obtain ⟨k, S, hk, rfl, har, hS, hbel⟩ := hrel
        have HA := Lib.hid har; have HS := Lib.hid hS; have HBEL := Lib.hid hbel; clear har hS hbel H4 K4
        by_cases hlt : k < 4096
        · have f1 : ((k : Int) != (k : Int)) = false := by simp
          go_wp2_with (go_at_call 10; (with_reducible refine (get_is (get_more hlt) _ _ _ HA.out).mono ?_); rintro e w5 ⟨rfl, S5, h5, t5⟩; have H5 := Lib.hid h5; have T5 := Lib.hid t5; clear h5 t5)
          go_roundw
          case rel => exact ⟨k + 1, S5, by omega, by go_num, H5.out, T5.out.mine HS.out HBEL.out.size, HBEL.out.trans (T5.out.below HS.out HBEL.out.size)⟩
          case measure => simp [intOf]; omega
        · obtain rfl : k = 4096 := by omega
          clear hk hlt
          go_wp2_with (first
            | (go_at_call 10; (with_reducible refine (get_is get_over _ _ _ HA.out).mono ?_); rintro e w5 ⟨rfl, S5, h5, t5⟩; have H5 := Lib.hid h5; have T5 := Lib.hid t5; clear h5 t5)
            | (go_at_call 16; (with_reducible refine (used_is used_over _ _ _ H5.out).mono ?_); rintro e w6 ⟨rfl, n6, hw6⟩; have HW6 := Lib.hid hw6; clear hw6))
          go_ret
          refine ⟨rfl, ?_⟩
          rw [HW6.out]
          exact HBEL.out.trans ((T5.out.1.drewN n6).below HBEL.out.size HS.out)
    · by_cases hbig : (n0 : Int) ≤ a1
      · have E : Hid (St.freeE ⟨n0, [], []⟩ a1 = 1 ∧ St.freeS ⟨n0, [], []⟩ a1 = ⟨n0, [], []⟩) := Lib.hid ⟨if_pos (.inr hbig), if_pos (.inr hbig)⟩
        go_wp2_with (first
          | (go_at_call 12; (with_reducible refine (free_is _ E.out _ _ _ H2.out).mono ?_); rintro e w3 ⟨rfl, S3, h3, t3⟩; have H3 := Lib.hid h3; have T3 := Lib.hid t3; clear h3 t3)
          | (go_at_call 14; (with_reducible refine (has_is _ _ _ _ false (has_none _ _) _ H3.out).mono ?_); rintro e w' ⟨rfl, rfl⟩)
          | fail)
        refine (anew_is (k := 4096) HC.out _).mono ?_
        rintro e w4 ⟨rfl, h4, k4⟩
        have H4 := Lib.hid h4
        have K4 := Lib.hid ((K2.out.trans (T3.out.below (fun k e => by omega) K2.out.size)).trans (k4.below (Nat.le_trans K2.out.size T3.out.1.size) (fun _ h => h.elim)))
        have HG : Hid (w.heap.size ≤ w3.heap.size) := Lib.hid (Nat.le_trans K2.out.size T3.out.1.size)
        clear h4 k4 H3 T3 H2 K2 E HC
        go_wp2
        go_loopw [8] (fun i wr => ∃ (k : Nat) (S : Nat → Prop), k ≤ 4096 ∧ i = .int .i64 k ∧ ArenaAt 45 wr S w3.heap.size ⟨4096, List.replicate k true, []⟩ ∧ (∀ j, S j → w.heap.size ≤ j) ∧ Below w.heap.size w wr) (fun i _ => 4096 - (intOf i).toNat)
        case atStart => exact ⟨0, _, by omega, rfl, H4.out, fun j e => by rw [e]; exact HG.out, K4.out⟩
        case round =>
          obtain ⟨k, S, hk, rfl, har, hS, hbel⟩ := hrel
          have HA := Lib.hid har; have HS := Lib.hid hS; have HBEL := Lib.hid hbel; clear har hS hbel H4 K4
          by_cases hlt : k < 4096
          · have f1 : ((k : Int) != (k : Int)) = false := by simp
            go_wp2_with (go_at_call 10; (with_reducible refine (get_is (get_more hlt) _ _ _ HA.out).mono ?_); rintro e w5 ⟨rfl, S5, h5, t5⟩; have H5 := Lib.hid h5; have T5 := Lib.hid t5; clear h5 t5)
            go_roundw
            case rel => exact ⟨k + 1, S5, by omega, by go_num, H5.out, T5.out.mine HS.out HBEL.out.size, HBEL.out.trans (T5.out.below HS.out HBEL.out.size)⟩
            case measure => simp [intOf]; omega
          · obtain rfl : k = 4096 := by omega
            clear hk hlt
            go_wp2_with (first
              | (go_at_call 10; (with_reducible refine (get_is get_over _ _ _ HA.out).mono ?_); rintro e w5 ⟨rfl, S5, h5, t5⟩; have H5 := Lib.hid h5; have T5 := Lib.hid t5; clear h5 t5)
              | (go_at_call 16; (with_reducible refine (used_is used_over _ _ _ H5.out).mono ?_); rintro e w6 ⟨rfl, n6, hw6⟩; have HW6 := Lib.hid hw6; clear hw6))
            go_ret
            refine ⟨rfl, ?_⟩
            rw [HW6.out]
            exact HBEL.out.trans ((T5.out.1.drewN n6).below HBEL.out.size HS.out)
      · have hor : ¬ (a1 < 0 ∨ (n0 : Int) ≤ a1) := by omega
        have E : Hid (St.freeE ⟨n0, [], []⟩ a1 = 7 ∧ St.freeS ⟨n0, [], []⟩ a1 = ⟨n0, [], []⟩) := Lib.hid ⟨by unfold St.freeE; rw [if_neg hor, has_none]; rfl, by unfold St.freeS; rw [if_neg hor, has_none]; rfl⟩
        clear hor
        go_wp2_with (first
          | (go_at_call 12; (with_reducible refine (free_is _ E.out _ _ _ H2.out).mono ?_); rintro e w3 ⟨rfl, S3, h3, t3⟩; have H3 := Lib.hid h3; have T3 := Lib.hid t3; clear h3 t3)
          | (go_at_call 14; (with_reducible refine (has_is _ _ _ _ false (has_none _ _) _ H3.out).mono ?_); rintro e w' ⟨rfl, rfl⟩)
          | fail)
        refine (anew_is (k := 4096) HC.out _).mono ?_
        rintro e w4 ⟨rfl, h4, k4⟩
        have H4 := Lib.hid h4
        have K4 := Lib.hid ((K2.out.trans (T3.out.below (fun k e => by omega) K2.out.size)).trans (k4.below (Nat.le_trans K2.out.size T3.out.1.size) (fun _ h => h.elim)))
        have HG : Hid (w.heap.size ≤ w3.heap.size) := Lib.hid (Nat.le_trans K2.out.size T3.out.1.size)
        clear h4 k4 H3 T3 H2 K2 E HC
        go_wp2
        go_loopw [8] (fun i wr => ∃ (k : Nat) (S : Nat → Prop), k ≤ 4096 ∧ i = .int .i64 k ∧ ArenaAt 45 wr S w3.heap.size ⟨4096, List.replicate k true, []⟩ ∧ (∀ j, S j → w.heap.size ≤ j) ∧ Below w.heap.size w wr) (fun i _ => 4096 - (intOf i).toNat)
        case atStart => exact ⟨0, _, by omega, rfl, H4.out, fun j e => by rw [e]; exact HG.out, K4.out⟩
        case round =>
          obtain ⟨k, S, hk, rfl, har, hS, hbel⟩ := hrel
          have HA := Lib.hid har; have HS := Lib.hid hS; have HBEL := Lib.hid hbel; clear har hS hbel H4 K4
          by_cases hlt : k < 4096
          · have f1 : ((k : Int) != (k : Int)) = false := by simp
            go_wp2_with (go_at_call 10; (with_reducible refine (get_is (get_more hlt) _ _ _ HA.out).mono ?_); rintro e w5 ⟨rfl, S5, h5, t5⟩; have H5 := Lib.hid h5; have T5 := Lib.hid t5; clear h5 t5)
            go_roundw
            case rel => exact ⟨k + 1, S5, by omega, by go_num, H5.out, T5.out.mine HS.out HBEL.out.size, HBEL.out.trans (T5.out.below HS.out HBEL.out.size)⟩
            case measure => simp [intOf]; omega
          · obtain rfl : k = 4096 := by omega
            clear hk hlt
            go_wp2_with (first
              | (go_at_call 10; (with_reducible refine (get_is get_over _ _ _ HA.out).mono ?_); rintro e w5 ⟨rfl, S5, h5, t5⟩; have H5 := Lib.hid h5; have T5 := Lib.hid t5; clear h5 t5)
              | (go_at_call 16; (with_reducible refine (used_is used_over _ _ _ H5.out).mono ?_); rintro e w6 ⟨rfl, n6, hw6⟩; have HW6 := Lib.hid hw6; clear hw6))
            go_ret
            refine ⟨rfl, ?_⟩
            rw [HW6.out]
            exact HBEL.out.trans ((T5.out.1.drewN n6).below HBEL.out.size HS.out)

set_option maxRecDepth 100000 in
theorem lifted (os : Os) (started : os.Started) (H : Type) (enc : TypeId × Value → H) :
    ReturnsInHanded {} Try.checked os 6 .any (Rows.arenaBoundsSpec.pre6 enc Try.prog Try.f6 Rows.arenaBoundsRow.domain false) (Rows.arenaBoundsSpec.post enc Try.prog Try.f6 false true false false) := by
  refine returnsInHanded_of_change (C := Try.checked) own started (by kernel_rfl) Try.func6
    (ChangeSpec.witness6 (enc := enc) (C := Try.checked) false ⟨#[], #[.int .i64 0, .int .i64 0], []⟩ 8 (by kernel_rfl) (by kernel_rfl) (by kernel_rfl) (by kernel_rfl)) ?_
  intro W base args ds gs before hval0 hW hcnd _
  have hval : ∀ (j : Nat) t v, Try.f6.params[j]? = some t → args[j]? = some v → Value.okWide Try.prog W .any base t v := hval0
  have hW' := hW
  obtain ⟨p, q, hA0, hV, rfl, hfz, hnd⟩ := hW
  have hA : DataW.TrodAll enc Try.prog W 0 (fun _ => true) true Try.f6.params.toList args.toList ds p := hA0
  rw [Try.params6] at hA hval
  obtain ⟨v0, vs0, d0, ds0, p0, q0, hargs, rfl, rfl, h0, r0⟩ := trodAll_cons hA
  obtain ⟨v1, vs1, d1, ds1, p1, q1, rfl, rfl, rfl, h1, r1⟩ := trodAll_cons r0
  obtain ⟨rfl, rfl, rfl⟩ := trodAll_nil r1
  obtain rfl : args = #[v0, v1] := by cases args; simp_all
  obtain ⟨rfl, rfl⟩ := trodVars_none hV
  obtain ⟨a0, rfl, rfl, rfl, w0⟩ := open_int Try.underlying3 (hval 0 3 v0 rfl rfl) h0
  obtain ⟨a1, rfl, rfl, rfl, w1⟩ := open_int Try.underlying3 (hval 1 3 v1 rfl rfl) h1
  clear hA0 hval0
  simp only [List.append_nil] at hW'
  refine (walk a0 a1 w0 w1 W).mono fun e W' ⟨he, hg⟩ => ?_
  subst he
  exact ⟨_, rfl, _, _, _, [], _, [], hW', trodAll_mk1 (shut_bool Try.underlying4 _), (trodAll_cons_mk (shut_int Try.underlying3 w0) (trodAll_cons_mk (shut_int Try.underlying3 w1) trodAll_mk0)), rfl, hg.frame _, fun h => by cases h⟩

theorem over : Rows.arenaBoundsRow.holds Try.pinned (OpenSpec.ofChange Rows.arenaBoundsSpec) :=
  OpenClaim.holds_of_wide 6 Try.f6 rfl rfl rfl rfl rfl rfl rfl ⟨rfl, rfl, rfl, rfl, rfl⟩ rfl rfl rfl rfl rfl (by kernel_rfl) Try.func6 (by kernel_rfl)
    (of_decide_eq_true (by kernel_rfl)) (by unfold Func.isWrapper; first | (rw [if_pos (by decide +kernel)]; kernel_rfl) | (rw [if_neg (by decide +kernel)]; exact ⟨rfl, rfl⟩))
    (fun os started H enc _ => lifted os started H enc)

theorem proved : Rows.ArenaBoundsSaid :=
  over
end Go.Proofs.Ytlhppmffbidjnaa.arenaBounds
namespace Go.Proofs.Ytlhppmffbidjnaa
theorem arenaBounds_holds : Rows.ArenaBoundsSaid := arenaBounds.proved
#print axioms arenaBounds_holds
end Go.Proofs.Ytlhppmffbidjnaa
