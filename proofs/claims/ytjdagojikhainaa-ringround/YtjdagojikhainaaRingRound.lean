/-
  Proved: canterlaw06.RingRound answers true at every three numbers, and leaves its arguments as they were. Conditions: none.
-/
import Derived.Test.YtjdagojikhainaaRows
import Derived.WalkKit
import Derived.ProofKit
import Derived.OpenShut
import Derived.ShutString
import Derived.Test.YtjdagojikhainaaRingLaw
namespace Go.Proofs.Ytjdagojikhainaa.ringRound
open Go.ChangeShapes Go.WideShapes Go.ChangeAt Go.RowKit
open Go.ChangeMaps (open_string shut_string)
set_option linter.unusedVariables false

theorem own : ownKnob Try.prog.godebug = none := by kernel_rfl



set_option maxHeartbeats 4000000 in
set_option maxRecDepth 100000 in
theorem walk (a0 : Int) (a1 : Int) (a2 : Int) (w0 : (Lit.int .i64 a0).wf = true) (w1 : (Lit.int .i64 a1).wf = true) (w2 : (Lit.int .i64 a2).wf = true) (w : World) :
    Calls Try.prog 4 #[.int .i64 a0, .int .i64 a1, .int .i64 a2] w fun e w' => e = .returned (.bool true) ∧ Below w.heap.size w w' := by
  clear w0 w1 w2
  obtain ⟨u, hu⟩ : ∃ u : Nat, IntKind.u64.wrap a0 = (u : Int) := ⟨(IntKind.u64.wrap a0).toNat, by rw [IntKind.wrap_u64]; omega⟩
  obtain ⟨u', hu'⟩ : ∃ u : Nat, IntKind.u64.wrap a1 = (u : Int) := ⟨(IntKind.u64.wrap a1).toNat, by rw [IntKind.wrap_u64]; omega⟩
  obtain ⟨u'', hu''⟩ : ∃ u : Nat, IntKind.u64.wrap a2 = (u : Int) := ⟨(IntKind.u64.wrap a2).toNat, by rw [IntKind.wrap_u64]; omega⟩
  go_enter Try.func4, Try.ntmps4
  go_wp2_with fail
  obtain ⟨n, hn⟩ : ∃ n : Nat, 1 + (u : Int) % 20 = (n : Int) := ⟨1 + u % 20, by omega⟩
  obtain ⟨t, ht⟩ : ∃ t : Nat, (u' : Int) % 200 = (t : Int) := ⟨u' % 200, by omega⟩
  obtain ⟨s, hs⟩ : ∃ s : Nat, 1 + (u'' : Int) % 20 = (s : Int) := ⟨1 + u'' % 20, by omega⟩
  have hn1 : 1 ≤ n := by omega
  have hn20 : n ≤ 20 := by omega
  have ht199 : t ≤ 199 := by omega
  have hs1 : 1 ≤ s := by omega
  have hs20 : s ≤ 20 := by omega
  rw [hn, ht, hs]
  clear hn ht hs hu hu' hu''
  have HC : Hid (capN (n : Int) = n) := Lib.hid (by unfold capN; rw [if_neg (by omega), if_pos (by omega)]; simp)
  refine (rnew_is HC.out _).mono ?_
  rintro e w1 ⟨rfl, h1, k1⟩
  have H1 := Lib.hid h1; have K1 := Lib.hid k1; clear h1 k1 HC
  go_wp2_with fail
  refine (awaker_any _).mono ?_
  rintro e w3 ⟨rfl, k3⟩
  have H3 := Lib.hid (H1.out.kept k3); have K3 := Lib.hid ((K1.out.trans k3).below (Nat.le_refl _) (fun _ h => h.elim)); clear k3 H1 K1
  go_wp2
  go_loopw [8] (fun i wr => ∃ (k : Nat), k ≤ n ∧ i = .int .i64 k ∧ RingAt wr (w.heap.size + 1) w.heap.size n (seg 0 k) ∧ Below w.heap.size w wr) (fun i _ => n - (intOf i).toNat)
  case atStart => exact ⟨0, by omega, rfl, H3.out, K3.out⟩
  case round =>
    obtain ⟨k, hk, rfl, hA, hB⟩ := hrel
    have HA := Lib.hid hA; have HBEL := Lib.hid hB; clear hA hB H3 K3
    by_cases hlt : k < n
    · have hi1 : (k : Int) < (n : Int) := by omega
      go_wp2_with (go_at_call 10; (with_reducible refine (rpush_is (seg_push 0 hlt (by omega)) _ _ _ HA.out).mono ?_); rintro e w5 ⟨rfl, h5, k5⟩; have H5 := Lib.hid h5; have B5 := Lib.hid (HBEL.out.trans (k5.below HBEL.out.size (fun j h => by omega))); clear h5 k5)
      go_roundw
      case rel => exact ⟨k + 1, by omega, by go_num, H5.out, B5.out⟩
      case measure => simp [intOf]; omega
    · obtain rfl : n = k := by omega
      clear hk hlt
      go_wp2
      go_loopw [9] (fun i wr => ∃ (k : Nat), k ≤ t ∧ i = .int .i64 k ∧ RingAt wr (w.heap.size + 1) w.heap.size n (seg k n) ∧ Below w.heap.size w wr) (fun i _ => t - (intOf i).toNat)
      case atStart => exact ⟨0, by omega, rfl, HA.out, HBEL.out⟩
      case round =>
        obtain ⟨k, hk, rfl, hA, hB⟩ := hrel
        clear HA HBEL
        have HA := Lib.hid hA; have HBEL := Lib.hid hB; clear hA hB
        by_cases hlt : k < t
        · have hi1 : (k : Int) < (t : Int) := by omega
          have f1 : ((k : Int) != (k : Int)) = false := by simp
          go_wp2_with (first
            | (go_at_call 9; (with_reducible refine (rpop_is (seg_pop' k hn1) _ _ _ HA.out).mono ?_); rintro e w4 ⟨rfl, h4, k4⟩; have H4 := Lib.hid h4; have B4 := Lib.hid (HBEL.out.trans (k4.below HBEL.out.size (fun j h => by omega))); clear h4 k4)
            | (go_at_call 10; (with_reducible refine (rpush_is (seg_back k hn1) _ _ _ H4.out).mono ?_); rintro e w5 ⟨rfl, h5, k5⟩; have H5 := Lib.hid h5; have B5 := Lib.hid (B4.out.trans (k5.below B4.out.size (fun j h => by omega))); clear h5 k5))
          go_roundw
          case rel => exact ⟨k + 1, by omega, by go_num, H5.out, B5.out⟩
          case measure => simp [intOf]; omega
        · obtain rfl : t = k := by omega
          clear hk hlt
          have f1 : ((t : Int) == (t : Int)) = true := by simp
          have HI1 : Hid (∀ T, (idx T).getD 0 0 = 0) := Lib.hid getD_idx
          have HI2 : Hid (∀ T, 0 < T → ((seg t n).take T).getD 0 0 = t) := Lib.hid (fun T h => getD_seg t n T h hn1)
          rcases Nat.lt_trichotomy s n with h | h | h
          · have HT : Hid (toldN (seg t n) (s : Int) = s) := Lib.hid (by unfold toldN; simp; omega)
            have g1 : (s : Int) < (n : Int) := by omega
            have g2 : (0 : Int) < (s : Int) := by omega
            have f2 : ((s : Int) == (s : Int)) = true := by simp
            clear h
            go_wp2_with (first
              | (go_at_call 11; (with_reducible refine (pairs_is HT.out _ _ _ HA.out).mono ?_); rintro e w5 ⟨p1, c1, p2, c2, rfl, ⟨r1, n1⟩, ⟨r2, n2⟩, k5⟩; obtain ⟨b1, o1, rfl, _, x1⟩ := r1 0 (by simp; omega); obtain ⟨b2, o2, rfl, _, x2⟩ := r2 0 (by simp; omega); rw [HI1.out, Nat.add_zero] at x1; rw [HI2.out _ (by omega), Nat.add_zero] at x2; have q1 := n1 _ rfl; have q2 := n2 _ rfl; dsimp only at q1 q2; have hl5 := HA.out.lt; have A5 := Lib.hid (HA.out.kept k5); have B5 := Lib.hid (HBEL.out.trans (k5.below HBEL.out.size (fun _ h => h.elim))); have X1 := Lib.hid x1; have X2 := Lib.hid x2; clear r1 r2 n1 n2 k5 x1 x2 HA HBEL)
              | (go_at_call 9; (with_reducible refine (rpop_nil _).mono ?_); rintro e w' ⟨rfl, rfl⟩)
              | (go_at_call 10; (with_reducible refine (rpush_is (full_push _ _ (len_seg _ _)) _ _ _ A5.out).mono ?_); rintro e w6 ⟨rfl, h6, k6⟩; have B6 := Lib.hid (B5.out.trans (k6.below B5.out.size (fun j h => by omega))); have y1 : w6.cell? ⟨b1, o1, none⟩ = some (.int .i64 0) := (k6.cell (p := ⟨b1, o1, none⟩) (lt_of_cell X1.out) (fun h => by dsimp only at h; omega)).trans X1.out; have y2 : w6.cell? ⟨b2, o2, none⟩ = some (.int .i64 t) := (k6.cell (p := ⟨b2, o2, none⟩) (lt_of_cell X2.out) (fun h => by dsimp only at h; omega)).trans X2.out; clear h6 k6 A5 B5 X1 X2)
              | (go_at_call 10; (with_reducible refine (rpush_nil _ _).mono ?_); rintro e w' ⟨rfl, rfl⟩)
              | (go_at_call 12; (with_reducible refine (rlen_nil _).mono ?_); rintro e w' ⟨rfl, rfl⟩))
            go_ret
            exact ⟨rfl, B6.out⟩
          · subst h
            have HT : Hid (toldN (seg t s) (s : Int) = s) := Lib.hid (by unfold toldN; simp; omega)
            have g2 : (0 : Int) < (s : Int) := by omega
            have f2 : ((s : Int) == (s : Int)) = true := by simp
            go_wp2_with (first
              | (go_at_call 11; (with_reducible refine (pairs_is HT.out _ _ _ HA.out).mono ?_); rintro e w5 ⟨p1, c1, p2, c2, rfl, ⟨r1, n1⟩, ⟨r2, n2⟩, k5⟩; obtain ⟨b1, o1, rfl, _, x1⟩ := r1 0 (by simp; omega); obtain ⟨b2, o2, rfl, _, x2⟩ := r2 0 (by simp; omega); rw [HI1.out, Nat.add_zero] at x1; rw [HI2.out _ (by omega), Nat.add_zero] at x2; have q1 := n1 _ rfl; have q2 := n2 _ rfl; dsimp only at q1 q2; have hl5 := HA.out.lt; have A5 := Lib.hid (HA.out.kept k5); have B5 := Lib.hid (HBEL.out.trans (k5.below HBEL.out.size (fun _ h => h.elim))); have X1 := Lib.hid x1; have X2 := Lib.hid x2; clear r1 r2 n1 n2 k5 x1 x2 HA HBEL)
              | (go_at_call 9; (with_reducible refine (rpop_nil _).mono ?_); rintro e w' ⟨rfl, rfl⟩)
              | (go_at_call 10; (with_reducible refine (rpush_is (full_push _ _ (len_seg _ _)) _ _ _ A5.out).mono ?_); rintro e w6 ⟨rfl, h6, k6⟩; have B6 := Lib.hid (B5.out.trans (k6.below B5.out.size (fun j h => by omega))); have y1 : w6.cell? ⟨b1, o1, none⟩ = some (.int .i64 0) := (k6.cell (p := ⟨b1, o1, none⟩) (lt_of_cell X1.out) (fun h => by dsimp only at h; omega)).trans X1.out; have y2 : w6.cell? ⟨b2, o2, none⟩ = some (.int .i64 t) := (k6.cell (p := ⟨b2, o2, none⟩) (lt_of_cell X2.out) (fun h => by dsimp only at h; omega)).trans X2.out; clear h6 k6 A5 B5 X1 X2)
              | (go_at_call 10; (with_reducible refine (rpush_nil _ _).mono ?_); rintro e w' ⟨rfl, rfl⟩)
              | (go_at_call 12; (with_reducible refine (rlen_nil _).mono ?_); rintro e w' ⟨rfl, rfl⟩))
            go_ret
            exact ⟨rfl, B6.out⟩
          · have HT : Hid (toldN (seg t n) (s : Int) = n) := Lib.hid (by unfold toldN; simp; omega)
            have g1 : (n : Int) < (s : Int) := by omega
            have g2 : (0 : Int) < (n : Int) := by omega
            have f2 : ((n : Int) == (n : Int)) = true := by simp
            clear h
            go_wp2_with (first
              | (go_at_call 11; (with_reducible refine (pairs_is HT.out _ _ _ HA.out).mono ?_); rintro e w5 ⟨p1, c1, p2, c2, rfl, ⟨r1, n1⟩, ⟨r2, n2⟩, k5⟩; obtain ⟨b1, o1, rfl, _, x1⟩ := r1 0 (by simp; omega); obtain ⟨b2, o2, rfl, _, x2⟩ := r2 0 (by simp; omega); rw [HI1.out, Nat.add_zero] at x1; rw [HI2.out _ (by omega), Nat.add_zero] at x2; have q1 := n1 _ rfl; have q2 := n2 _ rfl; dsimp only at q1 q2; have hl5 := HA.out.lt; have A5 := Lib.hid (HA.out.kept k5); have B5 := Lib.hid (HBEL.out.trans (k5.below HBEL.out.size (fun _ h => h.elim))); have X1 := Lib.hid x1; have X2 := Lib.hid x2; clear r1 r2 n1 n2 k5 x1 x2 HA HBEL)
              | (go_at_call 9; (with_reducible refine (rpop_nil _).mono ?_); rintro e w' ⟨rfl, rfl⟩)
              | (go_at_call 10; (with_reducible refine (rpush_is (full_push _ _ (len_seg _ _)) _ _ _ A5.out).mono ?_); rintro e w6 ⟨rfl, h6, k6⟩; have B6 := Lib.hid (B5.out.trans (k6.below B5.out.size (fun j h => by omega))); have y1 : w6.cell? ⟨b1, o1, none⟩ = some (.int .i64 0) := (k6.cell (p := ⟨b1, o1, none⟩) (lt_of_cell X1.out) (fun h => by dsimp only at h; omega)).trans X1.out; have y2 : w6.cell? ⟨b2, o2, none⟩ = some (.int .i64 t) := (k6.cell (p := ⟨b2, o2, none⟩) (lt_of_cell X2.out) (fun h => by dsimp only at h; omega)).trans X2.out; clear h6 k6 A5 B5 X1 X2)
              | (go_at_call 10; (with_reducible refine (rpush_nil _ _).mono ?_); rintro e w' ⟨rfl, rfl⟩)
              | (go_at_call 12; (with_reducible refine (rlen_nil _).mono ?_); rintro e w' ⟨rfl, rfl⟩))
            go_ret
            exact ⟨rfl, B6.out⟩

set_option maxRecDepth 100000 in
theorem lifted (os : Os) (started : os.Started) (H : Type) (enc : TypeId × Value → H) :
    ReturnsInHanded {} Try.checked os 4 .any (Rows.ringRoundSpec.pre6 enc Try.prog Try.f4 Rows.ringRoundRow.domain false) (Rows.ringRoundSpec.post enc Try.prog Try.f4 false true false false) := by
  refine returnsInHanded_of_change (C := Try.checked) own started (by kernel_rfl) Try.func4
    (ChangeSpec.witness6 (enc := enc) (C := Try.checked) false ⟨#[], #[.int .i64 0, .int .i64 0, .int .i64 0], []⟩ 8 (by kernel_rfl) (by kernel_rfl) (by kernel_rfl) (by kernel_rfl)) ?_
  intro W base args ds gs before hval0 hW hcnd _
  have hval : ∀ (j : Nat) t v, Try.f4.params[j]? = some t → args[j]? = some v → Value.okWide Try.prog W .any base t v := hval0
  have hW' := hW
  obtain ⟨p, q, hA0, hV, rfl, hfz, hnd⟩ := hW
  have hA : DataW.TrodAll enc Try.prog W 0 (fun _ => true) true Try.f4.params.toList args.toList ds p := hA0
  rw [Try.params4] at hA hval
  obtain ⟨v0, vs0, d0, ds0, p0, q0, hargs, rfl, rfl, h0, r0⟩ := trodAll_cons hA
  obtain ⟨v1, vs1, d1, ds1, p1, q1, rfl, rfl, rfl, h1, r1⟩ := trodAll_cons r0
  obtain ⟨v2, vs2, d2, ds2, p2, q2, rfl, rfl, rfl, h2, r2⟩ := trodAll_cons r1
  obtain ⟨rfl, rfl, rfl⟩ := trodAll_nil r2
  obtain rfl : args = #[v0, v1, v2] := by cases args; simp_all
  obtain ⟨rfl, rfl⟩ := trodVars_none hV
  obtain ⟨a0, rfl, rfl, rfl, w0⟩ := open_int Try.underlying3 (hval 0 3 v0 rfl rfl) h0
  obtain ⟨a1, rfl, rfl, rfl, w1⟩ := open_int Try.underlying3 (hval 1 3 v1 rfl rfl) h1
  obtain ⟨a2, rfl, rfl, rfl, w2⟩ := open_int Try.underlying3 (hval 2 3 v2 rfl rfl) h2
  clear hA0 hval0
  simp only [List.append_nil] at hW'
  refine (walk a0 a1 a2 w0 w1 w2 W).mono fun e W' ⟨he, hg⟩ => ?_
  subst he
  exact ⟨_, rfl, _, _, _, [], _, [], hW', trodAll_mk1 (shut_bool Try.underlying4 _), (trodAll_cons_mk (shut_int Try.underlying3 w0) (trodAll_cons_mk (shut_int Try.underlying3 w1) (trodAll_cons_mk (shut_int Try.underlying3 w2) trodAll_mk0))), rfl, hg.frame _, fun h => by cases h⟩

theorem over : Rows.ringRoundRow.holds Try.pinned (OpenSpec.ofChange Rows.ringRoundSpec) :=
  OpenClaim.holds_of_wide 4 Try.f4 rfl rfl rfl rfl rfl rfl rfl ⟨rfl, rfl, rfl, rfl, rfl⟩ rfl rfl rfl rfl rfl (by kernel_rfl) Try.func4 (by kernel_rfl)
    (of_decide_eq_true (by kernel_rfl)) (by unfold Func.isWrapper; first | (rw [if_pos (by decide +kernel)]; kernel_rfl) | (rw [if_neg (by decide +kernel)]; exact ⟨rfl, rfl⟩))
    (fun os started H enc _ => lifted os started H enc)

theorem proved : Rows.RingRoundSaid :=
  over
end Go.Proofs.Ytjdagojikhainaa.ringRound
namespace Go.Proofs.Ytjdagojikhainaa
theorem ringRound_holds : Rows.RingRoundSaid := ringRound.proved
#print axioms ringRound_holds
end Go.Proofs.Ytjdagojikhainaa
