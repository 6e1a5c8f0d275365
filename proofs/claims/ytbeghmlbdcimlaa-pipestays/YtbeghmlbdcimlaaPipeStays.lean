/-
  Proved: canterlaw13.PipeStays answers true at every list of updates and every two numbers, and leaves its arguments as they were. Conditions: none.
-/
import Derived.Test.YtbeghmlbdcimlaaRows
import Derived.WalkKit
import Derived.ProofKit
import Derived.OpenShut
import Derived.ShutString
import Derived.Below
import Derived.Test.YtbeghmlbdcimlaaAwakeP
import Derived.Test.YtbeghmlbdcimlaaPipMore
import Derived.Test.YtbeghmlbdcimlaaOpenP
import Derived.Test.YtbeghmlbdcimlaaSched
import Derived.OwnWalk
namespace Go.Proofs.Ytbeghmlbdcimlaa.pipeStays
open Go.ChangeShapes Go.WideShapes Go.ChangeAt Go.RowKit
set_option linter.unusedVariables false

theorem own : ownKnob Try.prog.godebug = none := by kernel_rfl
theorem laidOut : laidOutB Try.prog = true := by kernel_rfl

theorem sub1 {a : Thing} {L : List Thing} : [a].Sublist (a :: L) := List.Sublist.cons_cons _ (List.nil_sublist _)

set_option maxHeartbeats 4000000 in
set_option maxRecDepth 100000 in
theorem walk (a0 : Option Addr) (cap0 : Nat) (z0 : List POp) (a1 : Int) (a2 : Int) (w : World) (c0 : z0.length ≤ 9223372036854775807) (r0 : RdL 3 cells3 w a0 z0) (w1 : (Lit.int .u64 a1).wf = true) (w2 : (Lit.int .i64 a2).wf = true) :
    Calls Try.prog 4 #[.slice a0 z0.length cap0, .int .u64 a1, .int .i64 a2] w fun e w' => e = .returned (.bool true) ∧ Below w.heap.size w w' := by
  have b1 := bounds_u64 w1
  clear w1 w2
  obtain ⟨u, hu⟩ : ∃ u : Nat, IntKind.u64.wrap a2 = (u : Int) := ⟨(IntKind.u64.wrap a2).toNat, by rw [IntKind.wrap_u64]; omega⟩
  obtain ⟨m, hm⟩ : ∃ m : Nat, (u : Int) % 40 = (m : Int) := ⟨u % 40, by omega⟩
  have hm1 : m < 40 := by omega
  have HR := Lib.hid r0
  clear r0
  go_enter Try.func4, Try.ntmps4
  go_wp2_with fail
  refine ((Room.begin w).pinew).mono ?_
  rintro e w1 ⟨rfl, r1⟩
  have R1 := Lib.hid r1; clear r1
  generalize w.heap.size = g at *
  go_wp2_with fail
  refine (R1.out.pinew).mono ?_
  rintro e w2 ⟨rfl, r2⟩
  have R2 := Lib.hid (r2.perm (List.Perm.swap _ _ _)); clear r2 R1
  generalize w1.heap.size = gq at *
  go_wp2_with fail
  refine R2.out.awakep.mono ?_
  rintro e w3 ⟨rfl, r3⟩
  have R3 := Lib.hid r3; clear r3 R2
  go_wp2
  go_loopg [9, 10] 60 (fun j s9 i wr => ∃ (k : Nat) (x : Pst) (F : Bool), k + j = 60 ∧ k ≤ z0.length ∧ i = .int .i64 k ∧ s9 = .bool F ∧ fullP x = F ∧ Room w wr [pipT g x, pipT gq x])
  case atStart => exact ⟨0, newP, false, by omega, Nat.zero_le _, rfl, rfl, rfl, R3.out⟩
  case round =>
    clear R3
    obtain ⟨k, x, F, hk60, hk1, rfl, rfl, hF, hRm⟩ := hrel
    have HM := Lib.hid hRm; clear hRm
    by_cases hlt : k < z0.length ∧ k < 60
    · obtain ⟨hl1, hl2⟩ := hlt
      obtain ⟨⟨st, lim, bw, hbw⟩, hjob⟩ : ∃ j, z0[k]? = some j := ⟨_, List.getElem?_eq_getElem hl1⟩
      obtain ⟨b, off, rfl, -⟩ := HR.out k _ hjob
      have HS : Hid (∀ W, Below w.heap.size w W → W.cell? ⟨b, off + k * 3, none⟩ = some (.bool st) ∧ W.cell? ⟨b, off + k * 3 + 1, none⟩ = some (.bool lim) ∧ W.cell? ⟨b, off + k * 3 + 2, none⟩ = some (.int .u64 bw)) := Lib.hid (fun W hbel => by
        obtain ⟨_, _, e, _, hc⟩ := HR.out.below hbel k _ hjob
        cases e
        exact ⟨hc 0 _ rfl, hc 1 _ rfl, hc 2 _ rfl⟩)
      have hi1 : (k : Int) < (z0.length : Int) := by omega
      have hi2 : (k : Int) < 60 := by omega
      have ND := Lib.hid hbw
      obtain ⟨y, hy⟩ : ∃ y, updP x st lim bw = y := ⟨_, rfl⟩
      obtain ⟨B, hB⟩ : ∃ B, fullP y = B := ⟨_, rfl⟩
      have HE : Hid (fullP y = B ∧ updP x st lim bw = y) := Lib.hid ⟨hB, hy⟩
      have HFB : Hid (F = true → B = true) := Lib.hid (fun e => by rw [← hB, ← hy, updP_full (hF.trans e), hF, e])
      clear hjob hB hy hbw hF hu hm b1 hm1
      go_upto_region 8 with fail
      refine wp_region_sch (fun W => W.cell? ⟨b, off + k * 3, none⟩ = some (.bool st) ∧ W.cell? ⟨b, off + k * 3 + 1, none⟩ = some (.bool lim) ∧ W.cell? ⟨b, off + k * 3 + 2, none⟩ = some (.int .u64 bw)) [(true, 0), (true, 1), (true, 2), (true, 3), (true, 4), (true, 5), (true, 6), (true, 7), (true, 8), (true, 9), (true, 10), (true, 11), (true, 12), (true, 13), (true, 14), (true, 15), (false, 16), (true, 17)] (by kernel_rfl) (by kernel_rfl) (by kernel_rfl) (by kernel_rfl) (HS.out _ HM.out.drew.bel) ?_
      (repeat (refine wpSch_yes (v := ?_) rfl (fun _ _ _ h => h) (by rfl) ?_ ?_; rotate_left; (next => (intro w hSw; (try dsimp only at hSw); obtain ⟨hS1, hS2, hS3⟩ := hSw; go_simp; (try with_reducible rfl))); (try simp only [Act.put, List.setIfInBounds_toArray, List.set_cons_zero, List.set_cons_succ])))
      refine wpSch_call rfl (by rfl) (fun K hK => ?_); go_simp
      refine (HM.out.drew.piupd HE.out ND.out).mono ?_
      rintro e w4 ⟨rfl, r4⟩
      have R4 := Lib.hid r4; clear r4 HM
      refine hK.out _ _ (HS.out _ R4.out.bel) (fun hHeld => ?_)
      clear hK K hHeld
      (try simp only [Act.put, List.setIfInBounds_toArray, List.set_cons_zero, List.set_cons_succ])
      (repeat (refine wpSch_yes (v := ?_) rfl (fun _ _ _ h => h) (by rfl) ?_ ?_; rotate_left; (next => (intro w hSw; (try dsimp only at hSw); obtain ⟨hS1, hS2, hS3⟩ := hSw; go_simp; (try with_reducible rfl))); (try simp only [Act.put, List.setIfInBounds_toArray, List.set_cons_zero, List.set_cons_succ])))
      refine wpSch_nil ?_
      obtain ⟨c0, c1, c2⟩ := HS.out _ R4.out.bel
      cases F with
      | true =>
        have hB := HFB.out rfl
        subst hB
        cases st with
        | false =>
          skip
          have HY : Hid (y = x) := Lib.hid (HE.out.2.symm.trans (updP_not rfl))
          go_wp2
          go_roundg (gk - 1)
          case measure => omega
          case rel => exact ⟨k + 1, y, _, by omega, by omega, by go_num, rfl, HE.out.1, by have := R4.out; rw [HY.out] at this ⊢; exact this⟩
        | true =>
          cases lim with
          | true =>
            skip
            have HY : Hid (y = x) := Lib.hid (HE.out.2.symm.trans (updP_not rfl))
            go_wp2
            go_roundg (gk - 1)
            case measure => omega
            case rel => exact ⟨k + 1, y, _, by omega, by omega, by go_num, rfl, HE.out.1, by have := R4.out; rw [HY.out] at this ⊢; exact this⟩
          | false =>
            skip
            go_wp2_with fail
            refine (R4.out.piupd1 HE.out ND.out).mono ?_
            rintro e w5 ⟨rfl, r5⟩
            have R5 := Lib.hid r5; clear r5 R4
            go_wp2
            go_roundg (gk - 1)
            case measure => omega
            case rel => exact ⟨k + 1, y, _, by omega, by omega, by go_num, rfl, HE.out.1, R5.out⟩
      | false =>
        cases B with
        | true =>
          skip
          cases st with
          | false =>
            skip
            have HY : Hid (y = x) := Lib.hid (HE.out.2.symm.trans (updP_not rfl))
            go_wp2
            go_roundg (gk - 1)
            case measure => omega
            case rel => exact ⟨k + 1, y, _, by omega, by omega, by go_num, rfl, HE.out.1, by have := R4.out; rw [HY.out] at this ⊢; exact this⟩
          | true =>
            cases lim with
            | true =>
              skip
              have HY : Hid (y = x) := Lib.hid (HE.out.2.symm.trans (updP_not rfl))
              go_wp2
              go_roundg (gk - 1)
              case measure => omega
              case rel => exact ⟨k + 1, y, _, by omega, by omega, by go_num, rfl, HE.out.1, by have := R4.out; rw [HY.out] at this ⊢; exact this⟩
            | false =>
              skip
              go_wp2_with fail
              refine (R4.out.piupd1 HE.out ND.out).mono ?_
              rintro e w5 ⟨rfl, r5⟩
              have R5 := Lib.hid r5; clear r5 R4
              go_wp2
              go_roundg (gk - 1)
              case measure => omega
              case rel => exact ⟨k + 1, y, _, by omega, by omega, by go_num, rfl, HE.out.1, R5.out⟩
        | false =>
          skip
          cases st with
          | false =>
            skip
            have HY : Hid (y = x) := Lib.hid (HE.out.2.symm.trans (updP_not rfl))
            go_wp2
            go_roundg (gk - 1)
            case measure => omega
            case rel => exact ⟨k + 1, y, _, by omega, by omega, by go_num, rfl, HE.out.1, by have := R4.out; rw [HY.out] at this ⊢; exact this⟩
          | true =>
            cases lim with
            | true =>
              skip
              have HY : Hid (y = x) := Lib.hid (HE.out.2.symm.trans (updP_not rfl))
              go_wp2
              go_roundg (gk - 1)
              case measure => omega
              case rel => exact ⟨k + 1, y, _, by omega, by omega, by go_num, rfl, HE.out.1, by have := R4.out; rw [HY.out] at this ⊢; exact this⟩
            | false =>
              skip
              go_wp2_with fail
              refine (R4.out.piupd1 HE.out ND.out).mono ?_
              rintro e w5 ⟨rfl, r5⟩
              have R5 := Lib.hid r5; clear r5 R4
              go_wp2
              go_roundg (gk - 1)
              case measure => omega
              case rel => exact ⟨k + 1, y, _, by omega, by omega, by go_num, rfl, HE.out.1, R5.out⟩
    · clear hF
      by_cases hl1 : k < z0.length
      · have hi1 : (k : Int) < (z0.length : Int) := by omega
        have hi2 : ¬ (k : Int) < 60 := by omega
        go_wp2_with fail
        refine (HM.out.pinew).mono ?_
        rintro e w4 ⟨rfl, r4⟩
        have R4 := Lib.hid (r4.less sub1); clear r4 HM
        generalize wr.heap.size = gg at *
        go_wp2
        obtain ⟨v0, hv⟩ : ∃ v : Int, 4 + a1 % 1000 = v := ⟨_, rfl⟩
        have hv0 : 4 ≤ v0 := by omega
        have hv1 : v0 ≤ 1003 := by omega
        rw [hv]
        have HG := Lib.hid (grw_new hv0 hv1)
        clear hv hv0 hv1
        go_loopg [13, 14] 40 (fun j s13 i wr => ∃ (q : Nat) (v : Int) (x : Pst), q + j = 40 ∧ q ≤ m ∧ i = .int .i64 q ∧ s13 = .int .u64 v ∧ Grw q v x ∧ Room w wr [pipT gg x])
        case atStart => exact ⟨0, _, _, by omega, Nat.zero_le _, rfl, rfl, HG.out, R4.out⟩
        case round =>
          clear R4 HG
          obtain ⟨q, v, x, hq40, hqm, rfl, rfl, hG, hRm⟩ := hrel
          have HM := Lib.hid hRm; clear hRm
          by_cases hlt : q < m
          · have hi1 : (q : Int) < (m : Int) := by omega
            have hv0 := hG.lo
            have hv1 := hG.top (by omega)
            have NV : Hid (Num v) := Lib.hid ⟨by omega, by omega⟩
            have HU := Lib.hid hG.upd
            have HG' := Lib.hid hG.next
            clear hG
            go_wp2_with fail
            refine (HM.out.piupd HU.out NV.out).mono ?_
            rintro e w5 ⟨rfl, r5⟩
            have R5 := Lib.hid r5; clear r5 HM
            go_wp2
            go_roundg (gk - 1)
            case measure => omega
            case rel => exact ⟨q + 1, _, _, by omega, by omega, by go_num, rfl, HG'.out, R5.out⟩
          · have hi1 : ¬ (q : Int) < (m : Int) := by omega
            clear hG
            go_wp2_with fail
            refine (pifull_nil _).mono ?_
            rintro e w5 ⟨rfl, rfl⟩
            go_wp2_with fail
            refine (piupd_nil _ _ _ _).mono ?_
            rintro e w5 ⟨rfl, rfl⟩
            go_wp2
            go_ret
            exact ⟨rfl, HM.out.bel⟩
      · have hi1 : ¬ (k : Int) < (z0.length : Int) := by omega
        go_wp2_with fail
        refine (HM.out.pinew).mono ?_
        rintro e w4 ⟨rfl, r4⟩
        have R4 := Lib.hid (r4.less sub1); clear r4 HM
        generalize wr.heap.size = gg at *
        go_wp2
        obtain ⟨v0, hv⟩ : ∃ v : Int, 4 + a1 % 1000 = v := ⟨_, rfl⟩
        have hv0 : 4 ≤ v0 := by omega
        have hv1 : v0 ≤ 1003 := by omega
        rw [hv]
        have HG := Lib.hid (grw_new hv0 hv1)
        clear hv hv0 hv1
        go_loopg [13, 14] 40 (fun j s13 i wr => ∃ (q : Nat) (v : Int) (x : Pst), q + j = 40 ∧ q ≤ m ∧ i = .int .i64 q ∧ s13 = .int .u64 v ∧ Grw q v x ∧ Room w wr [pipT gg x])
        case atStart => exact ⟨0, _, _, by omega, Nat.zero_le _, rfl, rfl, HG.out, R4.out⟩
        case round =>
          clear R4 HG
          obtain ⟨q, v, x, hq40, hqm, rfl, rfl, hG, hRm⟩ := hrel
          have HM := Lib.hid hRm; clear hRm
          by_cases hlt : q < m
          · have hi1 : (q : Int) < (m : Int) := by omega
            have hv0 := hG.lo
            have hv1 := hG.top (by omega)
            have NV : Hid (Num v) := Lib.hid ⟨by omega, by omega⟩
            have HU := Lib.hid hG.upd
            have HG' := Lib.hid hG.next
            clear hG
            go_wp2_with fail
            refine (HM.out.piupd HU.out NV.out).mono ?_
            rintro e w5 ⟨rfl, r5⟩
            have R5 := Lib.hid r5; clear r5 HM
            go_wp2
            go_roundg (gk - 1)
            case measure => omega
            case rel => exact ⟨q + 1, _, _, by omega, by omega, by go_num, rfl, HG'.out, R5.out⟩
          · have hi1 : ¬ (q : Int) < (m : Int) := by omega
            clear hG
            go_wp2_with fail
            refine (pifull_nil _).mono ?_
            rintro e w5 ⟨rfl, rfl⟩
            go_wp2_with fail
            refine (piupd_nil _ _ _ _).mono ?_
            rintro e w5 ⟨rfl, rfl⟩
            go_wp2
            go_ret
            exact ⟨rfl, HM.out.bel⟩

set_option maxRecDepth 100000 in
theorem lifted (os : Os) (started : os.Started) (H : Type) (enc : TypeId × Value → H) :
    ReturnsInHanded {} Try.checked os 4 .any (Rows.pipeStaysSpec.pre6 enc Try.prog Try.f4 Rows.pipeStaysRow.domain false) (Rows.pipeStaysSpec.post enc Try.prog Try.f4 false true false false) := by
  refine returnsInHanded_of_change (C := Try.checked) own started (by kernel_rfl) Try.func4
    (ChangeSpec.witness6 (enc := enc) (C := Try.checked) false ⟨#[], #[.slice none 0 0, .int .u64 0, .int .i64 0], []⟩ 8 (by kernel_rfl) (by kernel_rfl) (by kernel_rfl) (by kernel_rfl)) ?_
  intro W base args ds gs before hval0 hW hcnd _
  have hval : ∀ (j : Nat) t v, Try.f4.params[j]? = some t → args[j]? = some v → Value.okWide Try.prog W .any base t v := hval0
  have hW' := hW
  obtain ⟨p, q, hA0, hV, rfl, hfz, hnd⟩ := hW
  have hA : DataW.TrodAll enc Try.prog W 0 (fun _ => true) true Try.f4.params.toList args.toList ds p := hA0
  rw [Try.params4] at hA hval
  obtain ⟨v0, vs0, d0, ds0, p0, q0, hargs, rfl, rfl, h0, r0'⟩ := trodAll_cons hA
  obtain ⟨v1, vs1, d1, ds1, p1, q1, rfl, rfl, rfl, h1, r1'⟩ := trodAll_cons r0'
  obtain ⟨v2, vs2, d2, ds2, p2, q2, rfl, rfl, rfl, h2, r2'⟩ := trodAll_cons r1'
  obtain ⟨rfl, rfl, rfl⟩ := trodAll_nil r2'
  obtain rfl : args = #[v0, v1, v2] := by cases args; simp_all
  obtain ⟨rfl, rfl⟩ := trodVars_none hV
  obtain ⟨a0, len0, cap0, rfl⟩ := okWide_slice Try.underlying22 (hval 0 22 v0 rfl rfl)
  have k0 := h0
  have lt0 : ∀ x ∈ p0, x.block < W.heap.size := by obtain ⟨m, hm⟩ := k0; exact DataW.trod_lt m _ _ _ hm
  obtain ⟨z0, hz0, hc0, r0⟩ := open_pops h0
  subst hz0
  obtain ⟨a1, rfl, rfl, rfl, w1⟩ := open_int Try.underlying26 (hval 1 26 v1 rfl rfl) h1
  obtain ⟨a2, rfl, rfl, rfl, w2⟩ := open_int Try.underlying3 (hval 2 3 v2 rfl rfl) h2
  clear hA0 hval0
  refine (walk a0 cap0 z0 a1 a2 W hc0 r0 w1 w2).mono fun e W' ⟨he, bel⟩ => ?_
  subst he
  exact ⟨_, rfl, _, _, _, [], _, [], hW', trodAll_mk1 (shut_bool Try.underlying4 _), (trodAll_cons_mk (Below.trod laidOut (by kernel_rfl) (of_decide_eq_true (by kernel_rfl)) k0 bel lt0) (trodAll_cons_mk (shut_int Try.underlying26 w1) (trodAll_cons_mk (shut_int Try.underlying3 w2) trodAll_mk0))), rfl, bel.frame _, fun h => by cases h⟩

theorem over : Rows.pipeStaysRow.holds Try.pinned (OpenSpec.ofChange Rows.pipeStaysSpec) :=
  OpenClaim.holds_of_wide 4 Try.f4 rfl rfl rfl rfl rfl rfl rfl ⟨rfl, rfl, rfl, rfl, rfl⟩ rfl rfl rfl rfl rfl (by kernel_rfl) Try.func4 (by kernel_rfl)
    (of_decide_eq_true (by kernel_rfl)) (by unfold Func.isWrapper; first | (rw [if_pos (by decide +kernel)]; kernel_rfl) | (rw [if_neg (by decide +kernel)]; exact ⟨rfl, rfl⟩))
    (fun os started H enc _ => lifted os started H enc)

theorem proved : Rows.PipeStaysSaid := over
end Go.Proofs.Ytbeghmlbdcimlaa.pipeStays
namespace Go.Proofs.Ytbeghmlbdcimlaa
theorem pipeStays_holds : Rows.PipeStaysSaid := pipeStays.proved
#print axioms pipeStays_holds
end Go.Proofs.Ytbeghmlbdcimlaa
