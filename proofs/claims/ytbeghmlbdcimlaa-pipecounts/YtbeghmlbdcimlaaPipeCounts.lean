/-
  Proved: canterlaw13.PipeCounts answers true at every number and every list of bools, and leaves its arguments as they were. Conditions: none.
-/
import Derived.Test.YtbeghmlbdcimlaaRows
import Derived.WalkKit
import Derived.ProofKit
import Derived.OpenShut
import Derived.ShutString
import Derived.Below
import Derived.Test.YtbeghmlbdcimlaaAwakeP
import Derived.Test.YtbeghmlbdcimlaaPipMore
import Derived.Test.YtbeghmlbdcimlaaOpenP
import Derived.OwnWalk
namespace Go.Proofs.Ytbeghmlbdcimlaa.pipeCounts
open Go.ChangeShapes Go.WideShapes Go.ChangeAt Go.RowKit
set_option linter.unusedVariables false

theorem own : ownKnob Try.prog.godebug = none := by kernel_rfl
theorem laidOut : laidOutB Try.prog = true := by kernel_rfl


set_option maxHeartbeats 4000000 in
set_option maxRecDepth 100000 in
theorem walk (a0 : Int) (a1 : Option Addr) (cap1 : Nat) (z1 : List Bool) (w : World) (w0 : (Lit.int .u64 a0).wf = true) (c1 : z1.length ≤ 9223372036854775807) (r1 : RdL 1 cellsB w a1 z1) :
    Calls Try.prog 5 #[.int .u64 a0, .slice a1 z1.length cap1] w fun e w' => e = .returned (.bool true) ∧ Below w.heap.size w w' := by
  have b0 := bounds_u64 w0
  clear w0
  have HR := Lib.hid r1
  clear r1
  go_enter Try.func5, Try.ntmps5
  go_wp2_with fail
  refine ((Room.begin w).pinew).mono ?_
  rintro e w1 ⟨rfl, r1⟩
  have R1 := Lib.hid r1; clear r1
  generalize w.heap.size = g at *
  go_wp2_with fail
  refine R1.out.awakep.mono ?_
  rintro e w3 ⟨rfl, r3⟩
  have R3 := Lib.hid r3; clear r3 R1
  go_wp2_with fail
  obtain ⟨v, hv⟩ : ∃ v : Int, 100 + a0 % 1000 = v := ⟨_, rfl⟩
  have hv0 : 100 ≤ v := by omega
  have hv1 : v ≤ 1099 := by omega
  rw [hv]
  have NV : Hid (Num v) := Lib.hid ⟨by omega, by omega⟩
  have HU := Lib.hid (cnt_first (v := v) (by omega))
  have HC := Lib.hid (cnt_new hv0 hv1)
  clear hv hv0 hv1 b0
  refine (R3.out.piupd HU.out NV.out).mono ?_
  rintro e w4 ⟨rfl, r4⟩
  have R4 := Lib.hid r4; clear r4 R3 HU NV
  go_wp2
  go_loopg [6, 7, 8, 9] 40 (fun j s6 s7 s8 i wr => ∃ (k : Nat) (v n : Int) (F : Bool) (x : Pst), k + j = 40 ∧ k ≤ z1.length ∧ i = .int .i64 k ∧ s6 = .int .u64 v ∧ s7 = .int .i64 n ∧ s8 = .bool F ∧ Cnt k v n F x ∧ Room w wr [pipT g x])
  case atStart => exact ⟨0, _, _, _, _, by omega, Nat.zero_le _, rfl, rfl, rfl, rfl, HC.out, R4.out⟩
  case round =>
    clear R4 HC
    obtain ⟨k, v, n, F, x, hk40, hk1, rfl, rfl, rfl, rfl, hC, hRm⟩ := hrel
    have HM := Lib.hid hRm; clear hRm
    have HC := Lib.hid hC
    by_cases hlt : k < z1.length ∧ k < 40
    · obtain ⟨hl1, hl2⟩ := hlt
      obtain ⟨gr, hjob⟩ : ∃ j, z1[k]? = some j := ⟨_, List.getElem?_eq_getElem hl1⟩
      obtain ⟨b, off, rfl, -, hc⟩ := HR.out.below HM.out.bel k _ hjob
      have c0 : wr.cell? ⟨b, off + k, none⟩ = some (.bool gr) := by simpa using hc 0 _ rfl
      have hi1 : (k : Int) < (z1.length : Int) := by omega
      have hi2 : (k : Int) < 40 := by omega
      have hv0 := hC.lo
      have hv1 := hC.top (by omega)
      have hn0 := hC.n0
      have hn1 : n ≤ 40 := by have := hC.nk; omega
      clear hc hjob
      cases gr with
      | true =>
        have NV : Hid (Num (v + v / 2)) := Lib.hid ⟨by omega, by omega⟩
        cases F with
        | false =>
          have HU := Lib.hid hC.grows.1
          have HC' := Lib.hid hC.grows.2
          clear hC HC
          go_wp2_with fail
          refine (HM.out.piupd HU.out NV.out).mono ?_
          rintro e w4 ⟨rfl, r4⟩
          have R4 := Lib.hid r4; clear r4 HM
          go_wp2
          go_roundg (gk - 1)
          case measure => omega
          case rel => exact ⟨k + 1, _, _, _, _, by omega, by omega, by go_num, rfl, rfl, rfl, HC'.out, R4.out⟩
        | true =>
          have HU := Lib.hid hC.growsFull.1
          have HC' := Lib.hid hC.growsFull.2
          clear hC HC
          go_wp2_with fail
          refine (HM.out.piupd HU.out NV.out).mono ?_
          rintro e w4 ⟨rfl, r4⟩
          have R4 := Lib.hid r4; clear r4 HM
          go_wp2
          go_roundg (gk - 1)
          case measure => omega
          case rel => exact ⟨k + 1, _, _, _, _, by omega, by omega, by go_num, rfl, rfl, rfl, HC'.out, R4.out⟩
      | false =>
        have NV : Hid (Num v) := Lib.hid ⟨by omega, by omega⟩
        cases F with
        | false =>
          have HU := Lib.hid (hC.stays (by omega)).1
          have HC' := Lib.hid (hC.stays (by omega)).2
          clear hC HC
          by_cases hn : 3 ≤ n + 1
          · have hd : decide (3 ≤ n + 1) = true := by simp [hn]
            rw [hd] at HU HC'
            go_wp2_with fail
            refine (HM.out.piupd HU.out NV.out).mono ?_
            rintro e w4 ⟨rfl, r4⟩
            have R4 := Lib.hid r4; clear r4 HM
            go_wp2
            go_roundg (gk - 1)
            case measure => omega
            case rel => exact ⟨k + 1, _, _, _, _, by omega, by omega, by go_num, rfl, rfl, rfl, HC'.out, R4.out⟩
          · have hd : decide (3 ≤ n + 1) = false := by simp [hn]
            rw [hd] at HU HC'
            go_wp2_with fail
            refine (HM.out.piupd HU.out NV.out).mono ?_
            rintro e w4 ⟨rfl, r4⟩
            have R4 := Lib.hid r4; clear r4 HM
            go_wp2
            go_roundg (gk - 1)
            case measure => omega
            case rel => exact ⟨k + 1, _, _, _, _, by omega, by omega, by go_num, rfl, rfl, rfl, HC'.out, R4.out⟩
        | true =>
          have HU := Lib.hid hC.staysFull.1
          have HC' := Lib.hid hC.staysFull.2
          clear hC HC
          go_wp2_with fail
          refine (HM.out.piupd HU.out NV.out).mono ?_
          rintro e w4 ⟨rfl, r4⟩
          have R4 := Lib.hid r4; clear r4 HM
          go_wp2
          go_roundg (gk - 1)
          case measure => omega
          case rel => exact ⟨k + 1, _, _, _, _, by omega, by omega, by go_num, rfl, rfl, rfl, HC'.out, R4.out⟩
    · clear hC
      by_cases hl1 : k < z1.length
      · have hi1 : (k : Int) < (z1.length : Int) := by omega
        have hi2 : ¬ (k : Int) < 40 := by omega
        go_wp2_with fail
        refine (HM.out.pifull HC.out.full).mono ?_
        rintro e w4 ⟨rfl, rfl⟩
        have hFF : (F == F) = true := by simp
        go_wp2
        go_ret
        exact ⟨rfl, HM.out.bel⟩
      · have hi1 : ¬ (k : Int) < (z1.length : Int) := by omega
        go_wp2_with fail
        refine (HM.out.pifull HC.out.full).mono ?_
        rintro e w4 ⟨rfl, rfl⟩
        have hFF : (F == F) = true := by simp
        go_wp2
        go_ret
        exact ⟨rfl, HM.out.bel⟩

set_option maxRecDepth 100000 in
theorem lifted (os : Os) (started : os.Started) (H : Type) (enc : TypeId × Value → H) :
    ReturnsInHanded {} Try.checked os 5 .any (Rows.pipeCountsSpec.pre6 enc Try.prog Try.f5 Rows.pipeCountsRow.domain false) (Rows.pipeCountsSpec.post enc Try.prog Try.f5 false true false false) := by
  refine returnsInHanded_of_change (C := Try.checked) own started (by kernel_rfl) Try.func5
    (ChangeSpec.witness6 (enc := enc) (C := Try.checked) false ⟨#[], #[.int .u64 0, .slice none 0 0], []⟩ 8 (by kernel_rfl) (by kernel_rfl) (by kernel_rfl) (by kernel_rfl)) ?_
  intro W base args ds gs before hval0 hW hcnd _
  have hval : ∀ (j : Nat) t v, Try.f5.params[j]? = some t → args[j]? = some v → Value.okWide Try.prog W .any base t v := hval0
  have hW' := hW
  obtain ⟨p, q, hA0, hV, rfl, hfz, hnd⟩ := hW
  have hA : DataW.TrodAll enc Try.prog W 0 (fun _ => true) true Try.f5.params.toList args.toList ds p := hA0
  rw [Try.params5] at hA hval
  obtain ⟨v0, vs0, d0, ds0, p0, q0, hargs, rfl, rfl, h0, r0'⟩ := trodAll_cons hA
  obtain ⟨v1, vs1, d1, ds1, p1, q1, rfl, rfl, rfl, h1, r1'⟩ := trodAll_cons r0'
  obtain ⟨rfl, rfl, rfl⟩ := trodAll_nil r1'
  obtain rfl : args = #[v0, v1] := by cases args; simp_all
  obtain ⟨rfl, rfl⟩ := trodVars_none hV
  obtain ⟨a0, rfl, rfl, rfl, w0⟩ := open_int Try.underlying26 (hval 0 26 v0 rfl rfl) h0
  obtain ⟨a1, len1, cap1, rfl⟩ := okWide_slice Try.underlying36 (hval 1 36 v1 rfl rfl)
  have k1 := h1
  have lt1 : ∀ x ∈ p1, x.block < W.heap.size := by obtain ⟨m, hm⟩ := k1; exact DataW.trod_lt m _ _ _ hm
  obtain ⟨z1, hz1, hc1, r1⟩ := open_bits h1
  subst hz1
  clear hA0 hval0
  refine (walk a0 a1 cap1 z1 W w0 hc1 r1).mono fun e W' ⟨he, bel⟩ => ?_
  subst he
  exact ⟨_, rfl, _, _, _, [], _, [], hW', trodAll_mk1 (shut_bool Try.underlying4 _), (trodAll_cons_mk (shut_int Try.underlying26 w0) (trodAll_cons_mk (Below.trod laidOut (by kernel_rfl) (of_decide_eq_true (by kernel_rfl)) k1 bel lt1) trodAll_mk0)), rfl, bel.frame _, fun h => by cases h⟩

theorem over : Rows.pipeCountsRow.holds Try.pinned (OpenSpec.ofChange Rows.pipeCountsSpec) :=
  OpenClaim.holds_of_wide 5 Try.f5 rfl rfl rfl rfl rfl rfl rfl ⟨rfl, rfl, rfl, rfl, rfl⟩ rfl rfl rfl rfl rfl (by kernel_rfl) Try.func5 (by kernel_rfl)
    (of_decide_eq_true (by kernel_rfl)) (by unfold Func.isWrapper; first | (rw [if_pos (by decide +kernel)]; kernel_rfl) | (rw [if_neg (by decide +kernel)]; exact ⟨rfl, rfl⟩))
    (fun os started H enc _ => lifted os started H enc)

theorem proved : Rows.PipeCountsSaid := over
end Go.Proofs.Ytbeghmlbdcimlaa.pipeCounts
namespace Go.Proofs.Ytbeghmlbdcimlaa
theorem pipeCounts_holds : Rows.PipeCountsSaid := pipeCounts.proved
#print axioms pipeCounts_holds
end Go.Proofs.Ytbeghmlbdcimlaa
