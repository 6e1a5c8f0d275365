/-
  Proved: canterlaw13.PipeTells answers true at every list of updates, and leaves its argument as it was. Conditions: none.
-/
import Derived.Test.YtbeghmlbdcimlaaRows
import Derived.WalkKit
import Derived.ProofKit
import Derived.OpenShut
import Derived.ShutString
import Derived.Below
import Derived.Test.YtbeghmlbdcimlaaRefPip
import Derived.Test.YtbeghmlbdcimlaaOpenP
import Derived.Test.YtbeghmlbdcimlaaSchedP
import Derived.OwnWalk
namespace Go.Proofs.Ytbeghmlbdcimlaa.pipeTells
open Go.ChangeShapes Go.WideShapes Go.ChangeAt Go.RowKit
set_option linter.unusedVariables false

theorem own : ownKnob Try.prog.godebug = none := by kernel_rfl
theorem laidOut : laidOutB Try.prog = true := by kernel_rfl


set_option maxHeartbeats 4000000 in
set_option maxRecDepth 100000 in
theorem walk (a0 : Option Addr) (cap0 : Nat) (z0 : List POp) (w : World) (c0 : z0.length ≤ 9223372036854775807) (r0 : RdL 3 cells3 w a0 z0) :
    Calls Try.prog 3 #[.slice a0 z0.length cap0] w fun e w' => e = .returned (.bool true) ∧ Below w.heap.size w w' := by
  have HR := Lib.hid r0
  clear r0
  go_enter Try.func3, Try.ntmps3
  go_wp2_with fail
  refine ((Room.begin w).pinew).mono ?_
  rintro e w1 ⟨rfl, r1⟩
  have R1 := Lib.hid ((r1.add (t := rpipT w1.heap.size newP) (w' := w1.alloc (.cells #[.int .u64 0, .int .i64 0, .bool false] 28)) ⟨Whole.new w1 28 _, fit_newP⟩ ((Keep.refl _ _).alloc _) (fun k e => by subst e; exact Nat.le_refl _)).perm (List.Perm.swap _ _ _)); clear r1
  generalize w.heap.size = g at *
  go_wp2_with fail
  generalize hw : World.alloc w1 _ = w2 at *
  generalize w1.heap.size = gr at *
  clear hw
  refine R1.out.awakep.mono ?_
  rintro e w3 ⟨rfl, r3⟩
  have R3 := Lib.hid r3; clear r3 R1
  go_wp2
  go_loopg [5] 100 (fun j i wr => ∃ (k : Nat) (x : Pst), k + j = 100 ∧ k ≤ z0.length ∧ i = .int .i64 k ∧ Room w wr [pipT g x, rpipT gr x])
  case atStart => exact ⟨0, _, by omega, Nat.zero_le _, rfl, R3.out⟩
  case round =>
    obtain ⟨k, x, hk100, hk1, rfl, hRm⟩ := hrel
    have HM := Lib.hid hRm; clear hRm R3
    by_cases hlt : k < z0.length ∧ k < 100
    · obtain ⟨hl1, hl2⟩ := hlt
      obtain ⟨⟨st, lim, bw, hbw⟩, hjob⟩ : ∃ j, z0[k]? = some j := ⟨_, List.getElem?_eq_getElem hl1⟩
      obtain ⟨b, off, rfl, -⟩ := HR.out k _ hjob
      have HS : Hid (∀ W, Room w W [pipT g x, rpipT gr x] ∨ (∃ x', Room w W [pipT g x', rpipT gr x]) → W.cell? ⟨b, off + k * 3, none⟩ = some (.bool st) ∧ W.cell? ⟨b, off + k * 3 + 1, none⟩ = some (.bool lim) ∧ W.cell? ⟨b, off + k * 3 + 2, none⟩ = some (.int .u64 bw)) := Lib.hid (fun W hW => by
        have hbel : Below w.heap.size w W := by
          rcases hW with h | ⟨_, h⟩
          · exact h.bel
          · exact h.bel
        obtain ⟨_, _, e, _, hc⟩ := HR.out.below hbel k _ hjob
        cases e
        exact ⟨hc 0 _ rfl, hc 1 _ rfl, hc 2 _ rfl⟩)
      have hi1 : (k : Int) < (z0.length : Int) := by omega
      have hi2 : (k : Int) < 100 := by omega
      have ND := Lib.hid hbw
      obtain ⟨y, hy⟩ : ∃ y, updP x st lim bw = y := ⟨_, rfl⟩
      obtain ⟨B, hB⟩ : ∃ B, fullP y = B := ⟨_, rfl⟩
      have HE : Hid (fullP y = B ∧ updP x st lim bw = y) := Lib.hid ⟨hB, hy⟩
      clear hjob hB hy HR hbw
      go_upto_region 7 with fail
      refine wp_region_parts [([(true, 0), (true, 1), (true, 2), (true, 3), (true, 4), (true, 5), (true, 6), (true, 7), (true, 8), (true, 9), (true, 10), (true, 11), (true, 12), (true, 13), (true, 14), (true, 15), (true, 17), (true, 18), (true, 19), (true, 20), (true, 21), (true, 22), (true, 23), (true, 24), (true, 25), (true, 26), (true, 27), (true, 28), (true, 29), (true, 30), (true, 31), (true, 32), (false, 16)], 33)] [(true, 34), (true, 35), (true, 36), (true, 38), (true, 39), (true, 40), (true, 41), (false, 37), (true, 42), (true, 43)] (by kernel_rfl) (by kernel_rfl) (by kernel_rfl) (by kernel_rfl) ?_
      refine wpParts_part (fun W => W.cell? ⟨b, off + k * 3, none⟩ = some (.bool st) ∧ W.cell? ⟨b, off + k * 3 + 1, none⟩ = some (.bool lim) ∧ W.cell? ⟨b, off + k * 3 + 2, none⟩ = some (.int .u64 bw)) (HS.out _ (.inl HM.out.drew)) ?_
      (repeat (refine wpPart_yes (v := ?_) rfl (fun _ _ _ h => h) (by rfl) ?_ ?_; rotate_left; (next => (intro w hSw; (try dsimp only at hSw); obtain ⟨hS1, hS2, hS3⟩ := hSw; go_simp; (try with_reducible rfl))); (try simp only [Act.put, List.setIfInBounds_toArray, List.set_cons_zero, List.set_cons_succ])))
      refine wpPart_call rfl (by rfl) (fun K hK => ?_); go_simp
      refine (HM.out.drew.piupd HE.out ND.out).mono ?_
      rintro e w4 ⟨rfl, r4⟩
      have R4 := Lib.hid r4; clear r4 HM
      refine hK.out _ _ (HS.out _ (.inr ⟨_, R4.out⟩)) (fun hHeld => ?_)
      clear hK K hHeld
      (try simp only [Act.put, List.setIfInBounds_toArray, List.set_cons_zero, List.set_cons_succ])
      refine wpPart_turn rfl (by rfl) (fun K hK => ?_); go_simp
      refine (R4.out.rpiupd HE.out ND.out).mono ?_
      rintro e w5 ⟨rfl, r5⟩
      have R5 := Lib.hid r5; clear r5 R4 HS
      refine hK.out _ _ ?_
      clear hK K
      (try simp only [Act.put, List.setIfInBounds_toArray, List.set_cons_zero, List.set_cons_succ])
      have hBB : (B != B) = false := by simp
      have hcc : w5.cell? ⟨gr, 2, none⟩ = some (.bool B) := HE.out.1 ▸ R5.out.get1.whole.cell 2
      have HCC := Lib.hid hcc
      clear hcc
      refine wpParts_last (fun W => W.cell? ⟨gr, 2, none⟩ = some (.bool B)) HCC.out ?_
      (repeat (refine wpSch_yes (v := ?_) rfl (fun _ _ _ h => h) (by rfl) ?_ ?_; rotate_left; (next => (intro w hSw; (try dsimp only at hSw); go_simp; (try with_reducible rfl))); (try simp only [Act.put, List.setIfInBounds_toArray, List.set_cons_zero, List.set_cons_succ])))
      refine wpSch_call rfl (by rfl) (fun K hK => ?_); go_simp
      refine (R5.out.pifull HE.out.1).mono ?_
      rintro e w' ⟨rfl, rfl⟩
      refine hK.out _ _ HCC.out (fun hHeld => ?_)
      clear hK K hHeld
      (try simp only [Act.put, List.setIfInBounds_toArray, List.set_cons_zero, List.set_cons_succ])
      (repeat (refine wpSch_yes (v := ?_) rfl (fun _ _ _ h => h) (by rfl) ?_ ?_; rotate_left; (next => (intro w hSw; (try dsimp only at hSw); go_simp; (try with_reducible rfl))); (try simp only [Act.put, List.setIfInBounds_toArray, List.set_cons_zero, List.set_cons_succ])))
      refine wpSch_nil ?_
      go_wp2
      go_roundg (gk - 1)
      case measure => omega
      case rel => exact ⟨k + 1, y, by omega, by omega, by go_num, R5.out⟩
    · by_cases hl1 : k < z0.length
      · have hi1 : (k : Int) < (z0.length : Int) := by omega
        have hi2 : ¬ (k : Int) < 100 := by omega
        go_wp2
        go_ret
        exact ⟨rfl, HM.out.bel⟩
      · have hi1 : ¬ (k : Int) < (z0.length : Int) := by omega
        go_wp2
        go_ret
        exact ⟨rfl, HM.out.bel⟩

set_option maxRecDepth 100000 in
theorem lifted (os : Os) (started : os.Started) (H : Type) (enc : TypeId × Value → H) :
    ReturnsInHanded {} Try.checked os 3 .any (Rows.pipeTellsSpec.pre6 enc Try.prog Try.f3 Rows.pipeTellsRow.domain false) (Rows.pipeTellsSpec.post enc Try.prog Try.f3 false true false false) := by
  refine returnsInHanded_of_change (C := Try.checked) own started (by kernel_rfl) Try.func3
    (ChangeSpec.witness6 (enc := enc) (C := Try.checked) false ⟨#[], #[.slice none 0 0], []⟩ 8 (by kernel_rfl) (by kernel_rfl) (by kernel_rfl) (by kernel_rfl)) ?_
  intro W base args ds gs before hval0 hW hcnd _
  have hval : ∀ (j : Nat) t v, Try.f3.params[j]? = some t → args[j]? = some v → Value.okWide Try.prog W .any base t v := hval0
  have hW' := hW
  obtain ⟨p, q, hA0, hV, rfl, hfz, hnd⟩ := hW
  have hA : DataW.TrodAll enc Try.prog W 0 (fun _ => true) true Try.f3.params.toList args.toList ds p := hA0
  rw [Try.params3] at hA hval
  obtain ⟨v0, vs0, d0, ds0, p0, q0, hargs, rfl, rfl, h0, r0'⟩ := trodAll_cons hA
  obtain ⟨rfl, rfl, rfl⟩ := trodAll_nil r0'
  obtain rfl : args = #[v0] := by cases args; simp_all
  obtain ⟨rfl, rfl⟩ := trodVars_none hV
  obtain ⟨a0, len0, cap0, rfl⟩ := okWide_slice Try.underlying22 (hval 0 22 v0 rfl rfl)
  have k0 := h0
  have lt0 : ∀ x ∈ p0, x.block < W.heap.size := by obtain ⟨m, hm⟩ := k0; exact DataW.trod_lt m _ _ _ hm
  obtain ⟨z0, hz0, hc0, r0⟩ := open_pops h0
  subst hz0
  clear hA0 hval0
  refine (walk a0 cap0 z0 W hc0 r0).mono fun e W' ⟨he, bel⟩ => ?_
  subst he
  exact ⟨_, rfl, _, _, _, [], _, [], hW', trodAll_mk1 (shut_bool Try.underlying4 _), (trodAll_cons_mk (Below.trod laidOut (by kernel_rfl) (of_decide_eq_true (by kernel_rfl)) k0 bel lt0) trodAll_mk0), rfl, bel.frame _, fun h => by cases h⟩

theorem over : Rows.pipeTellsRow.holds Try.pinned (OpenSpec.ofChange Rows.pipeTellsSpec) :=
  OpenClaim.holds_of_wide 3 Try.f3 rfl rfl rfl rfl rfl rfl rfl ⟨rfl, rfl, rfl, rfl, rfl⟩ rfl rfl rfl rfl rfl (by kernel_rfl) Try.func3 (by kernel_rfl)
    (of_decide_eq_true (by kernel_rfl)) (by unfold Func.isWrapper; first | (rw [if_pos (by decide +kernel)]; kernel_rfl) | (rw [if_neg (by decide +kernel)]; exact ⟨rfl, rfl⟩))
    (fun os started H enc _ => lifted os started H enc)

theorem proved : Rows.PipeTellsSaid := over
end Go.Proofs.Ytbeghmlbdcimlaa.pipeTells
namespace Go.Proofs.Ytbeghmlbdcimlaa
theorem pipeTells_holds : Rows.PipeTellsSaid := pipeTells.proved
#print axioms pipeTells_holds
end Go.Proofs.Ytbeghmlbdcimlaa
