/-
  Proved: canterlaw15.ProbeTells answers true at every list of updates, and leaves its argument as it was. Conditions: none.
-/
import Derived.Test.YtnfikihpmbangaaRows
import Derived.WalkKit
import Derived.ProofKit
import Derived.OpenShut
import Derived.ShutString
import Derived.Below
import Derived.Test.YtnfikihpmbangaaRefPrb
import Derived.Test.YtnfikihpmbangaaOpenB
import Derived.Test.YtnfikihpmbangaaSched
import Derived.OwnWalk
namespace Go.Proofs.Ytnfikihpmbangaa.probeTells
open Go.ChangeShapes Go.WideShapes Go.ChangeAt Go.RowKit
set_option linter.unusedVariables false

theorem own : ownKnob Try.prog.godebug = none := by kernel_rfl
theorem laidOut : laidOutB Try.prog = true := by kernel_rfl


set_option maxHeartbeats 4000000 in
set_option maxRecDepth 100000 in
theorem walk (a0 : Option Addr) (cap0 : Nat) (z0 : List BOp) (w : World) (c0 : z0.length ≤ 9223372036854775807) (r0 : RdL 5 cells5 w a0 z0) :
    Calls Try.prog 3 #[.slice a0 z0.length cap0] w fun e w' => e = .returned (.bool true) ∧ Below w.heap.size w w' := by
  have HR := Lib.hid r0
  clear r0
  go_enter Try.func3, Try.ntmps3
  go_wp2_with fail
  refine ((Room.begin w).prnew).mono ?_
  rintro e w1 ⟨rfl, r1⟩
  have R1 := Lib.hid ((r1.add (t := rprbT w1.heap.size newB) (w' := w1.alloc (.cells #[.int .u64 0, .int .u64 0, .bool false, .bool false, .bool false, .int .u64 0] 28)) (rprb_new w1) ((Keep.refl _ _).alloc _) (fun k e => by subst e; exact Nat.le_refl _)).perm (List.Perm.swap _ _ _)); clear r1
  generalize w.heap.size = g at *
  go_wp2_with fail
  generalize hw : World.alloc w1 _ = w2 at *
  generalize w1.heap.size = gr at *
  clear hw
  refine R1.out.awakeb.mono ?_
  rintro e w3 ⟨rfl, r3⟩
  have R3 := Lib.hid r3; clear r3 R1
  go_wp2
  go_loopg [5] 100 (fun j i wr => ∃ (k : Nat) (x : Prb), k + j = 100 ∧ k ≤ z0.length ∧ i = .int .i64 k ∧ Room w wr [prbT g x, rprbT gr x])
  case atStart => exact ⟨0, _, by omega, Nat.zero_le _, rfl, R3.out⟩
  case round =>
    obtain ⟨k, x, hk100, hk1, rfl, hRm⟩ := hrel
    have HM := Lib.hid hRm; clear hRm R3
    by_cases hlt : k < z0.length ∧ k < 100
    · obtain ⟨hl1, hl2⟩ := hlt
      obtain ⟨⟨n, t, f, o, st, hn, ht⟩, hjob⟩ : ∃ j, z0[k]? = some j := ⟨_, List.getElem?_eq_getElem hl1⟩
      obtain ⟨b, off, rfl, -⟩ := HR.out k _ hjob
      obtain ⟨_, _, e, _, hc⟩ := HR.out.below HM.out.bel k _ hjob
      cases e
      have c0 := hc 0 _ rfl; have c1 := hc 1 _ rfl; have c2 := hc 2 _ rfl; have c3 := hc 3 _ rfl; have c4 := hc 4 _ rfl
      dsimp only at c0 c1 c2 c3 c4
      rw [Nat.add_zero] at c0
      have hi1 : (k : Int) < (z0.length : Int) := by omega
      have hi2 : (k : Int) < 100 := by omega
      have NN := Lib.hid hn
      have NT := Lib.hid ht
      obtain ⟨y, hy⟩ : ∃ y, updB x ⟨n, t, st, f, o⟩ = y := ⟨_, rfl⟩
      obtain ⟨B, hB⟩ : ∃ B, begB x ⟨n, t, st, f, o⟩ = B := ⟨_, rfl⟩
      obtain ⟨C, hC⟩ : ∃ C, leaB x ⟨n, t, st, f, o⟩ = C := ⟨_, rfl⟩
      have HE : Hid (Upd x ⟨n, t, st, f, o⟩ B C y) := Lib.hid ⟨hB, hC, hy⟩
      clear hjob hB hC hy HR hn ht hc
      have R4 := Lib.hid (HM.out.box2 31 #[.int .u64 n, .int .u64 t, .int .u64 f, .int .u64 o, .bool st])
      go_wp2_with fail
      clear c0 c1 c2 c3 c4
      generalize hw4 : World.alloc wr _ = w4 at *
      generalize wr.heap.size = ob at *
      clear hw4 HM
      refine (R4.out.prupd HE.out NN.out NT.out).mono ?_
      rintro e w5 ⟨rfl, r5⟩
      have R5 := Lib.hid r5; clear r5 R4
      have b0 : w5.cell? ⟨ob, 0, none⟩ = some (.int .u64 n) := Whole.cell R5.out.get2 0
      have b1 : w5.cell? ⟨ob, 1, none⟩ = some (.int .u64 t) := Whole.cell R5.out.get2 1
      have b2 : w5.cell? ⟨ob, 2, none⟩ = some (.int .u64 f) := Whole.cell R5.out.get2 2
      have b3 : w5.cell? ⟨ob, 3, none⟩ = some (.int .u64 o) := Whole.cell R5.out.get2 3
      have b4 : w5.cell? ⟨ob, 4, none⟩ = some (.bool st) := Whole.cell R5.out.get2 4
      go_wp2_with fail
      refine (R5.out.rprupd HE.out NN.out NT.out).mono ?_
      rintro e w6 ⟨rfl, r6⟩
      have R6 := Lib.hid (r6.less (M := [prbT g y, rprbT gr y]) (List.Sublist.cons_cons _ (List.Sublist.cons_cons _ (List.nil_sublist _)))); clear r6 R5 b0 b1 b2 b3 b4
      obtain ⟨yb, hyb⟩ : ∃ v, y.b = v := ⟨_, rfl⟩
      obtain ⟨yi, hyi⟩ : ∃ v, y.i = v := ⟨_, rfl⟩
      have HYB := Lib.hid hyb
      have HYI := Lib.hid hyi
      have HC0 : Hid (w6.drew.cell? ⟨gr, 0, none⟩ = some (.int .u64 yb)) := Lib.hid (HYB.out ▸ RPrbAt.c0 R6.out.drew.get1)
      have HC2 : Hid (w6.drew.cell? ⟨gr, 2, none⟩ = some (.bool yi)) := Lib.hid (HYI.out ▸ RPrbAt.c2 R6.out.drew.get1)
      clear hyb hyi
      have hBB : (B != B) = false := by simp
      have hCC : (C != C) = false := by simp
      have hbb : (yb != yb) = false := by simp
      have hii : (yi != yi) = false := by simp
      go_upto_region 10 with fail
      refine wp_region_sch (fun W => W.cell? ⟨gr, 0, none⟩ = some (.int .u64 yb) ∧ W.cell? ⟨gr, 2, none⟩ = some (.bool yi)) [(true, 0), (true, 1), (true, 2), (true, 3), (true, 4), (true, 5), (true, 6), (true, 7), (true, 8), (true, 9), (true, 11), (true, 12), (true, 13), (true, 14), (false, 10), (true, 15), (true, 16), (true, 17), (true, 18), (true, 20), (true, 21), (true, 22), (true, 23), (false, 19), (true, 24), (true, 25)] (by kernel_rfl) (by kernel_rfl) (by kernel_rfl) (by kernel_rfl) ⟨HC0.out, HC2.out⟩ ?_
      (repeat (refine wpSch_yes (v := ?_) rfl (fun _ _ _ h => h) (by rfl) ?_ ?_; rotate_left; (next => (intro w hSw; (try dsimp only at hSw); obtain ⟨hS1, hS2⟩ := hSw; go_simp; (try with_reducible rfl))); (try simp only [Act.put, List.setIfInBounds_toArray, List.set_cons_zero, List.set_cons_succ])))
      refine wpSch_call rfl (by rfl) (fun K hK => ?_); go_simp
      refine (R6.out.drew.prbest HYB.out).mono ?_
      rintro e w' ⟨rfl, rfl⟩
      refine hK.out _ _ ⟨HC0.out, HC2.out⟩ (fun hHeld => ?_)
      clear hK K hHeld
      (try simp only [Act.put, List.setIfInBounds_toArray, List.set_cons_zero, List.set_cons_succ])
      (repeat (refine wpSch_yes (v := ?_) rfl (fun _ _ _ h => h) (by rfl) ?_ ?_; rotate_left; (next => (intro w hSw; (try dsimp only at hSw); obtain ⟨hS1, hS2⟩ := hSw; go_simp; (try with_reducible rfl))); (try simp only [Act.put, List.setIfInBounds_toArray, List.set_cons_zero, List.set_cons_succ])))
      refine wpSch_call rfl (by rfl) (fun K hK => ?_); go_simp
      refine (R6.out.drew.prin HYI.out).mono ?_
      rintro e w' ⟨rfl, rfl⟩
      refine hK.out _ _ ⟨HC0.out, HC2.out⟩ (fun hHeld => ?_)
      clear hK K hHeld
      (try simp only [Act.put, List.setIfInBounds_toArray, List.set_cons_zero, List.set_cons_succ])
      (repeat (refine wpSch_yes (v := ?_) rfl (fun _ _ _ h => h) (by rfl) ?_ ?_; rotate_left; (next => (intro w hSw; (try dsimp only at hSw); obtain ⟨hS1, hS2⟩ := hSw; go_simp; (try with_reducible rfl))); (try simp only [Act.put, List.setIfInBounds_toArray, List.set_cons_zero, List.set_cons_succ])))
      refine wpSch_nil ?_
      go_wp2
      go_roundg (gk - 1)
      case measure => omega
      case rel => exact ⟨k + 1, y, by omega, by omega, by go_num, R6.out.drew⟩
    · by_cases hl1 : k < z0.length
      · have hi1 : (k : Int) < (z0.length : Int) := by omega
        have hi2 : ¬ (k : Int) < 100 := by omega
        go_wp2
        go_ret
        exact ⟨rfl, HM.out.bel⟩
      · have hi1 : ¬ (k : Int) < (z0.length : Int) := by omega
        go_wp2
        go_ret
        exact ⟨rfl, HM.out.bel⟩

set_option maxRecDepth 100000 in
theorem lifted (os : Os) (started : os.Started) (H : Type) (enc : TypeId × Value → H) :
    ReturnsInHanded {} Try.checked os 3 .any (Rows.probeTellsSpec.pre6 enc Try.prog Try.f3 Rows.probeTellsRow.domain false) (Rows.probeTellsSpec.post enc Try.prog Try.f3 false true false false) := by
  refine returnsInHanded_of_change (C := Try.checked) own started (by kernel_rfl) Try.func3
    (ChangeSpec.witness6 (enc := enc) (C := Try.checked) false ⟨#[], #[.slice none 0 0], []⟩ 8 (by kernel_rfl) (by kernel_rfl) (by kernel_rfl) (by kernel_rfl)) ?_
  intro W base args ds gs before hval0 hW hcnd _
  have hval : ∀ (j : Nat) t v, Try.f3.params[j]? = some t → args[j]? = some v → Value.okWide Try.prog W .any base t v := hval0
  have hW' := hW
  obtain ⟨p, q, hA0, hV, rfl, hfz, hnd⟩ := hW
  have hA : DataW.TrodAll enc Try.prog W 0 (fun _ => true) true Try.f3.params.toList args.toList ds p := hA0
  rw [Try.params3] at hA hval
  obtain ⟨v0, vs0, d0, ds0, p0, q0, hargs, rfl, rfl, h0, r0'⟩ := trodAll_cons hA
  obtain ⟨rfl, rfl, rfl⟩ := trodAll_nil r0'
  obtain rfl : args = #[v0] := by cases args; simp_all
  obtain ⟨rfl, rfl⟩ := trodVars_none hV
  obtain ⟨a0, len0, cap0, rfl⟩ := okWide_slice Try.underlying22 (hval 0 22 v0 rfl rfl)
  have k0 := h0
  have lt0 : ∀ x ∈ p0, x.block < W.heap.size := by obtain ⟨m, hm⟩ := k0; exact DataW.trod_lt m _ _ _ hm
  obtain ⟨z0, hz0, hc0, r0⟩ := open_bops h0
  subst hz0
  clear hA0 hval0
  refine (walk a0 cap0 z0 W hc0 r0).mono fun e W' ⟨he, bel⟩ => ?_
  subst he
  exact ⟨_, rfl, _, _, _, [], _, [], hW', trodAll_mk1 (shut_bool Try.underlying4 _), (trodAll_cons_mk (Below.trod laidOut (by kernel_rfl) (of_decide_eq_true (by kernel_rfl)) k0 bel lt0) trodAll_mk0), rfl, bel.frame _, fun h => by cases h⟩

theorem over : Rows.probeTellsRow.holds Try.pinned (OpenSpec.ofChange Rows.probeTellsSpec) :=
  OpenClaim.holds_of_wide 3 Try.f3 rfl rfl rfl rfl rfl rfl rfl ⟨rfl, rfl, rfl, rfl, rfl⟩ rfl rfl rfl rfl rfl (by kernel_rfl) Try.func3 (by kernel_rfl)
    (of_decide_eq_true (by kernel_rfl)) (by unfold Func.isWrapper; first | (rw [if_pos (by decide +kernel)]; kernel_rfl) | (rw [if_neg (by decide +kernel)]; exact ⟨rfl, rfl⟩))
    (fun os started H enc _ => lifted os started H enc)

theorem proved : Rows.ProbeTellsSaid := over
end Go.Proofs.Ytnfikihpmbangaa.probeTells
namespace Go.Proofs.Ytnfikihpmbangaa
theorem probeTells_holds : Rows.ProbeTellsSaid := probeTells.proved
#print axioms probeTells_holds
end Go.Proofs.Ytnfikihpmbangaa
