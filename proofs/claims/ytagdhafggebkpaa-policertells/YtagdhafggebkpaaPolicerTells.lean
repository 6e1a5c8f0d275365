/-
  Proved: canterlaw16.PolicerTells answers true at every list of updates, and leaves its argument as it was. Conditions: none.
-/
import Derived.Test.YtagdhafggebkpaaRows
import Derived.WalkKit
import Derived.ProofKit
import Derived.OpenShut
import Derived.ShutString
import Derived.Below
import Derived.Test.YtagdhafggebkpaaRefPolV
import Derived.Test.YtagdhafggebkpaaOpenQ
import Derived.Test.YtagdhafggebkpaaSchedL
import Derived.OwnWalk
namespace Go.Proofs.Ytagdhafggebkpaa.policerTells
open Go.ChangeShapes Go.WideShapes Go.ChangeAt Go.RowKit
set_option linter.unusedVariables false

theorem own : ownKnob Try.prog.godebug = none := by kernel_rfl
theorem laidOut : laidOutB Try.prog = true := by kernel_rfl


set_option maxHeartbeats 4000000 in
set_option maxRecDepth 100000 in
theorem walk (a0 : Option Addr) (cap0 : Nat) (z0 : List QOp) (w : World) (c0 : z0.length ≤ 9223372036854775807) (r0 : RdL 10 cells10 w a0 z0) :
    Calls Try.prog 3 #[.slice a0 z0.length cap0] w fun e w' => e = .returned (.bool true) ∧ Below w.heap.size w w' := by
  have HR := Lib.hid r0
  clear r0
  go_enter Try.func3, Try.ntmps3
  go_wp2_with fail
  refine ((Room.begin w).polnew).mono ?_
  rintro e w1 ⟨rfl, r1⟩
  have R1 := Lib.hid ((r1.add (t := rpolT w1.heap.size newPol) (w' := w1.alloc (.cells #[.bool false, .bool false, .int .u64 0, .int .i64 0, .int .u64 0, .int .u64 0, .int .u64 0, .int .u64 0] 28)) (rpol_new w1) ((Keep.refl _ _).alloc _) (fun k e => by subst e; exact Nat.le_refl _)).perm (List.Perm.swap _ _ _)); clear r1
  generalize w.heap.size = g at *
  go_wp2_with fail
  generalize hw : World.alloc w1 _ = w2 at *
  generalize w1.heap.size = gr at *
  clear hw
  refine R1.out.awakeq.mono ?_
  rintro e w3 ⟨rfl, r3⟩
  have R3 := Lib.hid r3; clear r3 R1
  go_wp2
  go_loopg [5] 120 (fun j i wr => ∃ (k : Nat) (x : Pol), k + j = 120 ∧ k ≤ z0.length ∧ i = .int .i64 k ∧ Room w wr [polT g x, rpolT gr x])
  case atStart => exact ⟨0, _, by omega, Nat.zero_le _, rfl, R3.out⟩
  case round =>
    obtain ⟨k, x, hk100, hk1, rfl, hRm⟩ := hrel
    have HM := Lib.hid hRm; clear hRm R3
    by_cases hlt : k < z0.length ∧ k < 120
    · obtain ⟨hl1, hl2⟩ := hlt
      obtain ⟨⟨st, s, hs⟩, hjob⟩ : ∃ j, z0[k]? = some j := ⟨_, List.getElem?_eq_getElem hl1⟩
      obtain ⟨b, off, rfl, -, -⟩ := HR.out k _ hjob
      have HS : Hid (∀ W, Below w.heap.size w W → W.cell? ⟨b, off + k * 10, none⟩ = some (.bool st) ∧ W.cell? ⟨b, off + k * 10 + 1, none⟩ = some (.int .u64 s.n) ∧ W.cell? ⟨b, off + k * 10 + 2, none⟩ = some (.int .u64 s.d) ∧ W.cell? ⟨b, off + k * 10 + 3, none⟩ = some (.int .u64 s.p) ∧ W.cell? ⟨b, off + k * 10 + 4, none⟩ = some (.int .u64 s.i) ∧ W.cell? ⟨b, off + k * 10 + 5, none⟩ = some (.int .u64 s.r) ∧ W.cell? ⟨b, off + k * 10 + 6, none⟩ = some (.int .u64 s.a) ∧ W.cell? ⟨b, off + k * 10 + 7, none⟩ = some (.int .u64 s.o) ∧ W.cell? ⟨b, off + k * 10 + 8, none⟩ = some (.int .u64 s.f) ∧ W.cell? ⟨b, off + k * 10 + 9, none⟩ = some (.bool s.l)) := Lib.hid (fun W hbel => by
        obtain ⟨_, _, e, _, hc⟩ := HR.out.below hbel k _ hjob
        cases e
        exact ⟨hc 0 _ rfl, hc 1 _ rfl, hc 2 _ rfl, hc 3 _ rfl, hc 4 _ rfl, hc 5 _ rfl, hc 6 _ rfl, hc 7 _ rfl, hc 8 _ rfl, hc 9 _ rfl⟩)
      have hi1 : (k : Int) < (z0.length : Int) := by omega
      have hi2 : (k : Int) < 120 := by omega
      have HF := Lib.hid hs
      obtain ⟨y, hy⟩ : ∃ y, updPol x st s = y := ⟨_, rfl⟩
      have HE := Lib.hid hy
      clear hjob hs HR hy
      go_upto_region 7 with fail
      refine wp_region_late (fun W => Below w.heap.size w W) [11] (.yes 0 (.yes 1 (.yes 2 (.yes 3 (.yes 4 (.yes 5 (.yes 6 (.yes 7 (.yes 8 (.yes 9 (.yes 10 (.one 11 .nil)))))))))))) (by kernel_rfl) (by kernel_rfl) (by kernel_rfl) (by kernel_rfl) HM.out.drew.bel ?_
      (repeat (refine wpSchL_yes (v := ?_) rfl (fun _ _ _ h => h) (by rfl) ?_ ?_; rotate_left; (next => (intro w hSw; obtain ⟨c0, c1, c2, c3, c4, c5, c6, c7, c8, c9⟩ := HS.out _ hSw; clear hSw; go_simp; (try with_reducible rfl))); (try simp only [Act.put, List.setIfInBounds_toArray, List.set_cons_zero, List.set_cons_succ])))
      refine wpSchL_one ?_
      refine wpOneL_call rfl (by rfl) (fun K hK => ?_)
      go_simp
      refine (HM.out.drew.polupd HE.out HF.out).mono ?_
      rintro e w4 ⟨⟨_, rfl⟩, r4⟩
      have R4 := Lib.hid r4; clear r4 HM
      refine hK.out _ _ ?_ (fun hHeld => ?_)
      · exact fun h => absurd h (by decide)
      clear hK K hHeld
      (try simp only [Act.put, List.setIfInBounds_toArray, List.set_cons_zero, List.set_cons_succ])
      refine wpSchL_nil ?_
      go_upto_region 8 with fail
      refine wp_region_late (fun W => Below w.heap.size w W) [11] (.yes 0 (.yes 1 (.yes 2 (.yes 3 (.yes 4 (.yes 5 (.yes 6 (.yes 7 (.yes 8 (.yes 9 (.yes 10 (.one 11 .nil)))))))))))) (by kernel_rfl) (by kernel_rfl) (by kernel_rfl) (by kernel_rfl) R4.out.drew.bel ?_
      (repeat (refine wpSchL_yes (v := ?_) rfl (fun _ _ _ h => h) (by rfl) ?_ ?_; rotate_left; (next => (intro w hSw; obtain ⟨c0, c1, c2, c3, c4, c5, c6, c7, c8, c9⟩ := HS.out _ hSw; clear hSw; go_simp; (try with_reducible rfl))); (try simp only [Act.put, List.setIfInBounds_toArray, List.set_cons_zero, List.set_cons_succ])))
      refine wpSchL_one ?_
      refine wpOneL_call rfl (by rfl) (fun K hK => ?_)
      go_simp
      refine (R4.out.drew.rpupd HE.out HF.out).mono ?_
      rintro e w5 ⟨⟨_, rfl⟩, r5⟩
      have R5 := Lib.hid r5; clear r5 R4
      refine hK.out _ _ ?_ (fun hHeld => ?_)
      · exact fun h => absurd h (by decide)
      clear hK K hHeld
      (try simp only [Act.put, List.setIfInBounds_toArray, List.set_cons_zero, List.set_cons_succ])
      refine wpSchL_nil ?_
      obtain ⟨U, hU⟩ : ∃ U, y.u = U := ⟨_, rfl⟩
      obtain ⟨v, hv⟩ : ∃ v, y.b = v := ⟨_, rfl⟩
      have HC0 : Hid (w5.cell? ⟨gr, 0, none⟩ = some (.bool U)) := Lib.hid (hU ▸ RPolAt.c0 R5.out.get1)
      have HC2 : Hid (w5.cell? ⟨gr, 2, none⟩ = some (.int .u64 v)) := Lib.hid (hv ▸ RPolAt.c2 R5.out.get1)
      cases U
      · have HUS : Hid (useV y = 0 ∧ y.u = false) := Lib.hid ⟨by unfold useV; rw [hU]; rfl, hU⟩
        clear hU hv
        go_wp2_with fail
        refine (R5.out.poluse HUS.out).mono ?_
        rintro e w' ⟨rfl, rfl⟩
        have c0 := HC0.out
        have c2 := HC2.out
        go_wp2
        go_roundg (gk - 1)
        case measure => omega
        case rel => exact ⟨k + 1, y, by omega, by omega, by go_num, R5.out⟩
      · have HUS : Hid (useV y = v ∧ y.u = true) := Lib.hid ⟨by unfold useV; rw [hU]; exact hv, hU⟩
        clear hU hv
        have hvv : (v != v) = false := by simp
        go_wp2_with fail
        refine (R5.out.poluse HUS.out).mono ?_
        rintro e w' ⟨rfl, rfl⟩
        have c0 := HC0.out
        have c2 := HC2.out
        go_wp2
        go_roundg (gk - 1)
        case measure => omega
        case rel => exact ⟨k + 1, y, by omega, by omega, by go_num, R5.out⟩
    · by_cases hl1 : k < z0.length
      · have hi1 : (k : Int) < (z0.length : Int) := by omega
        have hi2 : ¬ (k : Int) < 120 := by omega
        go_wp2
        go_ret
        exact ⟨rfl, HM.out.bel⟩
      · have hi1 : ¬ (k : Int) < (z0.length : Int) := by omega
        go_wp2
        go_ret
        exact ⟨rfl, HM.out.bel⟩

set_option maxRecDepth 100000 in
theorem lifted (os : Os) (started : os.Started) (H : Type) (enc : TypeId × Value → H) :
    ReturnsInHanded {} Try.checked os 3 .any (Rows.policerTellsSpec.pre6 enc Try.prog Try.f3 Rows.policerTellsRow.domain false) (Rows.policerTellsSpec.post enc Try.prog Try.f3 false true false false) := by
  refine returnsInHanded_of_change (C := Try.checked) own started (by kernel_rfl) Try.func3
    (ChangeSpec.witness6 (enc := enc) (C := Try.checked) false ⟨#[], #[.slice none 0 0], []⟩ 8 (by kernel_rfl) (by kernel_rfl) (by kernel_rfl) (by kernel_rfl)) ?_
  intro W base args ds gs before hval0 hW hcnd _
  have hval : ∀ (j : Nat) t v, Try.f3.params[j]? = some t → args[j]? = some v → Value.okWide Try.prog W .any base t v := hval0
  have hW' := hW
  obtain ⟨p, q, hA0, hV, rfl, hfz, hnd⟩ := hW
  have hA : DataW.TrodAll enc Try.prog W 0 (fun _ => true) true Try.f3.params.toList args.toList ds p := hA0
  rw [Try.params3] at hA hval
  obtain ⟨v0, vs0, d0, ds0, p0, q0, hargs, rfl, rfl, h0, r0'⟩ := trodAll_cons hA
  obtain ⟨rfl, rfl, rfl⟩ := trodAll_nil r0'
  obtain rfl : args = #[v0] := by cases args; simp_all
  obtain ⟨rfl, rfl⟩ := trodVars_none hV
  obtain ⟨a0, len0, cap0, rfl⟩ := okWide_slice Try.underlying22 (hval 0 22 v0 rfl rfl)
  have k0 := h0
  have lt0 : ∀ x ∈ p0, x.block < W.heap.size := by obtain ⟨m, hm⟩ := k0; exact DataW.trod_lt m _ _ _ hm
  obtain ⟨z0, hz0, hc0, r0⟩ := open_qops h0
  subst hz0
  clear hA0 hval0
  refine (walk a0 cap0 z0 W hc0 r0).mono fun e W' ⟨he, bel⟩ => ?_
  subst he
  exact ⟨_, rfl, _, _, _, [], _, [], hW', trodAll_mk1 (shut_bool Try.underlying4 _), (trodAll_cons_mk (Below.trod laidOut (by kernel_rfl) (of_decide_eq_true (by kernel_rfl)) k0 bel lt0) trodAll_mk0), rfl, bel.frame _, fun h => by cases h⟩

theorem over : Rows.policerTellsRow.holds Try.pinned (OpenSpec.ofChange Rows.policerTellsSpec) :=
  OpenClaim.holds_of_wide 3 Try.f3 rfl rfl rfl rfl rfl rfl rfl ⟨rfl, rfl, rfl, rfl, rfl⟩ rfl rfl rfl rfl rfl (by kernel_rfl) Try.func3 (by kernel_rfl)
    (of_decide_eq_true (by kernel_rfl)) (by unfold Func.isWrapper; first | (rw [if_pos (by decide +kernel)]; kernel_rfl) | (rw [if_neg (by decide +kernel)]; exact ⟨rfl, rfl⟩))
    (fun os started H enc _ => lifted os started H enc)

theorem proved : Rows.PolicerTellsSaid := over
end Go.Proofs.Ytagdhafggebkpaa.policerTells
namespace Go.Proofs.Ytagdhafggebkpaa
theorem policerTells_holds : Rows.PolicerTellsSaid := policerTells.proved
#print axioms policerTells_holds
end Go.Proofs.Ytagdhafggebkpaa
