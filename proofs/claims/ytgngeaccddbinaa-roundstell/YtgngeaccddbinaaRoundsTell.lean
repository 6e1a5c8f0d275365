/-
  Proved: canterlaw11.RoundsTell answers true at every list of samples, and leaves its argument as it was. Conditions: none.
-/
import Derived.Test.YtgngeaccddbinaaRows
import Derived.WalkKit
import Derived.ProofKit
import Derived.OpenShut
import Derived.ShutString
import Derived.Below
import Derived.Test.YtgngeaccddbinaaRefRnd
import Derived.Test.YtgngeaccddbinaaOpenS
import Derived.Test.YtgngeaccddbinaaSchedP
import Derived.OwnWalk
namespace Go.Proofs.Ytgngeaccddbinaa.roundsTell
open Go.ChangeShapes Go.WideShapes Go.ChangeAt Go.RowKit
set_option linter.unusedVariables false

theorem own : ownKnob Try.prog.godebug = none := by kernel_rfl
theorem laidOut : laidOutB Try.prog = true := by kernel_rfl


set_option maxHeartbeats 4000000 in
set_option maxRecDepth 100000 in
theorem walk (a0 : Option Addr) (cap0 : Nat) (z0 : List SplF) (w : World) (c0 : z0.length ≤ 9223372036854775807) (r0 : RdL 9 cells9 w a0 z0) :
    Calls Try.prog 3 #[.slice a0 z0.length cap0] w fun e w' => e = .returned (.bool true) ∧ Below w.heap.size w w' := by
  have HR := Lib.hid r0
  clear r0
  go_enter Try.func3, Try.ntmps3
  go_wp2_with fail
  refine ((Room.begin w).ronew).mono ?_
  rintro e w1 ⟨rfl, r1⟩
  have R1 := Lib.hid ((r1.add (t := rrndT w1.heap.size newR) (w' := w1.alloc (.cells #[.int .u64 0, .int .u64 0] 28)) ⟨Whole.new w1 28 _, fit_newR⟩ ((Keep.refl _ _).alloc _) (fun k e => by subst e; exact Nat.le_refl _)).perm (List.Perm.swap _ _ _)); clear r1
  generalize w.heap.size = g at *
  go_wp2_with fail
  generalize hw : World.alloc w1 _ = w2 at *
  generalize w1.heap.size = gr at *
  clear hw
  refine R1.out.awakeo.mono ?_
  rintro e w3 ⟨rfl, r3⟩
  have R3 := Lib.hid r3; clear r3 R1
  go_wp2
  go_loopg [5] 100 (fun j i wr => ∃ (k : Nat) (x : Rst), k + j = 100 ∧ k ≤ z0.length ∧ i = .int .i64 k ∧ x.c ≤ k ∧ Room w wr [rndT g x, rrndT gr x])
  case atStart => exact ⟨0, _, by omega, Nat.zero_le _, rfl, by decide, R3.out⟩
  case round =>
    obtain ⟨k, x, hk100, hk1, rfl, hx, hRm⟩ := hrel
    have HM := Lib.hid hRm; clear hRm R3
    by_cases hlt : k < z0.length ∧ k < 100
    · obtain ⟨hl1, hl2⟩ := hlt
      obtain ⟨⟨s, hs⟩, hjob⟩ : ∃ j, z0[k]? = some j := ⟨_, List.getElem?_eq_getElem hl1⟩
      obtain ⟨b, off, rfl, -⟩ := HR.out k _ hjob
      have HS : Hid (∀ W, Room w W [rndT g x, rrndT gr x] ∨ (∃ x', Room w W [rndT g x', rrndT gr x]) → W.cell? ⟨b, off + k * 9, none⟩ = some (.int .u64 s.n) ∧ W.cell? ⟨b, off + k * 9 + 1, none⟩ = some (.int .u64 s.d) ∧ W.cell? ⟨b, off + k * 9 + 2, none⟩ = some (.int .u64 s.p) ∧ W.cell? ⟨b, off + k * 9 + 3, none⟩ = some (.int .u64 s.i) ∧ W.cell? ⟨b, off + k * 9 + 4, none⟩ = some (.int .u64 s.r) ∧ W.cell? ⟨b, off + k * 9 + 5, none⟩ = some (.int .u64 s.a) ∧ W.cell? ⟨b, off + k * 9 + 6, none⟩ = some (.int .u64 s.o) ∧ W.cell? ⟨b, off + k * 9 + 7, none⟩ = some (.int .u64 s.f) ∧ W.cell? ⟨b, off + k * 9 + 8, none⟩ = some (.bool s.l)) := Lib.hid (fun W hW => by
        have hbel : Below w.heap.size w W := by
          rcases hW with h | ⟨_, h⟩
          · exact h.bel
          · exact h.bel
        obtain ⟨_, _, e, _, hc⟩ := HR.out.below hbel k _ hjob
        cases e
        exact ⟨hc 0 _ rfl, hc 1 _ rfl, hc 2 _ rfl, hc 3 _ rfl, hc 4 _ rfl, hc 5 _ rfl, hc 6 _ rfl, hc 7 _ rfl, hc 8 _ rfl⟩)
      have hi1 : (k : Int) < (z0.length : Int) := by omega
      have hi2 : (k : Int) < 100 := by omega
      have ND := Lib.hid hs.d
      have HC : Hid (x.c < 18446744073709551615) := Lib.hid (by omega)
      have HX : Hid ((updR x s).c ≤ ((k + 1 : Nat) : Int)) := Lib.hid (by rw [updR_c]; split <;> omega)
      obtain ⟨B, hB⟩ : ∃ B, begR x s = B := ⟨_, rfl⟩
      obtain ⟨y, hy⟩ : ∃ y, updR x s = y := ⟨_, rfl⟩
      rw [hy] at HX
      have HE : Hid (begR x s = B ∧ updR x s = y) := Lib.hid ⟨hB, hy⟩
      clear hjob hs hB hy HR hx
      go_upto_region 7 with fail
      refine wp_region_parts [([(true, 0), (true, 1), (true, 2), (true, 3), (true, 4), (true, 6), (true, 7), (true, 8), (true, 9), (true, 10), (false, 5)], 11)] [(true, 12), (true, 13), (true, 14), (true, 16), (true, 17), (true, 18), (true, 19), (false, 15), (true, 20), (true, 21)] (by kernel_rfl) (by kernel_rfl) (by kernel_rfl) (by kernel_rfl) ?_
      refine wpParts_part (fun W => W.cell? ⟨b, off + k * 9, none⟩ = some (.int .u64 s.n) ∧ W.cell? ⟨b, off + k * 9 + 1, none⟩ = some (.int .u64 s.d) ∧ W.cell? ⟨b, off + k * 9 + 2, none⟩ = some (.int .u64 s.p) ∧ W.cell? ⟨b, off + k * 9 + 3, none⟩ = some (.int .u64 s.i) ∧ W.cell? ⟨b, off + k * 9 + 4, none⟩ = some (.int .u64 s.r) ∧ W.cell? ⟨b, off + k * 9 + 5, none⟩ = some (.int .u64 s.a) ∧ W.cell? ⟨b, off + k * 9 + 6, none⟩ = some (.int .u64 s.o) ∧ W.cell? ⟨b, off + k * 9 + 7, none⟩ = some (.int .u64 s.f) ∧ W.cell? ⟨b, off + k * 9 + 8, none⟩ = some (.bool s.l)) (HS.out _ (.inl HM.out.drew)) ?_
      (repeat (refine wpPart_yes (v := ?_) rfl (fun _ _ _ h => h) (by rfl) ?_ ?_; rotate_left; (next => (intro w hSw; (try dsimp only at hSw); obtain ⟨hS1, hS2, hS3, hS4, hS5, hS6, hS7, hS8, hS9⟩ := hSw; go_simp; (try with_reducible rfl))); (try simp only [Act.put, List.setIfInBounds_toArray, List.set_cons_zero, List.set_cons_succ])))
      refine wpPart_call rfl (by rfl) (fun K hK => ?_); go_simp
      refine (HM.out.drew.rupd (s := s) HE.out ND.out HC.out).mono ?_
      rintro e w4 ⟨rfl, r4⟩
      have R4 := Lib.hid r4; clear r4 HM
      refine hK.out _ _ (HS.out _ (.inr ⟨_, R4.out⟩)) (fun hHeld => ?_)
      clear hK K hHeld
      (try simp only [Act.put, List.setIfInBounds_toArray, List.set_cons_zero, List.set_cons_succ])
      refine wpPart_turn rfl (by rfl) (fun K hK => ?_); go_simp
      refine (R4.out.rrupd (s := s) HE.out ND.out HC.out).mono ?_
      rintro e w5 ⟨rfl, r5⟩
      have R5 := Lib.hid r5; clear r5 R4 HS
      refine hK.out _ _ ?_
      clear hK K
      (try simp only [Act.put, List.setIfInBounds_toArray, List.set_cons_zero, List.set_cons_succ])
      have hBB : (B != B) = false := by simp
      have hcc : (y.c != y.c) = false := by simp
      refine wpParts_last (fun W => W.cell? ⟨gr, 0, none⟩ = some (.int .u64 y.c)) (R5.out.get1.whole.cell 0) ?_
      (repeat (refine wpSch_yes (v := ?_) rfl (fun _ _ _ h => h) (by rfl) ?_ ?_; rotate_left; (next => (intro w hSw; (try dsimp only at hSw); go_simp; (try with_reducible rfl))); (try simp only [Act.put, List.setIfInBounds_toArray, List.set_cons_zero, List.set_cons_succ])))
      refine wpSch_call rfl (by rfl) (fun K hK => ?_); go_simp
      refine (R5.out.rcount rfl).mono ?_
      rintro e w' ⟨rfl, rfl⟩
      refine hK.out _ _ (R5.out.get1.whole.cell 0) (fun hHeld => ?_)
      clear hK K hHeld
      (try simp only [Act.put, List.setIfInBounds_toArray, List.set_cons_zero, List.set_cons_succ])
      (repeat (refine wpSch_yes (v := ?_) rfl (fun _ _ _ h => h) (by rfl) ?_ ?_; rotate_left; (next => (intro w hSw; (try dsimp only at hSw); go_simp; (try with_reducible rfl))); (try simp only [Act.put, List.setIfInBounds_toArray, List.set_cons_zero, List.set_cons_succ])))
      refine wpSch_nil ?_
      go_wp2
      go_roundg (gk - 1)
      case measure => omega
      case rel => exact ⟨k + 1, y, by omega, by omega, by go_num, HX.out, R5.out⟩
    · have HT : Hid (∀ (s : Spl) W, Room w W [rndT g x, rrndT gr x] → Calls Try.prog 8 #[.pointer none, s.v] W fun e w' => e = .returned (.bool false) ∧ Room w w' [rndT g x, rrndT gr x]) := Lib.hid (fun s W hR => (rupd_nil s W).mono fun _ _ ⟨he, k1⟩ => ⟨he, hR.kept k1⟩)
      by_cases hl1 : k < z0.length
      · have hi1 : (k : Int) < (z0.length : Int) := by omega
        have hi2 : ¬ (k : Int) < 100 := by omega
        go_wp2_with fail
        refine (HT.out ⟨0, 0, 0, 0, 0, 1, 0, 0, false⟩ _ HM.out).mono ?_
        rintro e w4 ⟨rfl, r4⟩
        have R4 := Lib.hid r4; clear r4
        go_wp2_with fail
        refine (rcount_nil _).mono ?_
        rintro e w5 ⟨rfl, rfl⟩
        go_wp2
        go_ret
        exact ⟨rfl, R4.out.bel⟩
      · have hi1 : ¬ (k : Int) < (z0.length : Int) := by omega
        go_wp2_with fail
        refine (HT.out ⟨0, 0, 0, 0, 0, 1, 0, 0, false⟩ _ HM.out).mono ?_
        rintro e w4 ⟨rfl, r4⟩
        have R4 := Lib.hid r4; clear r4
        go_wp2_with fail
        refine (rcount_nil _).mono ?_
        rintro e w5 ⟨rfl, rfl⟩
        go_wp2
        go_ret
        exact ⟨rfl, R4.out.bel⟩

set_option maxRecDepth 100000 in
theorem lifted (os : Os) (started : os.Started) (H : Type) (enc : TypeId × Value → H) :
    ReturnsInHanded {} Try.checked os 3 .any (Rows.roundsTellSpec.pre6 enc Try.prog Try.f3 Rows.roundsTellRow.domain false) (Rows.roundsTellSpec.post enc Try.prog Try.f3 false true false false) := by
  refine returnsInHanded_of_change (C := Try.checked) own started (by kernel_rfl) Try.func3
    (ChangeSpec.witness6 (enc := enc) (C := Try.checked) false ⟨#[], #[.slice none 0 0], []⟩ 8 (by kernel_rfl) (by kernel_rfl) (by kernel_rfl) (by kernel_rfl)) ?_
  intro W base args ds gs before hval0 hW hcnd _
  have hval : ∀ (j : Nat) t v, Try.f3.params[j]? = some t → args[j]? = some v → Value.okWide Try.prog W .any base t v := hval0
  have hW' := hW
  obtain ⟨p, q, hA0, hV, rfl, hfz, hnd⟩ := hW
  have hA : DataW.TrodAll enc Try.prog W 0 (fun _ => true) true Try.f3.params.toList args.toList ds p := hA0
  rw [Try.params3] at hA hval
  obtain ⟨v0, vs0, d0, ds0, p0, q0, hargs, rfl, rfl, h0, r0'⟩ := trodAll_cons hA
  obtain ⟨rfl, rfl, rfl⟩ := trodAll_nil r0'
  obtain rfl : args = #[v0] := by cases args; simp_all
  obtain ⟨rfl, rfl⟩ := trodVars_none hV
  obtain ⟨a0, len0, cap0, rfl⟩ := okWide_slice Try.underlying22 (hval 0 22 v0 rfl rfl)
  have k0 := h0
  have lt0 : ∀ x ∈ p0, x.block < W.heap.size := by obtain ⟨m, hm⟩ := k0; exact DataW.trod_lt m _ _ _ hm
  obtain ⟨z0, hz0, hc0, r0⟩ := open_spls h0
  subst hz0
  clear hA0 hval0
  refine (walk a0 cap0 z0 W hc0 r0).mono fun e W' ⟨he, bel⟩ => ?_
  subst he
  exact ⟨_, rfl, _, _, _, [], _, [], hW', trodAll_mk1 (shut_bool Try.underlying4 _), (trodAll_cons_mk (Below.trod laidOut (by kernel_rfl) (of_decide_eq_true (by kernel_rfl)) k0 bel lt0) trodAll_mk0), rfl, bel.frame _, fun h => by cases h⟩

theorem over : Rows.roundsTellRow.holds Try.pinned (OpenSpec.ofChange Rows.roundsTellSpec) :=
  OpenClaim.holds_of_wide 3 Try.f3 rfl rfl rfl rfl rfl rfl rfl ⟨rfl, rfl, rfl, rfl, rfl⟩ rfl rfl rfl rfl rfl (by kernel_rfl) Try.func3 (by kernel_rfl)
    (of_decide_eq_true (by kernel_rfl)) (by unfold Func.isWrapper; first | (rw [if_pos (by decide +kernel)]; kernel_rfl) | (rw [if_neg (by decide +kernel)]; exact ⟨rfl, rfl⟩))
    (fun os started H enc _ => lifted os started H enc)

theorem proved : Rows.RoundsTellSaid := over
end Go.Proofs.Ytgngeaccddbinaa.roundsTell
namespace Go.Proofs.Ytgngeaccddbinaa
theorem roundsTell_holds : Rows.RoundsTellSaid := roundsTell.proved
#print axioms roundsTell_holds
end Go.Proofs.Ytgngeaccddbinaa
