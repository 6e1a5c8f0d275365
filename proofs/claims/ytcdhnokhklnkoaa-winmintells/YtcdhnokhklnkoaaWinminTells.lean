/-
  Proved: canterlaw09.WinminTells answers true at every number and list of deeds, and leaves its arguments as they were. Conditions: none.
-/
import Derived.Test.YtcdhnokhklnkoaaRows
import Derived.WalkKit
import Derived.ProofKit
import Derived.OpenShut
import Derived.ShutString
import Derived.Below
import Derived.Test.YtcdhnokhklnkoaaAwakeN
import Derived.Test.YtcdhnokhklnkoaaWinRefU
import Derived.Test.YtcdhnokhklnkoaaOpenO
namespace Go.Proofs.Ytcdhnokhklnkoaa.winminTells
open Go.ChangeShapes Go.WideShapes Go.ChangeAt Go.RowKit
set_option linter.unusedVariables false

theorem own : ownKnob Try.prog.godebug = none := by kernel_rfl
theorem laidOut : laidOutB Try.prog = true := by kernel_rfl

/-- The window at g and the document's own at gr, both of x. -/
structure Pair (wB w : World) (g gr : Nat) (win : Int) (x : Tri) : Prop where
  at_ : MinAt w g win x
  ref : WinAt w gr win x true
  ne : g ≠ gr
  lo : wB.heap.size ≤ g
  lo' : wB.heap.size ≤ gr
  bel : Below wB.heap.size wB w
section
variable {wB w w' : World} {g gr : Nat} {win : Int} {x : Tri}
theorem Pair.kept (h : Pair wB w g gr win x) (hk : Keep (fun _ => False) w w') : Pair wB w' g gr win x :=
  ⟨h.at_.kept hk, h.ref.kept hk, h.ne, h.lo, h.lo', h.bel.trans (hk.below h.bel.size (fun _ h => h.elim))⟩
end

set_option maxHeartbeats 4000000 in
set_option maxRecDepth 100000 in
theorem walk (a0 : Int) (a1 : Option Addr) (cap1 : Nat) (z1 : List Deed) (w : World) (w0 : (Lit.int .u64 a0).wf = true) (c1 : z1.length ≤ 9223372036854775807) (r1 : RdO w a1 z1) :
    Calls Try.prog 3 #[.int .u64 a0, .slice a1 z1.length cap1] w fun e w' => e = .returned (.bool true) ∧ Below w.heap.size w w' := by
  have N0 : Hid (Num a0) := Lib.hid (bounds_u64 w0)
  have HR := Lib.hid r1
  clear w0 r1
  go_enter Try.func3, Try.ntmps3
  go_wp2_with fail
  refine (nnew_any a0 N0.out _).mono ?_
  rintro e w1 ⟨rfl, h1, k1⟩
  have H1 := Lib.hid h1; have K1 := Lib.hid k1; clear h1 k1
  go_wp2_with fail
  refine (rnew_true a0 N0.out _).mono ?_
  rintro e w2 ⟨rfl, h2, k2⟩
  have P2 : Hid (Pair w w2 w.heap.size w1.heap.size a0 (newT 18446744073709551615)) := Lib.hid ⟨H1.out.kept k2, h2, by have := H1.out.lt; omega, Nat.le_refl _, K1.out.size, (K1.out.trans k2).below (Nat.le_refl _) (fun _ h => h.elim)⟩
  clear h2 k2
  go_wp2_with fail
  refine (awaken_any _).mono ?_
  rintro e w3 ⟨rfl, k3⟩
  have P3 := Lib.hid (P2.out.kept k3); clear k3 P2 H1 K1
  generalize w1.heap.size = gr at *
  obtain ⟨g, hg⟩ : ∃ g, w.heap.size = g := ⟨_, rfl⟩
  have P3' : Hid (Pair w w3 g gr a0 (newT 18446744073709551615)) := Lib.hid (hg ▸ P3.out)
  rw [hg]
  clear hg P3
  go_wp2
  go_loopw [7] (fun i wr => ∃ (i' : Nat) (x : Tri), i' ≤ z1.length ∧ i' ≤ 100 ∧ i = .int .i64 i' ∧ Pair w wr g gr a0 x) (fun i _ => 100 - (intOf i).toNat)
  case atStart => exact ⟨0, _, Nat.zero_le _, by omega, rfl, P3'.out⟩
  case round =>
    obtain ⟨i, x, hi, hi100, rfl, hP⟩ := hrel
    have HP := Lib.hid hP; clear hP P3'
    by_cases hlt : i < z1.length ∧ i < 100
    · obtain ⟨hl1, hl2⟩ := hlt
      obtain ⟨⟨s, f, r, hs, hf⟩, hsf⟩ : ∃ d, z1[i]? = some d := ⟨_, List.getElem?_eq_getElem hl1⟩
      obtain ⟨b, off, rfl, -⟩ := HR.out i _ hsf
      obtain ⟨_, _, e, _, c0, c1, c2⟩ := HR.out.below HP.out.bel i _ hsf
      cases e
      dsimp only at c0 c1 c2
      have hi1 : (i : Int) < (z1.length : Int) := by omega
      have hi2 : (i : Int) < 100 := by omega
      have HS := Lib.hid hs; have HF := Lib.hid hf
      clear hsf HR
      have W4 := Lib.hid (Whole.new wr 30 #[.int .u64 s, .int .u64 f, .bool r])
      have P4 := Lib.hid (HP.out.kept ((Keep.refl _ _).alloc (.cells #[.int .u64 s, .int .u64 f, .bool r] 30)))
      have hBg : wr.heap.size ≠ g := by have := HP.out.at_.lt; omega
      have hBr : wr.heap.size ≠ gr := by have := HP.out.ref.lt; omega
      have hgr := HP.out.ne
      cases r
      · go_upto_region 11 with fail
        generalize hw4 : World.alloc wr _ = w4 at *
        generalize wr.heap.size = B at *
        clear hw4 HP c0 c1 c2
        have b0 : w4.cell? ⟨B, 0, none⟩ = some (.int .u64 s) := W4.out.cell 0
        have b1 : w4.cell? ⟨B, 1, none⟩ = some (.int .u64 f) := W4.out.cell 1
        refine wp_region_sch (fun W => W.cell? ⟨B, 0, none⟩ = some (.int .u64 s) ∧ W.cell? ⟨B, 1, none⟩ = some (.int .u64 f)) [(true, 0), (true, 1), (true, 2), (true, 3), (true, 4), (true, 6), (true, 7), (true, 8), (true, 9), (true, 10), (false, 5), (false, 11), (true, 12)] (by kernel_rfl) (by kernel_rfl) (by kernel_rfl) (by kernel_rfl) ⟨b0, b1⟩ ?_
        (repeat (refine wpSch_yes (v := ?_) rfl (fun _ _ _ h => h) (by rfl) ?_ ?_; rotate_left; (next => (intro w hSw; (try dsimp only at hSw); obtain ⟨hS1, hS2⟩ := hSw; go_simp; (try with_reducible rfl))); (try simp only [Act.put, List.setIfInBounds_toArray, List.set_cons_zero, List.set_cons_succ])))
        refine wpSch_call rfl (by rfl) (fun K hK => ?_)
        go_simp
        refine (nupd_any g a0 s f x _ P4.out.at_.drew HS.out HF.out).mono ?_
        rintro e w5 ⟨rfl, h5, k5⟩
        have k5' : Keep (fun k => k = g) w4 w5 := (Keep.refl (fun k => k = g) w4).drew.trans k5
        have H5 := Lib.hid h5; have R5 := Lib.hid (P4.out.ref.keep k5' (fun h => hgr h.symm)); have W5 := Lib.hid (W4.out.keep k5' hBg); have B5 := Lib.hid (P4.out.bel.trans (k5'.below P4.out.bel.size (fun j h => by subst h; exact P4.out.lo))); clear h5 k5 k5'
        refine hK.out _ _ ⟨W5.out.cell 0, W5.out.cell 1⟩ (fun hHeld => ?_)
        clear hK K hHeld
        (try simp only [Act.put, List.setIfInBounds_toArray, List.set_cons_zero, List.set_cons_succ])
        (repeat (refine wpSch_yes (v := ?_) rfl (fun _ _ _ h => h) (by rfl) ?_ ?_; rotate_left; (next => (intro w hSw; (try dsimp only at hSw); obtain ⟨hS1, hS2⟩ := hSw; go_simp; (try with_reducible rfl))); (try simp only [Act.put, List.setIfInBounds_toArray, List.set_cons_zero, List.set_cons_succ])))
        refine wpSch_call rfl (by rfl) (fun K hK => ?_)
        go_simp
        refine (rupd_is gr _ R5.out HS.out HF.out).mono ?_
        rintro e w6 ⟨rfl, h6, k6⟩
        have P6 : Hid (Pair w w6 g gr a0 (updT true a0 x s f)) := Lib.hid ⟨H5.out.keep k6 hgr, h6, hgr, P4.out.lo, P4.out.lo', B5.out.trans (k6.below B5.out.size (fun j h => by subst h; exact P4.out.lo'))⟩
        have W6 := Lib.hid (W5.out.keep k6 hBr)
        clear h6 k6
        refine hK.out _ _ ⟨W6.out.cell 0, W6.out.cell 1⟩ (fun hHeld => ?_)
        clear hK K hHeld H5 R5 W5 B5 W4 P4
        (try simp only [Act.put, List.setIfInBounds_toArray, List.set_cons_zero, List.set_cons_succ])
        generalize updT true a0 x s f = y at *
        have hyq : (y.v0 != y.v0) = false := by simp
        generalize hyv : y.v0 = yv at *
        (repeat (refine wpSch_yes (v := ?_) rfl (fun _ _ _ h => h) (by rfl) ?_ ?_; rotate_left; (next => (intro w hSw; (try dsimp only at hSw); obtain ⟨hS1, hS2⟩ := hSw; go_simp; (try with_reducible rfl))); (try simp only [Act.put, List.setIfInBounds_toArray, List.set_cons_zero, List.set_cons_succ])))
        refine wpSch_nil ?_
        subst hyv
        have P5 := Lib.hid P6.out
        generalize w6 = w5 at *
        go_upto_region 13 with fail
        have r4 : w5.cell? ⟨gr, 4, none⟩ = some (.int .u64 y.v0) := P5.out.ref.whole.cell 4
        refine wp_region_sch (fun W => W.cell? ⟨gr, 4, none⟩ = some (.int .u64 y.v0)) [(true, 0), (true, 2), (true, 3), (true, 4), (true, 5), (true, 6), (false, 1), (true, 7)] (by kernel_rfl) (by kernel_rfl) (by kernel_rfl) (by kernel_rfl) r4 ?_
        (repeat (refine wpSch_yes (v := ?_) rfl (fun _ _ _ h => h) (by rfl) ?_ ?_; rotate_left; (next => (intro w hSw; (try dsimp only at hSw); go_simp; (try with_reducible rfl))); (try simp only [Act.put, List.setIfInBounds_toArray, List.set_cons_zero, List.set_cons_succ])))
        refine wpSch_call rfl (by rfl) (fun K hK => ?_)
        go_simp
        refine (nbest_any g a0 y _ P5.out.at_.drew).mono ?_
        rintro e w' ⟨rfl, rfl⟩
        refine hK.out _ _ r4 (fun hHeld => ?_)
        clear hK K hHeld
        (try simp only [Act.put, List.setIfInBounds_toArray, List.set_cons_zero, List.set_cons_succ])
        have hyy : (y.v0 != y.v0) = false := by simp
        generalize y.v0 = yv at *
        (repeat (refine wpSch_yes (v := ?_) rfl (fun _ _ _ h => h) (by rfl) ?_ ?_; rotate_left; (next => (intro w hSw; (try dsimp only at hSw); go_simp; (try with_reducible rfl))); (try simp only [Act.put, List.setIfInBounds_toArray, List.set_cons_zero, List.set_cons_succ])))
        refine wpSch_nil ?_
        go_wp2
        go_roundw
        case rel => exact ⟨i + 1, _, by omega, by omega, by go_num, P5.out.kept ((Keep.refl _ _).drew)⟩
        case measure => simp [intOf]; omega
      · go_wp2_with fail
        generalize hw4 : World.alloc wr _ = w4 at *
        generalize wr.heap.size = B at *
        clear hw4 HP c0 c1 c2
        refine (nres_any g a0 s f x _ P4.out.at_ HS.out HF.out).mono ?_
        rintro e w5 ⟨⟨_, rfl⟩, h5, k5⟩
        have H5 := Lib.hid h5; have R5 := Lib.hid (P4.out.ref.keep k5 (fun h => hgr h.symm)); have W5 := Lib.hid (W4.out.keep k5 hBg); have B5 := Lib.hid (P4.out.bel.trans (k5.below P4.out.bel.size (fun j h => by subst h; exact P4.out.lo))); clear h5 k5
        have b0 : w5.cell? ⟨B, 0, none⟩ = some (.int .u64 s) := W5.out.cell 0
        have b1 : w5.cell? ⟨B, 1, none⟩ = some (.int .u64 f) := W5.out.cell 1
        go_wp2_with fail
        refine (rres_is gr _ R5.out HS.out HF.out).mono ?_
        rintro e w6 ⟨⟨_, rfl⟩, h6, k6⟩
        have P6 : Hid (Pair w w6 g gr a0 (resT x s f)) := Lib.hid ⟨H5.out.keep k6 hgr, h6, hgr, P4.out.lo, P4.out.lo', B5.out.trans (k6.below B5.out.size (fun j h => by subst h; exact P4.out.lo'))⟩
        clear h6 k6 H5 R5 W5 B5 W4 P4 b0 b1
        generalize resT x s f = y at *
        have P5 := Lib.hid P6.out
        generalize w6 = w5' at *
        clear P6
        generalize w5' = w5 at *
        go_upto_region 13 with fail
        have r4 : w5.cell? ⟨gr, 4, none⟩ = some (.int .u64 y.v0) := P5.out.ref.whole.cell 4
        refine wp_region_sch (fun W => W.cell? ⟨gr, 4, none⟩ = some (.int .u64 y.v0)) [(true, 0), (true, 2), (true, 3), (true, 4), (true, 5), (true, 6), (false, 1), (true, 7)] (by kernel_rfl) (by kernel_rfl) (by kernel_rfl) (by kernel_rfl) r4 ?_
        (repeat (refine wpSch_yes (v := ?_) rfl (fun _ _ _ h => h) (by rfl) ?_ ?_; rotate_left; (next => (intro w hSw; (try dsimp only at hSw); go_simp; (try with_reducible rfl))); (try simp only [Act.put, List.setIfInBounds_toArray, List.set_cons_zero, List.set_cons_succ])))
        refine wpSch_call rfl (by rfl) (fun K hK => ?_)
        go_simp
        refine (nbest_any g a0 y _ P5.out.at_.drew).mono ?_
        rintro e w' ⟨rfl, rfl⟩
        refine hK.out _ _ r4 (fun hHeld => ?_)
        clear hK K hHeld
        (try simp only [Act.put, List.setIfInBounds_toArray, List.set_cons_zero, List.set_cons_succ])
        have hyy : (y.v0 != y.v0) = false := by simp
        generalize y.v0 = yv at *
        (repeat (refine wpSch_yes (v := ?_) rfl (fun _ _ _ h => h) (by rfl) ?_ ?_; rotate_left; (next => (intro w hSw; (try dsimp only at hSw); go_simp; (try with_reducible rfl))); (try simp only [Act.put, List.setIfInBounds_toArray, List.set_cons_zero, List.set_cons_succ])))
        refine wpSch_nil ?_
        go_wp2
        go_roundw
        case rel => exact ⟨i + 1, _, by omega, by omega, by go_num, P5.out.kept ((Keep.refl _ _).drew)⟩
        case measure => simp [intOf]; omega
    · clear HR
      rcases (by omega : ¬ (i : Int) < (z1.length : Int) ∨ ((i : Int) < (z1.length : Int) ∧ ¬ (i : Int) < 100)) with hff | ⟨hf1, hff⟩
      · clear hlt
        go_wp2
        go_ret
        exact ⟨rfl, HP.out.bel⟩
      · clear hlt
        go_wp2
        go_ret
        exact ⟨rfl, HP.out.bel⟩

set_option maxRecDepth 100000 in
theorem lifted (os : Os) (started : os.Started) (H : Type) (enc : TypeId × Value → H) :
    ReturnsInHanded {} Try.checked os 3 .any (Rows.winminTellsSpec.pre6 enc Try.prog Try.f3 Rows.winminTellsRow.domain false) (Rows.winminTellsSpec.post enc Try.prog Try.f3 false true false false) := by
  refine returnsInHanded_of_change (C := Try.checked) own started (by kernel_rfl) Try.func3
    (ChangeSpec.witness6 (enc := enc) (C := Try.checked) false ⟨#[], #[.int .u64 0, .slice none 0 0], []⟩ 8 (by kernel_rfl) (by kernel_rfl) (by kernel_rfl) (by kernel_rfl)) ?_
  intro W base args ds gs before hval0 hW hcnd _
  have hval : ∀ (j : Nat) t v, Try.f3.params[j]? = some t → args[j]? = some v → Value.okWide Try.prog W .any base t v := hval0
  have hW' := hW
  obtain ⟨p, q, hA0, hV, rfl, hfz, hnd⟩ := hW
  have hA : DataW.TrodAll enc Try.prog W 0 (fun _ => true) true Try.f3.params.toList args.toList ds p := hA0
  rw [Try.params3] at hA hval
  obtain ⟨v0, vs0, d0, ds0, p0, q0, hargs, rfl, rfl, h0, r0'⟩ := trodAll_cons hA
  obtain ⟨v1, vs1, d1, ds1, p1, q1, rfl, rfl, rfl, h1, r1'⟩ := trodAll_cons r0'
  obtain ⟨rfl, rfl, rfl⟩ := trodAll_nil r1'
  obtain rfl : args = #[v0, v1] := by cases args; simp_all
  obtain ⟨rfl, rfl⟩ := trodVars_none hV
  obtain ⟨a0, rfl, rfl, rfl, w0⟩ := open_int Try.underlying22 (hval 0 22 v0 rfl rfl) h0
  obtain ⟨a1, len1, cap1, rfl⟩ := okWide_slice Try.underlying23 (hval 1 23 v1 rfl rfl)
  have k1 := h1
  have lt1 : ∀ x ∈ p1, x.block < W.heap.size := by obtain ⟨m, hm⟩ := k1; exact DataW.trod_lt m _ _ _ hm
  obtain ⟨z1, hz1, hc1, r1⟩ := open_ops h1
  subst hz1
  clear hA0 hval0
  refine (walk a0 a1 cap1 z1 W w0 hc1 r1).mono fun e W' ⟨he, bel⟩ => ?_
  subst he
  exact ⟨_, rfl, _, _, _, [], _, [], hW', trodAll_mk1 (shut_bool Try.underlying4 _), (trodAll_cons_mk (shut_int Try.underlying22 w0) (trodAll_cons_mk (Below.trod laidOut (by kernel_rfl) (of_decide_eq_true (by kernel_rfl)) k1 bel lt1) trodAll_mk0)), rfl, bel.frame _, fun h => by cases h⟩

theorem over : Rows.winminTellsRow.holds Try.pinned (OpenSpec.ofChange Rows.winminTellsSpec) :=
  OpenClaim.holds_of_wide 3 Try.f3 rfl rfl rfl rfl rfl rfl rfl ⟨rfl, rfl, rfl, rfl, rfl⟩ rfl rfl rfl rfl rfl (by kernel_rfl) Try.func3 (by kernel_rfl)
    (of_decide_eq_true (by kernel_rfl)) (by unfold Func.isWrapper; first | (rw [if_pos (by decide +kernel)]; kernel_rfl) | (rw [if_neg (by decide +kernel)]; exact ⟨rfl, rfl⟩))
    (fun os started H enc _ => lifted os started H enc)

theorem proved : Rows.WinminTellsSaid := over
end Go.Proofs.Ytcdhnokhklnkoaa.winminTells
namespace Go.Proofs.Ytcdhnokhklnkoaa
theorem winminTells_holds : Rows.WinminTellsSaid := winminTells.proved
#print axioms winminTells_holds
end Go.Proofs.Ytcdhnokhklnkoaa
