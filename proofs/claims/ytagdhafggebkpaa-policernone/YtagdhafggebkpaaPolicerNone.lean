/-
  Proved: canterlaw16.PolicerNone answers true at every list of updates, and leaves its argument as it was. Conditions: none.
-/
import Derived.Test.YtagdhafggebkpaaRows
import Derived.WalkKit
import Derived.ProofKit
import Derived.OpenShut
import Derived.ShutString
import Derived.Below
import Derived.Test.YtagdhafggebkpaaAwakeQ
import Derived.Test.YtagdhafggebkpaaOpenQ
import Derived.Test.YtagdhafggebkpaaSchedL
import Derived.OwnWalk
namespace Go.Proofs.Ytagdhafggebkpaa.policerNone
open Go.ChangeShapes Go.WideShapes Go.ChangeAt Go.RowKit
set_option linter.unusedVariables false

theorem own : ownKnob Try.prog.godebug = none := by kernel_rfl
theorem laidOut : laidOutB Try.prog = true := by kernel_rfl

theorem whole9 {w : World} {g : Nat} {t : TypeId} {c0 c1 c2 c3 c4 c5 c6 c7 c8 : Value} (h : Whole w g t #[c0, c1, c2, c3, c4, c5, c6, c7, c8]) :
    w.cell? ⟨g, 0, none⟩ = some c0 ∧ w.cell? ⟨g, 1, none⟩ = some c1 ∧ w.cell? ⟨g, 2, none⟩ = some c2 ∧ w.cell? ⟨g, 3, none⟩ = some c3 ∧ w.cell? ⟨g, 4, none⟩ = some c4 ∧ w.cell? ⟨g, 5, none⟩ = some c5 ∧ w.cell? ⟨g, 6, none⟩ = some c6 ∧ w.cell? ⟨g, 7, none⟩ = some c7 ∧ w.cell? ⟨g, 8, none⟩ = some c8 :=
  ⟨h.cell 0, h.cell 1, h.cell 2, h.cell 3, h.cell 4, h.cell 5, h.cell 6, h.cell 7, h.cell 8⟩
theorem no_loss {x : Pol} {st : Bool} {s : Spl} (hu : x.u = false) (hm : x.m = false) (ho : s.o = 0) : (updPol x st s).u = false ∧ (updPol x st s).m = false := by
  unfold updPol
  rw [hu, if_neg (by decide), hm, if_pos rfl, ho, if_neg (by decide)]
  exact ⟨hu, hm⟩
theorem lim_loss {x : Pol} {st : Bool} {s : Spl} (hu : x.u = false) (hl : s.l = true) : (updPol x st s).u = false := by
  unfold updPol
  rw [hu, if_neg (by decide), hl]
  split
  · split
    · exact hu
    · exact hu
  · rw [if_pos rfl]
    exact hu
theorem use_none {x : Pol} (h : x.u = false) : useV x = 0 ∧ x.u = false := ⟨by unfold useV; rw [h]; rfl, h⟩

set_option maxHeartbeats 4000000 in
set_option maxRecDepth 100000 in
theorem walk (a0 : Option Addr) (cap0 : Nat) (z0 : List QOp) (w : World) (c0 : z0.length ≤ 9223372036854775807) (r0 : RdL 10 cells10 w a0 z0) :
    Calls Try.prog 5 #[.slice a0 z0.length cap0] w fun e w' => e = .returned (.bool true) ∧ Below w.heap.size w w' := by
  have HR := Lib.hid r0
  clear r0
  go_enter Try.func5, Try.ntmps5
  go_wp2_with fail
  refine ((Room.begin w).polnew).mono ?_
  rintro e w1 ⟨rfl, r1⟩
  have R1 := Lib.hid r1; clear r1
  generalize w.heap.size = g at *
  go_wp2_with fail
  refine (R1.out.polnew).mono ?_
  rintro e w2 ⟨rfl, r2⟩
  have R2 := Lib.hid (r2.perm (List.Perm.swap _ _ _)); clear r2 R1
  generalize w1.heap.size = h at *
  go_wp2_with fail
  refine R2.out.awakeq.mono ?_
  rintro e w3 ⟨rfl, r3⟩
  have R3 := Lib.hid r3; clear r3 R2
  go_wp2
  go_loopg [5] 100 (fun j i wr => ∃ (k : Nat) (x y : Pol), k + j = 100 ∧ k ≤ z0.length ∧ i = .int .i64 k ∧ (x.u = false ∧ x.m = false ∧ y.u = false) ∧ Room w wr [polT g x, polT h y])
  case atStart => exact ⟨0, _, _, by omega, Nat.zero_le _, rfl, ⟨rfl, rfl, rfl⟩, R3.out⟩
  case round =>
    obtain ⟨k, x, y, hk100, hk1, rfl, hxy, hRm⟩ := hrel
    have HM := Lib.hid hRm; clear hRm R3
    have HXY := Lib.hid hxy; clear hxy
    by_cases hlt : k < z0.length ∧ k < 100
    · obtain ⟨hl1, hl2⟩ := hlt
      obtain ⟨⟨st, s, hs⟩, hjob⟩ : ∃ j, z0[k]? = some j := ⟨_, List.getElem?_eq_getElem hl1⟩
      obtain ⟨b, off, rfl, -, -⟩ := HR.out k _ hjob
      have HS : Hid (∀ W, Below w.heap.size w W → W.cell? ⟨b, off + k * 10, none⟩ = some (.bool st) ∧ W.cell? ⟨b, off + k * 10 + 1, none⟩ = some (.int .u64 s.n) ∧ W.cell? ⟨b, off + k * 10 + 2, none⟩ = some (.int .u64 s.d) ∧ W.cell? ⟨b, off + k * 10 + 3, none⟩ = some (.int .u64 s.p) ∧ W.cell? ⟨b, off + k * 10 + 4, none⟩ = some (.int .u64 s.i) ∧ W.cell? ⟨b, off + k * 10 + 5, none⟩ = some (.int .u64 s.r) ∧ W.cell? ⟨b, off + k * 10 + 6, none⟩ = some (.int .u64 s.a) ∧ W.cell? ⟨b, off + k * 10 + 7, none⟩ = some (.int .u64 s.o) ∧ W.cell? ⟨b, off + k * 10 + 8, none⟩ = some (.int .u64 s.f) ∧ W.cell? ⟨b, off + k * 10 + 9, none⟩ = some (.bool s.l)) := Lib.hid (fun W hbel => by
        obtain ⟨_, _, e, _, hc⟩ := HR.out.below hbel k _ hjob
        cases e
        exact ⟨hc 0 _ rfl, hc 1 _ rfl, hc 2 _ rfl, hc 3 _ rfl, hc 4 _ rfl, hc 5 _ rfl, hc 6 _ rfl, hc 7 _ rfl, hc 8 _ rfl, hc 9 _ rfl⟩)
      have hi1 : (k : Int) < (z0.length : Int) := by omega
      have hi2 : (k : Int) < 100 := by omega
      have HFX : Hid ((⟨s.n, s.d, s.p, s.i, s.r, s.a, 0, s.f, s.l⟩ : Spl).Fit) := Lib.hid ⟨hs.n, hs.d, hs.p, hs.i, hs.r, hs.a, num00, hs.f⟩
      have HFY : Hid ((⟨s.n, s.d, s.p, s.i, s.r, s.a, s.o, s.f, true⟩ : Spl).Fit) := Lib.hid ⟨hs.n, hs.d, hs.p, hs.i, hs.r, hs.a, hs.o, hs.f⟩
      obtain ⟨X, hX⟩ : ∃ X, updPol x st ⟨s.n, s.d, s.p, s.i, s.r, s.a, 0, s.f, s.l⟩ = X := ⟨_, rfl⟩
      obtain ⟨Y, hY⟩ : ∃ Y, updPol y st ⟨s.n, s.d, s.p, s.i, s.r, s.a, s.o, s.f, true⟩ = Y := ⟨_, rfl⟩
      have HXY2 : Hid (X.u = false ∧ X.m = false ∧ Y.u = false) := Lib.hid (by
        subst hX hY
        obtain ⟨q1, q2, q3⟩ := HXY.out
        obtain ⟨e1, e2⟩ := no_loss (st := st) (s := ⟨s.n, s.d, s.p, s.i, s.r, s.a, 0, s.f, s.l⟩) q1 q2 rfl
        exact ⟨e1, e2, lim_loss q3 rfl⟩)
      have HX := Lib.hid hX; have HY := Lib.hid hY
      clear hjob hs HR hX hY HXY
      go_upto_region 7 with fail
      go_cut [6, 7] (fun s6 s7 wx => ∃ B C, s6 = .pointer (some ⟨B, 0, none⟩) ∧ s7 = .pointer (some ⟨C, 0, none⟩) ∧ Room w wx [polT g x, polT h y, blkT B 32 s.c, blkT C 32 s.c])
      case first =>
        refine wp_region_sch2 (fun W => Below w.heap.size w W) (.yes 0 (.yes 1 (.yes 2 (.yes 3 (.yes 4 (.yes 5 (.yes 6 (.yes 7 (.yes 8 (.yes 9 (.two 10 (.one 11 (.one 12 (.one 13 .nil))) 11 (.one 10 (.one 12 (.one 13 .nil)))))))))))))) (by kernel_rfl) (by kernel_rfl) (by kernel_rfl) (by kernel_rfl) HM.out.drew.bel ?_
        (repeat (refine wpSch2_yes (v := ?_) rfl (fun _ _ _ h => h) (by rfl) ?_ ?_; rotate_left; (next => (intro w hSw; obtain ⟨c0, c1, c2, c3, c4, c5, c6, c7, c8, c9⟩ := HS.out _ hSw; clear hSw; go_simp; (try with_reducible rfl))); (try simp only [Act.put, List.setIfInBounds_toArray, List.set_cons_zero, List.set_cons_succ])))
        have HBK : Hid (∀ W, Keep (fun _ => False) wr W → Below w.heap.size w W) := Lib.hid (fun W hW => (HM.out.kept hW).bel)
        have R1 := ((HM.out.box2 32 s.c).box3 32 s.c).drew
        rw [World.size_alloc] at R1
        have HR1 := Lib.hid R1
        have HR2 := Lib.hid (R1.perm (List.Perm.cons _ (List.Perm.cons _ (List.Perm.swap _ _ _))))
        clear R1
        refine wpSch2_two ?_ ?_
        · refine wpOne_call rfl (by rfl) (fun K hK => ?_); go_simp
          refine hK.out _ _ (HBK.out _ (by first | exact ((Keep.refl _ _).alloc _).drew | exact (((Keep.refl _ _).alloc _).alloc _).drew)) (fun hHeld => ?_); clear hK K hHeld; (try simp only [Act.put, List.setIfInBounds_toArray, List.set_cons_zero, List.set_cons_succ])
          refine wpSch2_one ?_
          refine wpOne_call rfl (by rfl) (fun K hK => ?_); go_simp
          refine hK.out _ _ (HBK.out _ (by first | exact ((Keep.refl _ _).alloc _).drew | exact (((Keep.refl _ _).alloc _).alloc _).drew)) (fun hHeld => ?_); clear hK K hHeld; (try simp only [Act.put, List.setIfInBounds_toArray, List.set_cons_zero, List.set_cons_succ])
          refine wpSch2_one ?_
          refine wpOne_call rfl (by rfl) (fun K hK => ?_); go_simp
          refine hK.out _ _ (HBK.out _ (by first | exact ((Keep.refl _ _).alloc _).drew | exact (((Keep.refl _ _).alloc _).alloc _).drew)) (fun hHeld => ?_); clear hK K hHeld; (try simp only [Act.put, List.setIfInBounds_toArray, List.set_cons_zero, List.set_cons_succ])
          refine wpSch2_one ?_
          refine wpOne_call rfl (by rfl) (fun K hK => ?_); go_simp
          refine hK.out _ _ (HBK.out _ (by first | exact ((Keep.refl _ _).alloc _).drew | exact (((Keep.refl _ _).alloc _).alloc _).drew)) (fun hHeld => ?_); clear hK K hHeld; (try simp only [Act.put, List.setIfInBounds_toArray, List.set_cons_zero, List.set_cons_succ])
          refine wpSch2_nil ?_
          go_wp2
          go_meet
          exact ⟨_, _, rfl, rfl, HR1.out⟩
        · refine wpOne_call rfl (by rfl) (fun K hK => ?_); go_simp
          refine hK.out _ _ (HBK.out _ (by first | exact ((Keep.refl _ _).alloc _).drew | exact (((Keep.refl _ _).alloc _).alloc _).drew)) (fun hHeld => ?_); clear hK K hHeld; (try simp only [Act.put, List.setIfInBounds_toArray, List.set_cons_zero, List.set_cons_succ])
          refine wpSch2_one ?_
          refine wpOne_call rfl (by rfl) (fun K hK => ?_); go_simp
          refine hK.out _ _ (HBK.out _ (by first | exact ((Keep.refl _ _).alloc _).drew | exact (((Keep.refl _ _).alloc _).alloc _).drew)) (fun hHeld => ?_); clear hK K hHeld; (try simp only [Act.put, List.setIfInBounds_toArray, List.set_cons_zero, List.set_cons_succ])
          refine wpSch2_one ?_
          refine wpOne_call rfl (by rfl) (fun K hK => ?_); go_simp
          refine hK.out _ _ (HBK.out _ (by first | exact ((Keep.refl _ _).alloc _).drew | exact (((Keep.refl _ _).alloc _).alloc _).drew)) (fun hHeld => ?_); clear hK K hHeld; (try simp only [Act.put, List.setIfInBounds_toArray, List.set_cons_zero, List.set_cons_succ])
          refine wpSch2_one ?_
          refine wpOne_call rfl (by rfl) (fun K hK => ?_); go_simp
          refine hK.out _ _ (HBK.out _ (by first | exact ((Keep.refl _ _).alloc _).drew | exact (((Keep.refl _ _).alloc _).alloc _).drew)) (fun hHeld => ?_); clear hK K hHeld; (try simp only [Act.put, List.setIfInBounds_toArray, List.set_cons_zero, List.set_cons_succ])
          refine wpSch2_nil ?_
          go_wp2
          go_meet
          exact ⟨_, _, rfl, rfl, HR2.out⟩
      case rest =>
        obtain ⟨B, C, rfl, rfl, r4⟩ := hcut
        clear HM
        have B6 : wc.cell? ⟨B, 6, none⟩ = some (.int .u64 s.o) := Whole.cell r4.get2 6
        have F6 : wc.frozen? ⟨B, 6, none⟩ = false := Whole.free r4.get2 6
        have r5 := r4.step2 (t' := blkT B 32 #[.int .u64 s.n, .int .u64 s.d, .int .u64 s.p, .int .u64 s.i, .int .u64 s.r, .int .u64 s.a, .int .u64 0, .int .u64 s.f, .bool s.l]) (w' := wc.setCell ⟨B, 6, none⟩ (.int .u64 0)) (Whole.put r4.get2 6 (.int .u64 0)) ((Keep.refl (fun k => k = B) wc).setCell (p := ⟨B, 6, none⟩) (.inl rfl) _) own_same
        have C8 : (wc.setCell ⟨B, 6, none⟩ (.int .u64 0)).cell? ⟨C, 8, none⟩ = some (.bool s.l) := Whole.cell r5.get3 8
        have F8 : (wc.setCell ⟨B, 6, none⟩ (.int .u64 0)).frozen? ⟨C, 8, none⟩ = false := Whole.free r5.get3 8
        have r6 := r5.step3 (t' := blkT C 32 #[.int .u64 s.n, .int .u64 s.d, .int .u64 s.p, .int .u64 s.i, .int .u64 s.r, .int .u64 s.a, .int .u64 s.o, .int .u64 s.f, .bool true]) (w' := (wc.setCell ⟨B, 6, none⟩ (.int .u64 0)).setCell ⟨C, 8, none⟩ (.bool true)) (Whole.put r5.get3 8 (.bool true)) ((Keep.refl (fun k => k = C) (wc.setCell ⟨B, 6, none⟩ (.int .u64 0))).setCell (p := ⟨C, 8, none⟩) (.inl rfl) _) own_same
        have R6 := Lib.hid r6
        clear r4 r5 r6
        go_upto_region 10 with fail
        clear B6 F6 C8 F8
        generalize World.setCell _ _ _ = w6 at *
        refine wp_region_late (fun W => Below w.heap.size w W ∧ Whole W B 32 #[.int .u64 s.n, .int .u64 s.d, .int .u64 s.p, .int .u64 s.i, .int .u64 s.r, .int .u64 s.a, .int .u64 0, .int .u64 s.f, .bool s.l]) [7] (.yes 0 (.yes 1 (.yes 2 (.yes 3 (.yes 4 (.yes 5 (.yes 6 (.one 7 .nil)))))))) (by kernel_rfl) (by kernel_rfl) (by kernel_rfl) (by kernel_rfl) ⟨R6.out.drew.bel, R6.out.drew.get2⟩ ?_
        (repeat (refine wpSchL_yes (v := ?_) rfl (fun _ _ _ h => h) (by rfl) ?_ ?_; rotate_left; (next => (intro w hSw; obtain ⟨hS1, hS2⟩ := hSw; obtain ⟨c0, c1, c2, c3, c4, c5, c6, c7, c8, c9⟩ := HS.out _ hS1; obtain ⟨d0, d1, d2, d3, d4, d5, d6, d7, d8⟩ := whole9 hS2; clear hS1 hS2; go_simp; (try with_reducible rfl))); (try simp only [Act.put, List.setIfInBounds_toArray, List.set_cons_zero, List.set_cons_succ])))
        refine wpSchL_one ?_
        refine wpOneL_call rfl (by rfl) (fun K hK => ?_)
        go_simp
        refine (R6.out.drew.polupd HX.out HFX.out).mono ?_
        rintro e w7 ⟨⟨_, rfl⟩, r7⟩
        have R7 := Lib.hid r7; clear r7 R6
        refine hK.out _ _ ?_ (fun hHeld => ?_)
        · exact fun h => absurd h (by decide)
        clear hK K hHeld
        (try simp only [Act.put, List.setIfInBounds_toArray, List.set_cons_zero, List.set_cons_succ])
        refine wpSchL_nil ?_
        go_upto_region 11 with fail
        refine wp_region_late (fun W => Below w.heap.size w W ∧ Whole W C 32 #[.int .u64 s.n, .int .u64 s.d, .int .u64 s.p, .int .u64 s.i, .int .u64 s.r, .int .u64 s.a, .int .u64 s.o, .int .u64 s.f, .bool true]) [7] (.yes 0 (.yes 1 (.yes 2 (.yes 3 (.yes 4 (.yes 5 (.yes 6 (.one 7 .nil)))))))) (by kernel_rfl) (by kernel_rfl) (by kernel_rfl) (by kernel_rfl) ⟨R7.out.drew.bel, R7.out.drew.get3⟩ ?_
        (repeat (refine wpSchL_yes (v := ?_) rfl (fun _ _ _ h => h) (by rfl) ?_ ?_; rotate_left; (next => (intro w hSw; obtain ⟨hS1, hS2⟩ := hSw; obtain ⟨c0, c1, c2, c3, c4, c5, c6, c7, c8, c9⟩ := HS.out _ hS1; obtain ⟨d0, d1, d2, d3, d4, d5, d6, d7, d8⟩ := whole9 hS2; clear hS1 hS2; go_simp; (try with_reducible rfl))); (try simp only [Act.put, List.setIfInBounds_toArray, List.set_cons_zero, List.set_cons_succ])))
        refine wpSchL_one ?_
        refine wpOneL_call rfl (by rfl) (fun K hK => ?_)
        go_simp
        refine (R7.out.drew.polupd1 HY.out HFY.out).mono ?_
        rintro e w8 ⟨⟨_, rfl⟩, r8⟩
        have R8 := Lib.hid (r8.less (M := [polT g X, polT h Y]) (List.Sublist.cons_cons _ (List.Sublist.cons_cons _ (List.nil_sublist _)))); clear r8 R7
        refine hK.out _ _ ?_ (fun hHeld => ?_)
        · exact fun h => absurd h (by decide)
        clear hK K hHeld
        (try simp only [Act.put, List.setIfInBounds_toArray, List.set_cons_zero, List.set_cons_succ])
        refine wpSchL_nil ?_
        go_wp2_with fail
        refine (R8.out.poluse (use_none HXY2.out.1)).mono ?_
        rintro e w' ⟨rfl, rfl⟩
        go_wp2_with fail
        refine (R8.out.poluse1 (use_none HXY2.out.2.2)).mono ?_
        rintro e w' ⟨rfl, rfl⟩
        go_wp2
        go_roundg (gk - 1)
        case measure => omega
        case rel => exact ⟨k + 1, X, Y, by omega, by omega, by go_num, HXY2.out, R8.out⟩
    · by_cases hl1 : k < z0.length
      · have hi1 : (k : Int) < (z0.length : Int) := by omega
        have hi2 : ¬ (k : Int) < 100 := by omega
        go_wp2
        go_ret
        exact ⟨rfl, HM.out.bel⟩
      · have hi1 : ¬ (k : Int) < (z0.length : Int) := by omega
        go_wp2
        go_ret
        exact ⟨rfl, HM.out.bel⟩

set_option maxRecDepth 100000 in
theorem lifted (os : Os) (started : os.Started) (H : Type) (enc : TypeId × Value → H) :
    ReturnsInHanded {} Try.checked os 5 .any (Rows.policerNoneSpec.pre6 enc Try.prog Try.f5 Rows.policerNoneRow.domain false) (Rows.policerNoneSpec.post enc Try.prog Try.f5 false true false false) := by
  refine returnsInHanded_of_change (C := Try.checked) own started (by kernel_rfl) Try.func5
    (ChangeSpec.witness6 (enc := enc) (C := Try.checked) false ⟨#[], #[.slice none 0 0], []⟩ 8 (by kernel_rfl) (by kernel_rfl) (by kernel_rfl) (by kernel_rfl)) ?_
  intro W base args ds gs before hval0 hW hcnd _
  have hval : ∀ (j : Nat) t v, Try.f5.params[j]? = some t → args[j]? = some v → Value.okWide Try.prog W .any base t v := hval0
  have hW' := hW
  obtain ⟨p, q, hA0, hV, rfl, hfz, hnd⟩ := hW
  have hA : DataW.TrodAll enc Try.prog W 0 (fun _ => true) true Try.f5.params.toList args.toList ds p := hA0
  rw [Try.params5] at hA hval
  obtain ⟨v0, vs0, d0, ds0, p0, q0, hargs, rfl, rfl, h0, r0'⟩ := trodAll_cons hA
  obtain ⟨rfl, rfl, rfl⟩ := trodAll_nil r0'
  obtain rfl : args = #[v0] := by cases args; simp_all
  obtain ⟨rfl, rfl⟩ := trodVars_none hV
  obtain ⟨a0, len0, cap0, rfl⟩ := okWide_slice Try.underlying22 (hval 0 22 v0 rfl rfl)
  have k0 := h0
  have lt0 : ∀ x ∈ p0, x.block < W.heap.size := by obtain ⟨m, hm⟩ := k0; exact DataW.trod_lt m _ _ _ hm
  obtain ⟨z0, hz0, hc0, r0⟩ := open_qops h0
  subst hz0
  clear hA0 hval0
  refine (walk a0 cap0 z0 W hc0 r0).mono fun e W' ⟨he, bel⟩ => ?_
  subst he
  exact ⟨_, rfl, _, _, _, [], _, [], hW', trodAll_mk1 (shut_bool Try.underlying4 _), (trodAll_cons_mk (Below.trod laidOut (by kernel_rfl) (of_decide_eq_true (by kernel_rfl)) k0 bel lt0) trodAll_mk0), rfl, bel.frame _, fun h => by cases h⟩

theorem over : Rows.policerNoneRow.holds Try.pinned (OpenSpec.ofChange Rows.policerNoneSpec) :=
  OpenClaim.holds_of_wide 5 Try.f5 rfl rfl rfl rfl rfl rfl rfl ⟨rfl, rfl, rfl, rfl, rfl⟩ rfl rfl rfl rfl rfl (by kernel_rfl) Try.func5 (by kernel_rfl)
    (of_decide_eq_true (by kernel_rfl)) (by unfold Func.isWrapper; first | (rw [if_pos (by decide +kernel)]; kernel_rfl) | (rw [if_neg (by decide +kernel)]; exact ⟨rfl, rfl⟩))
    (fun os started H enc _ => lifted os started H enc)

theorem proved : Rows.PolicerNoneSaid := over
end Go.Proofs.Ytagdhafggebkpaa.policerNone
namespace Go.Proofs.Ytagdhafggebkpaa
theorem policerNone_holds : Rows.PolicerNoneSaid := policerNone.proved
#print axioms policerNone_holds
end Go.Proofs.Ytagdhafggebkpaa
