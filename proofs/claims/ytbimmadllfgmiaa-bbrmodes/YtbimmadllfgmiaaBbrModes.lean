/-
  Proved: canterlaw17.BbrModes answers true at every mss and every list of samples, and leaves its arguments as they were. Conditions: none.
-/
import Derived.Test.YtbimmadllfgmiaaRows
import Derived.WalkKit
import Derived.ProofKit
import Derived.OpenShut
import Derived.ShutString
import Derived.Below
import Derived.Test.YtbimmadllfgmiaaAwakeM
import Derived.Test.YtbimmadllfgmiaaBbrMore
import Derived.Test.YtbimmadllfgmiaaPlaySpl
import Derived.Test.YtbimmadllfgmiaaOpenS
import Derived.OwnWalk
namespace Go.Proofs.Ytbimmadllfgmiaa.bbrModes
open Go.ChangeShapes Go.WideShapes Go.ChangeAt Go.RowKit
set_option maxRecDepth 100000
set_option linter.unusedVariables false

theorem own : ownKnob Try.prog.godebug = none := by kernel_rfl
theorem laidOut : laidOutB Try.prog = true := by kernel_rfl

theorem sub2 {a b c : Thing} : [a, b].Sublist [a, b, c] := List.Sublist.cons_cons _ (List.Sublist.cons_cons _ (List.nil_sublist _))

set_option maxHeartbeats 4000000 in
set_option maxRecDepth 100000 in
theorem walk (a0 : Int) (a1 : Option Addr) (cap1 : Nat) (z1 : List SplF) (w : World) (w0 : (Lit.int .u64 a0).wf = true) (c1 : z1.length ≤ 9223372036854775807) (r1 : RdL 9 cells9 w a1 z1) :
    Calls Try.prog 4 #[.int .u64 a0, .slice a1 z1.length cap1] w fun e w' => e = .returned (.bool true) ∧ Below w.heap.size w w' := by
  obtain ⟨v0, v1⟩ := bounds_u64 w0
  clear w0
  have HR := Lib.hid r1
  clear r1
  go_enter Try.func4, Try.ntmps4
  go_wp2_with fail
  refine ((Room.begin w).modnew ⟨v0, v1⟩).mono ?_
  rintro e w1 ⟨g, rfl, r1⟩
  have R1 := Lib.hid r1; clear r1 v0 v1
  go_wp2_with fail
  refine R1.out.awakem.mono ?_
  rintro e w3 ⟨rfl, r3⟩
  have R3 := Lib.hid r3; clear r3 R1
  obtain ⟨x0, hx0⟩ : ∃ x0, newM (clampS a0) = x0 := ⟨_, rfl⟩
  rw [hx0] at R3
  have HX0 : Hid (Mds x0 ∧ x0.r.c ≤ 0) := Lib.hid (hx0 ▸ ⟨mds_new, Int.le_refl _⟩)
  clear hx0
  go_wp2_with fail
  refine (R3.out.modsta rfl).mono ?_
  rintro e w4 ⟨rfl, r4⟩
  have R4 := Lib.hid (r4.box1 28 (staC x0)); clear r4 R3
  go_upto_region 5 with fail
  generalize hw5 : World.alloc w4 _ = w5 at *
  have R5 : Hid (Room w w5 [modT g x0, blkT w4.heap.size 28 (staC x0)]) := R4
  clear R4 hw5
  generalize w4.heap.size = bw at *
  go_wp2
  go_loopg [7] 100 (fun j i wr => ∃ (k : Nat) (x : Mdl), k + j = 100 ∧ k ≤ z1.length ∧ i = .int .i64 k ∧ Mds x ∧ x.r.c ≤ k ∧ Room w wr [modT g x, blkT bw 28 (staC x)])
  case atStart => exact ⟨0, x0, by omega, Nat.zero_le _, rfl, HX0.out.1, HX0.out.2, R5.out⟩
  case round =>
    obtain ⟨k, x, hk100, hk1, rfl, hxm, hxc, hRm⟩ := hrel
    have HM := Lib.hid hRm; clear hRm R5
    by_cases hlt : k < z1.length ∧ k < 100
    · obtain ⟨hl1, hl2⟩ := hlt
      obtain ⟨⟨s, hs⟩, hjob⟩ : ∃ j, z1[k]? = some j := ⟨_, List.getElem?_eq_getElem hl1⟩
      obtain ⟨b, off, rfl, hbw, -⟩ := HR.out k _ hjob
      have HBW := Lib.hid hbw
      have HS : Hid (∀ W, Below w.heap.size w W → W.cell? ⟨b, off + k * 9, none⟩ = some (.int .u64 s.n) ∧ W.cell? ⟨b, off + k * 9 + 1, none⟩ = some (.int .u64 s.d) ∧ W.cell? ⟨b, off + k * 9 + 2, none⟩ = some (.int .u64 s.p) ∧ W.cell? ⟨b, off + k * 9 + 3, none⟩ = some (.int .u64 s.i) ∧ W.cell? ⟨b, off + k * 9 + 4, none⟩ = some (.int .u64 s.r) ∧ W.cell? ⟨b, off + k * 9 + 5, none⟩ = some (.int .u64 s.a) ∧ W.cell? ⟨b, off + k * 9 + 6, none⟩ = some (.int .u64 s.o) ∧ W.cell? ⟨b, off + k * 9 + 7, none⟩ = some (.int .u64 s.f) ∧ W.cell? ⟨b, off + k * 9 + 8, none⟩ = some (.bool s.l)) := Lib.hid (fun W hbel => by
        obtain ⟨_, _, e, _, hc⟩ := HR.out.below hbel k _ hjob
        cases e
        exact ⟨hc 0 _ rfl, hc 1 _ rfl, hc 2 _ rfl, hc 3 _ rfl, hc 4 _ rfl, hc 5 _ rfl, hc 6 _ rfl, hc 7 _ rfl, hc 8 _ rfl⟩)
      have HSF := Lib.hid hs
      clear hjob hs hbw
      have hi1 : (k : Int) < (z1.length : Int) := by omega
      have hi2 : (k : Int) < 100 := by omega
      obtain ⟨s', hs'⟩ : ∃ s', playV s = s' := ⟨_, rfl⟩
      have HP := Lib.hid hs'
      have HSP : Hid s'.Fit := Lib.hid (hs' ▸ playV_fit HSF.out)
      have HC : Hid (x.r.c < 18446744073709551615) := Lib.hid (by omega)
      obtain ⟨y, hy⟩ : ∃ y, updM x s' 2000 = y := ⟨_, rfl⟩
      have HE := Lib.hid hy
      have HD : Hid (Mds y ∧ (x.m ≠ 0 → x.m ≠ 3 → y.m ≠ 0) ∧ (x.m = 2 → y.m ≠ 1) ∧ (x.m = 3 → y.m ≠ 1)) := Lib.hid (hy ▸ upd_modes hxm)
      have HFU : Hid (fullP x.p = true → fullP y.p = true) := Lib.hid (hy ▸ upd_full)
      have HRC : Hid (x.r.c ≤ y.r.c ∧ y.r.c ≤ x.r.c + 1 ∧ y.r.c ≤ (k + 1 : Nat)) := Lib.hid (by
        have := upd_rc (x := x) (s := s') (tso := 2000)
        rw [hy] at this
        split at this <;> refine ⟨?_, ?_, ?_⟩ <;> omega)
      clear HR hs' hy hxm hxc
      obtain ⟨c0, c1, c2, c3, c4, c5, c6, c7, c8⟩ := HS.out _ HM.out.bel
      have hbl : b < wr.heap.size := Nat.lt_of_lt_of_le HBW.out HM.out.bel.size
      go_wp2_with fail
      refine (HM.out.play HSF.out HP.out).mono ?_
      rintro e w6 ⟨rfl, r6⟩
      have R6 := Lib.hid r6; clear r6 HM c0 c1 c2 c3 c4 c5 c6 c7 c8 hbl
      go_wp2_with fail
      refine (R6.out.modupd HE.out rfl HSP.out ⟨by decide, by decide⟩ HC.out).mono ?_
      rintro e w7 ⟨rfl, r7⟩
      have R7 := Lib.hid (r7.box2 28 (staC y)); clear r7 R6
      go_upto_region 9 with fail
      generalize hw8 : World.alloc w7 _ = w8 at *
      have R8 : Hid (Room w w8 [modT g y, blkT bw 28 (staC x), blkT w7.heap.size 28 (staC y)]) := R7
      clear R7 hw8
      generalize w7.heap.size = bx at *
      have e0 : w8.cell? ⟨bw, 0, none⟩ = some (.int .i64 x.m) := (show Whole w8 bw _ _ from R8.out.get1).cell 0
      have e7 : w8.cell? ⟨bw, 7, none⟩ = some (.int .u64 x.r.c) := (show Whole w8 bw _ _ from R8.out.get1).cell 7
      have e8 : w8.cell? ⟨bw, 8, none⟩ = some (.bool (fullP x.p)) := (show Whole w8 bw _ _ from R8.out.get1).cell 8
      have d0 : w8.cell? ⟨bx, 0, none⟩ = some (.int .i64 y.m) := (show Whole w8 bx _ _ from R8.out.get2).cell 0
      have d7 : w8.cell? ⟨bx, 7, none⟩ = some (.int .u64 y.r.c) := (show Whole w8 bx _ _ from R8.out.get2).cell 7
      have d8 : w8.cell? ⟨bx, 8, none⟩ = some (.bool (fullP y.p)) := (show Whole w8 bx _ _ from R8.out.get2).cell 8
      go_cut [9] (fun s9 wx => s9 = .bool false ∧ wx = w8)
      case first =>
        by_cases h0 : x.m = 0
        · have q0 : (x.m != 0) = false := by simp [h0]
          clear h0
          go_wp2
          go_meet
          exact ⟨rfl, rfl⟩
        · have q0 : (x.m != 0) = true := by simp [h0]
          by_cases h3 : x.m = 3
          · have q3 : (x.m != 3) = false := by simp [h3]
            clear h0 h3
            go_wp2
            go_meet
            exact ⟨rfl, rfl⟩
          · have q3 : (x.m != 3) = true := by simp [h3]
            have q4 : (y.m == 0) = false := by have := HD.out.2.1 h0 h3; simp [this]
            clear h0 h3
            go_wp2
            go_meet
            exact ⟨rfl, rfl⟩
      case rest =>
      obtain ⟨rfl, rfl⟩ := hcut
      go_upto_region 10 with fail
      go_cut [84] (fun s84 wx => s84 = .bool false ∧ wx = wc)
      case first =>
        have hff : (y.m = 1 ∨ y.m = 2) → fullP y.p = true := HD.out.1.f
        have h21 := HD.out.2.2.1
        have hfu := HFU.out
        generalize fullP y.p = FY at *
        generalize fullP x.p = FX at *
        by_cases h1 : y.m = 1
        · obtain rfl : FY = true := hff (.inl h1)
          have hx2 : (x.m == 2) = false := by
            simp; intro h; exact h21 h h1
          have q1 : (y.m == 1) = true := by simp [h1]
          clear h1 hff h21 hfu
          cases FX
          · skip
            go_wp2
            go_meet
            exact ⟨rfl, rfl⟩
          · skip
            go_wp2
            go_meet
            exact ⟨rfl, rfl⟩
        · have q1 : (y.m == 1) = false := by simp [h1]
          have hx2 : (x.m == 2) = true ∨ (x.m == 2) = false := by cases (x.m == 2) <;> simp
          by_cases h2 : y.m = 2
          · obtain rfl : FY = true := hff (.inr h2)
            have q2 : (y.m == 2) = true := by simp [h2]
            clear h1 h2 hff h21 hfu
            rcases hx2 with hx2 | hx2
            · cases FX
              · skip
                go_wp2
                go_meet
                exact ⟨rfl, rfl⟩
              · skip
                go_wp2
                go_meet
                exact ⟨rfl, rfl⟩
            · cases FX
              · skip
                go_wp2
                go_meet
                exact ⟨rfl, rfl⟩
              · skip
                go_wp2
                go_meet
                exact ⟨rfl, rfl⟩
          · have q2 : (y.m == 2) = false := by simp [h2]
            clear h1 h2 hff h21
            cases FX
            · clear hfu
              rcases hx2 with hx2 | hx2
              · skip
                go_wp2
                go_meet
                exact ⟨rfl, rfl⟩
              · skip
                go_wp2
                go_meet
                exact ⟨rfl, rfl⟩
            · obtain rfl : FY = true := hfu rfl
              clear hfu
              rcases hx2 with hx2 | hx2
              · skip
                go_wp2
                go_meet
                exact ⟨rfl, rfl⟩
              · skip
                go_wp2
                go_meet
                exact ⟨rfl, rfl⟩
      case rest =>
      obtain ⟨rfl, rfl⟩ := hcut
      go_upto_region 12 with fail
      go_cut [107] (fun s107 wx => s107 = .bool false ∧ wx = wc)
      case first =>
        have hn1 : ¬ y.r.c < x.r.c := by have := HRC.out.1; omega
        have hw1 : IntKind.u64.wrap (x.r.c + 1) = x.r.c + 1 := by have := HC.out; have := R8.out.get0.fit.r.c.1; have := HRC.out.2.1; have := HRC.out.1; rw [IntKind.wrap_u64]; omega
        have hn2 : ¬ x.r.c + 1 < y.r.c := by have := HRC.out.2.1; omega
        by_cases h3 : x.m = 3
        · have q3 : (x.m == 3) = true := by simp [h3]
          have q4 : (y.m == 1) = false := by have := HD.out.2.2.2 h3; simp [this]
          clear h3
          go_wp2
          go_meet
          exact ⟨rfl, rfl⟩
        · have q3 : (x.m == 3) = false := by simp [h3]
          clear h3
          go_wp2
          go_meet
          exact ⟨rfl, rfl⟩
      case rest =>
      obtain ⟨rfl, rfl⟩ := hcut
      clear e0 e7 e8 d0 d7 d8
      have hD := (show Whole wc bx 28 (staC y) from R8.out.get2)
      have d0 : wc.cell? ⟨bx, 0, none⟩ = some (.int .i64 y.m) := hD.cell 0
      have d1 : wc.cell? ⟨bx, 1, none⟩ = some (.int .i64 y.c.p) := hD.cell 1
      have d2 : wc.cell? ⟨bx, 2, none⟩ = some (.int .u64 y.t) := hD.cell 2
      have d3 : wc.cell? ⟨bx, 3, none⟩ = some (.int .u64 y.w) := hD.cell 3
      have d4 : wc.cell? ⟨bx, 4, none⟩ = some (.int .u64 (bwM y)) := hD.cell 4
      have d5 : wc.cell? ⟨bx, 5, none⟩ = some (.int .u64 y.q.b) := hD.cell 5
      have d6 : wc.cell? ⟨bx, 6, none⟩ = some (.int .u64 (gainM y)) := hD.cell 6
      have d7 : wc.cell? ⟨bx, 7, none⟩ = some (.int .u64 y.r.c) := hD.cell 7
      have d8 : wc.cell? ⟨bx, 8, none⟩ = some (.bool (fullP y.p)) := hD.cell 8
      have d9 : wc.cell? ⟨bx, 9, none⟩ = some (.bool y.o.u) := hD.cell 9
      obtain ⟨⟨p0, q0⟩, ⟨p1, q1⟩, ⟨p2, q2⟩, ⟨p3, q3⟩, ⟨p4, q4⟩, ⟨p5, q5⟩, ⟨p6, q6⟩, ⟨p7, q7⟩, ⟨p8, q8⟩, ⟨p9, q9⟩, pw, pk⟩ := (show Whole wc bw 28 (staC x) from R8.out.get1).fill10 (.int .i64 y.m) (.int .i64 y.c.p) (.int .u64 y.t) (.int .u64 y.w) (.int .u64 (bwM y)) (.int .u64 y.q.b) (.int .u64 (gainM y)) (.int .u64 y.r.c) (.bool (fullP y.p)) (.bool y.o.u)
      have R9 := Lib.hid ((R8.out.step1 (t' := blkT bw 28 (staC y)) pw pk own_same).less sub2)
      clear pw pk hD R8
      go_wp2
      go_roundg (gk - 1)
      case measure => omega
      case rel => exact ⟨k + 1, y, by omega, by omega, by go_num, HD.out.1, HRC.out.2.2, R9.out⟩
    · by_cases hl1 : k < z1.length
      · have hi1 : (k : Int) < (z1.length : Int) := by omega
        have hi2 : ¬ (k : Int) < 100 := by omega
        go_wp2
        go_ret
        exact ⟨rfl, HM.out.bel⟩
      · have hi1 : ¬ (k : Int) < (z1.length : Int) := by omega
        go_wp2
        go_ret
        exact ⟨rfl, HM.out.bel⟩

set_option maxRecDepth 100000 in
theorem lifted (os : Os) (started : os.Started) (H : Type) (enc : TypeId × Value → H) :
    ReturnsInHanded {} Try.checked os 4 .any (Rows.bbrModesSpec.pre6 enc Try.prog Try.f4 Rows.bbrModesRow.domain false) (Rows.bbrModesSpec.post enc Try.prog Try.f4 false true false false) := by
  refine returnsInHanded_of_change (C := Try.checked) own started (by kernel_rfl) Try.func4
    (ChangeSpec.witness6 (enc := enc) (C := Try.checked) false ⟨#[], #[.int .u64 0, .slice none 0 0], []⟩ 8 (by kernel_rfl) (by kernel_rfl) (by kernel_rfl) (by kernel_rfl)) ?_
  intro W base args ds gs before hval0 hW hcnd _
  have hval : ∀ (j : Nat) t v, Try.f4.params[j]? = some t → args[j]? = some v → Value.okWide Try.prog W .any base t v := hval0
  have hW' := hW
  obtain ⟨p, q, hA0, hV, rfl, hfz, hnd⟩ := hW
  have hA : DataW.TrodAll enc Try.prog W 0 (fun _ => true) true Try.f4.params.toList args.toList ds p := hA0
  rw [Try.params4] at hA hval
  obtain ⟨v0, vs0, d0, ds0, p0, q0, hargs, rfl, rfl, h0, r0'⟩ := trodAll_cons hA
  obtain ⟨v1, vs1, d1, ds1, p1, q1, rfl, rfl, rfl, h1, r1'⟩ := trodAll_cons r0'
  obtain ⟨rfl, rfl, rfl⟩ := trodAll_nil r1'
  obtain rfl : args = #[v0, v1] := by cases args; simp_all
  obtain ⟨rfl, rfl⟩ := trodVars_none hV
  obtain ⟨a0, rfl, rfl, rfl, w0⟩ := open_int Try.underlying22 (hval 0 22 v0 rfl rfl) h0
  obtain ⟨a1, len1, cap1, rfl⟩ := okWide_slice Try.underlying23 (hval 1 23 v1 rfl rfl)
  have k1 := h1
  have lt1 : ∀ x ∈ p1, x.block < W.heap.size := by obtain ⟨m, hm⟩ := k1; exact DataW.trod_lt m _ _ _ hm
  obtain ⟨z1, hz1, hc1, r1⟩ := open_spls h1
  subst hz1
  clear hA0 hval0
  refine (walk a0 a1 cap1 z1 W w0 hc1 r1).mono fun e W' ⟨he, bel⟩ => ?_
  subst he
  exact ⟨_, rfl, _, _, _, [], _, [], hW', trodAll_mk1 (shut_bool Try.underlying4 _), (trodAll_cons_mk (shut_int Try.underlying22 w0) (trodAll_cons_mk (Below.trod laidOut (by kernel_rfl) (of_decide_eq_true (by kernel_rfl)) k1 bel lt1) trodAll_mk0)), rfl, bel.frame _, fun h => by cases h⟩

theorem over : Rows.bbrModesRow.holds Try.pinned (OpenSpec.ofChange Rows.bbrModesSpec) :=
  OpenClaim.holds_of_wide 4 Try.f4 rfl rfl rfl rfl rfl rfl rfl ⟨rfl, rfl, rfl, rfl, rfl⟩ rfl rfl rfl rfl rfl (by kernel_rfl) Try.func4 (by kernel_rfl)
    (of_decide_eq_true (by kernel_rfl)) (by unfold Func.isWrapper; first | (rw [if_pos (by decide +kernel)]; kernel_rfl) | (rw [if_neg (by decide +kernel)]; exact ⟨rfl, rfl⟩))
    (fun os started H enc _ => lifted os started H enc)

theorem proved : Rows.BbrModesSaid := over
end Go.Proofs.Ytbimmadllfgmiaa.bbrModes
namespace Go.Proofs.Ytbimmadllfgmiaa
theorem bbrModes_holds : Rows.BbrModesSaid := bbrModes.proved
#print axioms bbrModes_holds
end Go.Proofs.Ytbimmadllfgmiaa
