/-
  Proved: canterlaw17.BbrTells answers true at every mss, every list of samples, every list of sizes, played or raw, and leaves its arguments as they were. Conditions: none.
-/
import Derived.Test.YtcjgpkjhfbamfaaGreatRows
import Derived.Test.YtcjgpkjhfbamfaaGreatJ38
import Derived.Test.YtcjgpkjhfbamfaaGreatJ26
import Derived.Test.YtcjgpkjhfbamfaaGreatJ39
import Derived.WalkKit
import Derived.ProofKit
import Derived.OpenShut
import Derived.ShutString
import Derived.Below
import Derived.OwnWalk
namespace Go.Proofs.YtcjgpkjhfbamfaaGreat.bbrTells
open Go.ChangeShapes Go.WideShapes Go.ChangeAt Go.RowKit
set_option maxRecDepth 100000
set_option linter.unusedVariables false

theorem own : ownKnob Tryz.prog.godebug = none := by kernel_rfl
theorem laidOut : laidOutB Tryz.prog = true := by kernel_rfl

theorem sub2 {a b : Thing} {L : List Thing} : [a, b].Sublist (a :: b :: L) := List.Sublist.cons_cons _ (List.Sublist.cons_cons _ (List.nil_sublist _))
theorem Tryz.neMod (o0 o1 o2 o3 o4 o5 o6 o7 : Int) (o8 o9 : Bool) (w : World) : (binOp .neq 31 (.agg #[.int .i64 o0, .int .i64 o1, .int .u64 o2, .int .u64 o3, .int .u64 o4, .int .u64 o5, .int .u64 o6, .int .u64 o7, .bool o8, .bool o9]) (.agg #[.int .i64 o0, .int .i64 o1, .int .u64 o2, .int .u64 o3, .int .u64 o4, .int .u64 o5, .int .u64 o6, .int .u64 o7, .bool o8, .bool o9])).run Tryz.prog w = .ok (.bool false) w := by
  go_simp

set_option maxHeartbeats 4000000 in
set_option maxRecDepth 100000 in
theorem walk (a0 : Int) (a1 : Option Addr) (cap1 : Nat) (z1 : List SplF) (a2 : Option Addr) (cap2 : Nat) (z2 : List NumU) (a3 : Bool) (w : World) (w0 : (Lit.int .u64 a0).wf = true) (c1 : z1.length ≤ 9223372036854775807) (r1 : RdL 9 cells9 w a1 z1) (c2 : z2.length ≤ 9223372036854775807) (r2 : RdL 1 cellsU w a2 z2)  :
    Calls Tryz.prog 3 #[.int .u64 a0, .slice a1 z1.length cap1, .slice a2 z2.length cap2, .bool a3] w fun e w' => e = .returned (.bool true) ∧ Below w.heap.size w w' := by
  obtain ⟨v0, v1⟩ := bounds_u64 w0
  clear w0
  have HR := Lib.hid r1
  have HU := Lib.hid r2
  clear r1 r2
  obtain ⟨h, hh⟩ : ∃ h, clampS a0 = h := ⟨_, rfl⟩
  go_enter Tryz.func3, Tryz.ntmps3
  go_wp2_with fail
  refine ((Room.begin w).modnew ⟨v0, v1⟩).mono ?_
  rintro e w1 ⟨g, rfl, r1⟩
  rw [hh] at r1
  have R1 := Lib.hid r1; clear r1
  go_wp2_with fail
  refine (R1.out.rmodnew ⟨v0, v1⟩).mono ?_
  rintro e w2 ⟨g2, k2, rfl, r2⟩
  rw [hh] at r2
  obtain ⟨x0, hx0⟩ : ∃ x0, newM h = x0 := ⟨_, rfl⟩
  have HC0 : Hid (x0.r.c ≤ 0) := Lib.hid (by rw [← hx0]; exact Int.le_refl _)
  rw [hx0] at r2
  have R2 : Hid (Room w w2 [modT g x0, rmodT g2 k2 x0]) := Lib.hid (r2.perm (List.Perm.swap _ _ _))
  clear r2 R1 v0 v1 hh hx0
  go_wp2_with fail
  refine R2.out.awakem.mono ?_
  rintro e w3 ⟨rfl, r3⟩
  have R3 := Lib.hid r3; clear r3 R2
  have hne := Tryz.neMod
  obtain ⟨o0, o1, o2, o3, o4, o5, o6, o7, o8, o9, ho⟩ : ∃ o0 o1 o2 o3 o4 o5 o6 o7 o8 o9, staC x0 = #[.int .i64 o0, .int .i64 o1, .int .u64 o2, .int .u64 o3, .int .u64 o4, .int .u64 o5, .int .u64 o6, .int .u64 o7, .bool o8, .bool o9] := ⟨_, _, _, _, _, _, _, _, _, _, rfl⟩
  have HO := Lib.hid ho; clear ho
  go_wp2_with fail
  refine (R3.out.modsta HO.out).mono ?_
  rintro e w4 ⟨rfl, r4⟩
  have R4 := Lib.hid r4; clear r4 R3
  go_wp2_with fail
  refine (R4.out.rmodsta1 HO.out).mono ?_
  rintro e w5 ⟨rfl, r5⟩
  have R5 := Lib.hid r5; clear r5 R4 HO
  go_wp2
  go_loopg [11] 100 (fun j i wr => ∃ (k : Nat) (x : Mdl), k + j = 100 ∧ k ≤ z1.length ∧ i = .int .i64 k ∧ x.r.c ≤ k ∧ Room w wr [modT g x, rmodT g2 k2 x])
  case atStart => exact ⟨0, x0, by omega, Nat.zero_le _, rfl, HC0.out, R5.out⟩
  case round =>
    obtain ⟨k, x, hk100, hk1, rfl, hxc, hRm⟩ := hrel
    have HM := Lib.hid hRm; clear hRm R5 HC0
    by_cases hlt : k < z1.length ∧ k < 100
    · obtain ⟨hl1, hl2⟩ := hlt
      obtain ⟨⟨s, hs⟩, hjob⟩ : ∃ j, z1[k]? = some j := ⟨_, List.getElem?_eq_getElem hl1⟩
      obtain ⟨b, off, rfl, hbw, -⟩ := HR.out k _ hjob
      have HBW := Lib.hid hbw
      have HS : Hid (∀ W, Below w.heap.size w W → W.cell? ⟨b, off + k * 9, none⟩ = some (.int .u64 s.n) ∧ W.cell? ⟨b, off + k * 9 + 1, none⟩ = some (.int .u64 s.d) ∧ W.cell? ⟨b, off + k * 9 + 2, none⟩ = some (.int .u64 s.p) ∧ W.cell? ⟨b, off + k * 9 + 3, none⟩ = some (.int .u64 s.i) ∧ W.cell? ⟨b, off + k * 9 + 4, none⟩ = some (.int .u64 s.r) ∧ W.cell? ⟨b, off + k * 9 + 5, none⟩ = some (.int .u64 s.a) ∧ W.cell? ⟨b, off + k * 9 + 6, none⟩ = some (.int .u64 s.o) ∧ W.cell? ⟨b, off + k * 9 + 7, none⟩ = some (.int .u64 s.f) ∧ W.cell? ⟨b, off + k * 9 + 8, none⟩ = some (.bool s.l)) := Lib.hid (fun W hbel => by
        obtain ⟨_, _, e, _, hc⟩ := HR.out.below hbel k _ hjob
        cases e
        exact ⟨hc 0 _ rfl, hc 1 _ rfl, hc 2 _ rfl, hc 3 _ rfl, hc 4 _ rfl, hc 5 _ rfl, hc 6 _ rfl, hc 7 _ rfl, hc 8 _ rfl⟩)
      have HSF := Lib.hid hs
      clear hjob hs hbw
      have hi1 : (k : Int) < (z1.length : Int) := by omega
      have hi2 : (k : Int) < 100 := by omega
      have HC : Hid (x.r.c < 18446744073709551615) := Lib.hid (by omega)
      have HXC := Lib.hid hxc
      clear HR hxc
      obtain ⟨c0, c1, c2, c3, c4, c5, c6, c7, c8⟩ := HS.out _ HM.out.bel
      have hbl : b < wr.heap.size := Nat.lt_of_lt_of_le HBW.out HM.out.bel.size
      have R6 := Lib.hid (HM.out.box2 34 s.c)
      clear HM
      go_upto_region 8 with fail
      generalize hw6 : World.alloc wr _ = w6 at *
      have R7 : Hid (Room w w6 [modT g x, rmodT g2 k2 x, blkT wr.heap.size 34 s.c]) := R6
      clear R6 hw6 c0 c1 c2 c3 c4 c5 c6 c7 c8 hbl
      generalize wr.heap.size = bs at *
      go_upto_if 47 with fail
      go_cut [13] (fun s13 wx => ∃ s' : Spl, s13 = .int .u64 2000 ∧ s'.Fit ∧ Room w wx [modT g x, rmodT g2 k2 x, blkT bs 34 s'.c])
      case first =>
        cases a3
        · have hB := (show Whole w6 bs 34 s.c from R7.out.get2)
          have a0 : w6.cell? ⟨bs, 0, none⟩ = some (.int .u64 s.n) := hB.cell 0
          have a1 : w6.cell? ⟨bs, 1, none⟩ = some (.int .u64 s.d) := hB.cell 1
          have a2 : w6.cell? ⟨bs, 2, none⟩ = some (.int .u64 s.p) := hB.cell 2
          have a3 : w6.cell? ⟨bs, 3, none⟩ = some (.int .u64 s.i) := hB.cell 3
          have a4 : w6.cell? ⟨bs, 4, none⟩ = some (.int .u64 s.r) := hB.cell 4
          have a5 : w6.cell? ⟨bs, 5, none⟩ = some (.int .u64 s.a) := hB.cell 5
          have a6 : w6.cell? ⟨bs, 6, none⟩ = some (.int .u64 s.o) := hB.cell 6
          have a7 : w6.cell? ⟨bs, 7, none⟩ = some (.int .u64 s.f) := hB.cell 7
          have a8 : w6.cell? ⟨bs, 8, none⟩ = some (.bool s.l) := hB.cell 8
          clear hB
          obtain ⟨s', hs'⟩ : ∃ s', playV s = s' := ⟨_, rfl⟩
          have HP := Lib.hid hs'
          have HSP : Hid s'.Fit := Lib.hid (hs' ▸ playV_fit HSF.out)
          clear hs'
          go_wp2_with fail
          refine (R7.out.play HSF.out HP.out).mono ?_
          rintro e w7 ⟨rfl, r7⟩
          clear a0 a1 a2 a3 a4 a5 a6 a7 a8
          obtain ⟨⟨p0, q0⟩, ⟨p1, q1⟩, ⟨p2, q2⟩, ⟨p3, q3⟩, ⟨p4, q4⟩, ⟨p5, q5⟩, ⟨p6, q6⟩, ⟨p7, q7⟩, ⟨p8, q8⟩, pw, pk⟩ := (show Whole w7 bs 34 #[.int .u64 s.n, .int .u64 s.d, .int .u64 s.p, .int .u64 s.i, .int .u64 s.r, .int .u64 s.a, .int .u64 s.o, .int .u64 s.f, .bool s.l] from r7.get2).fill9 (.int .u64 s'.n) (.int .u64 s'.d) (.int .u64 s'.p) (.int .u64 s'.i) (.int .u64 s'.r) (.int .u64 s'.a) (.int .u64 s'.o) (.int .u64 s'.f) (.bool s'.l)
          have R8 := Lib.hid (r7.step2 (t' := blkT bs 34 s'.c) pw pk own_same)
          clear pw pk r7 R7
          go_wp2
          go_meet
          exact ⟨s', rfl, HSP.out, R8.out⟩
        · go_wp2
          go_meet
          exact ⟨s, rfl, HSF.out, R7.out⟩
      case rest =>
      obtain ⟨s', rfl, hsf, hr⟩ := hcut
      have HSP := Lib.hid hsf
      have R8 := Lib.hid hr
      clear hsf hr R7 HSF HS
      go_upto_region 10 with fail
      obtain ⟨C, hC⟩ : ∃ C : Bool, decide ((k : Int) < (z2.length : Int)) = C := ⟨_, rfl⟩
      go_cut [53] (fun s53 wx => s53 = .bool C ∧ wx = wc)
      case first =>
        by_cases hq : (k : Int) < (z2.length : Int)
        · obtain rfl : C = true := by rw [← hC]; simp [hq]
          clear hC
          go_wp2
          go_meet
          exact ⟨rfl, rfl⟩
        · obtain rfl : C = false := by rw [← hC]; simp [hq]
          clear hC
          go_wp2
          go_meet
          exact ⟨rfl, rfl⟩
      case rest =>
      obtain ⟨rfl, rfl⟩ := hcut
      go_upto_if 53 with fail
      go_cut [13] (fun s13 wx => ∃ t : Int, s13 = .int .u64 t ∧ Num t ∧ wx = wc)
      case first =>
        cases C
        · go_wp2
          go_meet
          exact ⟨2000, rfl, ⟨by decide, by decide⟩, rfl⟩
        · have hq : k < z2.length := by have := of_decide_eq_true hC; omega
          have hi3 : (k : Int) < (z2.length : Int) := by omega
          obtain ⟨⟨t, ht⟩, hjob⟩ : ∃ j, z2[k]? = some j := ⟨_, List.getElem?_eq_getElem hq⟩
          obtain ⟨b2, off2, rfl, -, hc⟩ := HU.out.below R8.out.bel k _ hjob
          have c0 : wc.cell? ⟨b2, off2 + k, none⟩ = some (.int .u64 t) := by simpa using hc 0 _ rfl
          have HT := Lib.hid ht
          clear hc hjob hC ht
          go_wp2
          go_meet
          exact ⟨t, rfl, HT.out, rfl⟩
      case rest =>
      obtain ⟨t, rfl, hnt, rfl⟩ := hcut
      have HT := Lib.hid hnt
      obtain ⟨y, hy⟩ : ∃ y, updM x s' t = y := ⟨_, rfl⟩
      have HE := Lib.hid hy
      have HRC : Hid (y.r.c ≤ (k + 1 : Nat)) := Lib.hid (by
        have := upd_rc (x := x) (s := s') (tso := t)
        have := HXC.out
        rw [hy] at *
        split at * <;> omega)
      obtain ⟨o0, o1, o2, o3, o4, o5, o6, o7, o8, o9, ho⟩ : ∃ o0 o1 o2 o3 o4 o5 o6 o7 o8 o9, staC y = #[.int .i64 o0, .int .i64 o1, .int .u64 o2, .int .u64 o3, .int .u64 o4, .int .u64 o5, .int .u64 o6, .int .u64 o7, .bool o8, .bool o9] := ⟨_, _, _, _, _, _, _, _, _, _, rfl⟩
      have HV := Lib.hid ho
      clear hnt hy ho hC
      have a0 : wc.cell? ⟨bs, 0, none⟩ = some (.int .u64 s'.n) := (show Whole wc bs _ _ from R8.out.get2).cell 0
      have a1 : wc.cell? ⟨bs, 1, none⟩ = some (.int .u64 s'.d) := (show Whole wc bs _ _ from R8.out.get2).cell 1
      have a2 : wc.cell? ⟨bs, 2, none⟩ = some (.int .u64 s'.p) := (show Whole wc bs _ _ from R8.out.get2).cell 2
      have a3 : wc.cell? ⟨bs, 3, none⟩ = some (.int .u64 s'.i) := (show Whole wc bs _ _ from R8.out.get2).cell 3
      have a4 : wc.cell? ⟨bs, 4, none⟩ = some (.int .u64 s'.r) := (show Whole wc bs _ _ from R8.out.get2).cell 4
      have a5 : wc.cell? ⟨bs, 5, none⟩ = some (.int .u64 s'.a) := (show Whole wc bs _ _ from R8.out.get2).cell 5
      have a6 : wc.cell? ⟨bs, 6, none⟩ = some (.int .u64 s'.o) := (show Whole wc bs _ _ from R8.out.get2).cell 6
      have a7 : wc.cell? ⟨bs, 7, none⟩ = some (.int .u64 s'.f) := (show Whole wc bs _ _ from R8.out.get2).cell 7
      have a8 : wc.cell? ⟨bs, 8, none⟩ = some (.bool s'.l) := (show Whole wc bs _ _ from R8.out.get2).cell 8
      go_wp2_with fail
      refine (R8.out.modupd HE.out HV.out HSP.out HT.out HC.out).mono ?_
      rintro e wa ⟨rfl, ra⟩
      have RA := Lib.hid (ra.box3 31 #[.int .i64 o0, .int .i64 o1, .int .u64 o2, .int .u64 o3, .int .u64 o4, .int .u64 o5, .int .u64 o6, .int .u64 o7, .bool o8, .bool o9]); clear ra R8 a0 a1 a2 a3 a4 a5 a6 a7 a8
      go_upto_region 13 with fail
      generalize hwb : World.alloc wa _ = wb at *
      have RB : Hid (Room w wb [modT g y, rmodT g2 k2 x, blkT bs 34 s'.c, blkT wa.heap.size 31 #[.int .i64 o0, .int .i64 o1, .int .u64 o2, .int .u64 o3, .int .u64 o4, .int .u64 o5, .int .u64 o6, .int .u64 o7, .bool o8, .bool o9]]) := RA
      clear RA hwb
      generalize wa.heap.size = bx at *
      refine wp_region_sch (fun W => Whole W bx 31 #[.int .i64 o0, .int .i64 o1, .int .u64 o2, .int .u64 o3, .int .u64 o4, .int .u64 o5, .int .u64 o6, .int .u64 o7, .bool o8, .bool o9] ∧ Whole W bs 34 s'.c) [(true, 0), (true, 1), (true, 2), (true, 3), (false, 4), (true, 5), (true, 6), (true, 7), (true, 9), (false, 8), (true, 10), (true, 11)] (by kernel_rfl) (by kernel_rfl) (by kernel_rfl) (by kernel_rfl) ⟨RB.out.drew.get3, RB.out.drew.get2⟩ ?_
      (repeat (refine wpSch_yes (v := ?_) rfl (fun _ _ _ h => h) (by rfl) ?_ ?_; rotate_left; (next => (intro w hSw; obtain ⟨hS1, hS2⟩ := hSw; have t0 : w.cell? ⟨bx, 0, none⟩ = some (.int .i64 o0) := hS1.cell 0; have t1 : w.cell? ⟨bx, 1, none⟩ = some (.int .i64 o1) := hS1.cell 1; have t2 : w.cell? ⟨bx, 2, none⟩ = some (.int .u64 o2) := hS1.cell 2; have t3 : w.cell? ⟨bx, 3, none⟩ = some (.int .u64 o3) := hS1.cell 3; have t4 : w.cell? ⟨bx, 4, none⟩ = some (.int .u64 o4) := hS1.cell 4; have t5 : w.cell? ⟨bx, 5, none⟩ = some (.int .u64 o5) := hS1.cell 5; have t6 : w.cell? ⟨bx, 6, none⟩ = some (.int .u64 o6) := hS1.cell 6; have t7 : w.cell? ⟨bx, 7, none⟩ = some (.int .u64 o7) := hS1.cell 7; have t8 : w.cell? ⟨bx, 8, none⟩ = some (.bool o8) := hS1.cell 8; have t9 : w.cell? ⟨bx, 9, none⟩ = some (.bool o9) := hS1.cell 9; have a0 : w.cell? ⟨bs, 0, none⟩ = some (.int .u64 s'.n) := hS2.cell 0; have a1 : w.cell? ⟨bs, 1, none⟩ = some (.int .u64 s'.d) := hS2.cell 1; have a2 : w.cell? ⟨bs, 2, none⟩ = some (.int .u64 s'.p) := hS2.cell 2; have a3 : w.cell? ⟨bs, 3, none⟩ = some (.int .u64 s'.i) := hS2.cell 3; have a4 : w.cell? ⟨bs, 4, none⟩ = some (.int .u64 s'.r) := hS2.cell 4; have a5 : w.cell? ⟨bs, 5, none⟩ = some (.int .u64 s'.a) := hS2.cell 5; have a6 : w.cell? ⟨bs, 6, none⟩ = some (.int .u64 s'.o) := hS2.cell 6; have a7 : w.cell? ⟨bs, 7, none⟩ = some (.int .u64 s'.f) := hS2.cell 7; have a8 : w.cell? ⟨bs, 8, none⟩ = some (.bool s'.l) := hS2.cell 8; clear hS1 hS2; go_simp; (try with_reducible rfl))); (try simp only [Act.put, List.setIfInBounds_toArray, List.set_cons_zero, List.set_cons_succ])))
      refine wpSch_call rfl (by rfl) (fun K hK => ?_)
      go_simp
      refine (RB.out.drew.rmodupd1 HE.out HV.out HSP.out HT.out HC.out).mono ?_
      rintro e wd ⟨rfl, rd⟩
      have RD := Lib.hid rd; clear rd RB
      refine hK.out _ _ ⟨RD.out.get3, RD.out.get2⟩ (fun hHeld => ?_)
      clear hK K hHeld
      (try simp only [Act.put, List.setIfInBounds_toArray, List.set_cons_zero, List.set_cons_succ])
      (repeat (refine wpSch_yes (v := ?_) rfl (fun _ _ _ h => h) (by rfl) ?_ ?_; rotate_left; (next => (intro w hSw; obtain ⟨hS1, hS2⟩ := hSw; have t0 : w.cell? ⟨bx, 0, none⟩ = some (.int .i64 o0) := hS1.cell 0; have t1 : w.cell? ⟨bx, 1, none⟩ = some (.int .i64 o1) := hS1.cell 1; have t2 : w.cell? ⟨bx, 2, none⟩ = some (.int .u64 o2) := hS1.cell 2; have t3 : w.cell? ⟨bx, 3, none⟩ = some (.int .u64 o3) := hS1.cell 3; have t4 : w.cell? ⟨bx, 4, none⟩ = some (.int .u64 o4) := hS1.cell 4; have t5 : w.cell? ⟨bx, 5, none⟩ = some (.int .u64 o5) := hS1.cell 5; have t6 : w.cell? ⟨bx, 6, none⟩ = some (.int .u64 o6) := hS1.cell 6; have t7 : w.cell? ⟨bx, 7, none⟩ = some (.int .u64 o7) := hS1.cell 7; have t8 : w.cell? ⟨bx, 8, none⟩ = some (.bool o8) := hS1.cell 8; have t9 : w.cell? ⟨bx, 9, none⟩ = some (.bool o9) := hS1.cell 9; have a0 : w.cell? ⟨bs, 0, none⟩ = some (.int .u64 s'.n) := hS2.cell 0; have a1 : w.cell? ⟨bs, 1, none⟩ = some (.int .u64 s'.d) := hS2.cell 1; have a2 : w.cell? ⟨bs, 2, none⟩ = some (.int .u64 s'.p) := hS2.cell 2; have a3 : w.cell? ⟨bs, 3, none⟩ = some (.int .u64 s'.i) := hS2.cell 3; have a4 : w.cell? ⟨bs, 4, none⟩ = some (.int .u64 s'.r) := hS2.cell 4; have a5 : w.cell? ⟨bs, 5, none⟩ = some (.int .u64 s'.a) := hS2.cell 5; have a6 : w.cell? ⟨bs, 6, none⟩ = some (.int .u64 s'.o) := hS2.cell 6; have a7 : w.cell? ⟨bs, 7, none⟩ = some (.int .u64 s'.f) := hS2.cell 7; have a8 : w.cell? ⟨bs, 8, none⟩ = some (.bool s'.l) := hS2.cell 8; clear hS1 hS2; go_simp; (try with_reducible rfl))); (try simp only [Act.put, List.setIfInBounds_toArray, List.set_cons_zero, List.set_cons_succ])))
      refine wpSch_call rfl (by rfl) (fun K hK => ?_)
      go_simp
      refine (RD.out.modsta HV.out).mono ?_
      rintro e we ⟨rfl, re⟩
      have RE := Lib.hid re; clear re RD
      refine hK.out _ _ ⟨RE.out.get3, RE.out.get2⟩ (fun hHeld => ?_)
      clear hK K hHeld
      (try simp only [Act.put, List.setIfInBounds_toArray, List.set_cons_zero, List.set_cons_succ])
      (repeat (refine wpSch_yes (v := ?_) rfl (fun _ _ _ h => h) (by rfl) ?_ ?_; rotate_left; (next => (intro w hSw; obtain ⟨hS1, hS2⟩ := hSw; have t0 : w.cell? ⟨bx, 0, none⟩ = some (.int .i64 o0) := hS1.cell 0; have t1 : w.cell? ⟨bx, 1, none⟩ = some (.int .i64 o1) := hS1.cell 1; have t2 : w.cell? ⟨bx, 2, none⟩ = some (.int .u64 o2) := hS1.cell 2; have t3 : w.cell? ⟨bx, 3, none⟩ = some (.int .u64 o3) := hS1.cell 3; have t4 : w.cell? ⟨bx, 4, none⟩ = some (.int .u64 o4) := hS1.cell 4; have t5 : w.cell? ⟨bx, 5, none⟩ = some (.int .u64 o5) := hS1.cell 5; have t6 : w.cell? ⟨bx, 6, none⟩ = some (.int .u64 o6) := hS1.cell 6; have t7 : w.cell? ⟨bx, 7, none⟩ = some (.int .u64 o7) := hS1.cell 7; have t8 : w.cell? ⟨bx, 8, none⟩ = some (.bool o8) := hS1.cell 8; have t9 : w.cell? ⟨bx, 9, none⟩ = some (.bool o9) := hS1.cell 9; have a0 : w.cell? ⟨bs, 0, none⟩ = some (.int .u64 s'.n) := hS2.cell 0; have a1 : w.cell? ⟨bs, 1, none⟩ = some (.int .u64 s'.d) := hS2.cell 1; have a2 : w.cell? ⟨bs, 2, none⟩ = some (.int .u64 s'.p) := hS2.cell 2; have a3 : w.cell? ⟨bs, 3, none⟩ = some (.int .u64 s'.i) := hS2.cell 3; have a4 : w.cell? ⟨bs, 4, none⟩ = some (.int .u64 s'.r) := hS2.cell 4; have a5 : w.cell? ⟨bs, 5, none⟩ = some (.int .u64 s'.a) := hS2.cell 5; have a6 : w.cell? ⟨bs, 6, none⟩ = some (.int .u64 s'.o) := hS2.cell 6; have a7 : w.cell? ⟨bs, 7, none⟩ = some (.int .u64 s'.f) := hS2.cell 7; have a8 : w.cell? ⟨bs, 8, none⟩ = some (.bool s'.l) := hS2.cell 8; clear hS1 hS2; go_simp; (try with_reducible rfl))); (try simp only [Act.put, List.setIfInBounds_toArray, List.set_cons_zero, List.set_cons_succ])))
      refine wpSch_nil ?_
      have RF := Lib.hid (RE.out.less sub2); clear RE
      go_wp2
      go_roundg (gk - 1)
      case measure => omega
      case rel => exact ⟨k + 1, y, by omega, by omega, by go_num, HRC.out, RF.out⟩
    · by_cases hl1 : k < z1.length
      · have hi1 : (k : Int) < (z1.length : Int) := by omega
        have hi2 : ¬ (k : Int) < 100 := by omega
        go_wp2
        go_ret
        exact ⟨rfl, HM.out.bel⟩
      · have hi1 : ¬ (k : Int) < (z1.length : Int) := by omega
        go_wp2
        go_ret
        exact ⟨rfl, HM.out.bel⟩

set_option maxRecDepth 100000 in
theorem lifted (os : Os) (started : os.Started) (H : Type) (enc : TypeId × Value → H) :
    ReturnsInHanded {} Tryz.checked os 3 .any (Rows.bbrTellsSpec.pre6 enc Tryz.prog Tryz.f3 Rows.bbrTellsRow.domain false) (Rows.bbrTellsSpec.post enc Tryz.prog Tryz.f3 false true false false) := by
  refine returnsInHanded_of_change (C := Tryz.checked) own started (by kernel_rfl) Tryz.func3
    (ChangeSpec.witness6 (enc := enc) (C := Tryz.checked) false ⟨#[], #[.int .u64 0, .slice none 0 0, .slice none 0 0, .bool false], []⟩ 8 (by kernel_rfl) (by kernel_rfl) (by kernel_rfl) (by kernel_rfl)) ?_
  intro W base args ds gs before hval0 hW hcnd _
  have hval : ∀ (j : Nat) t v, Tryz.f3.params[j]? = some t → args[j]? = some v → Value.okWide Tryz.prog W .any base t v := hval0
  have hW' := hW
  obtain ⟨p, q, hA0, hV, rfl, hfz, hnd⟩ := hW
  have hA : DataW.TrodAll enc Tryz.prog W 0 (fun _ => true) true Tryz.f3.params.toList args.toList ds p := hA0
  rw [Tryz.params3] at hA hval
  obtain ⟨v0, vs0, d0, ds0, p0, q0, hargs, rfl, rfl, h0, r0'⟩ := trodAll_cons hA
  obtain ⟨v1, vs1, d1, ds1, p1, q1, rfl, rfl, rfl, h1, r1'⟩ := trodAll_cons r0'
  obtain ⟨v2, vs2, d2, ds2, p2, q2, rfl, rfl, rfl, h2, r2'⟩ := trodAll_cons r1'
  obtain ⟨v3, vs3, d3, ds3, p3, q3, rfl, rfl, rfl, h3, r3'⟩ := trodAll_cons r2'
  obtain ⟨rfl, rfl, rfl⟩ := trodAll_nil r3'
  obtain rfl : args = #[v0, v1, v2, v3] := by cases args; simp_all
  obtain ⟨rfl, rfl⟩ := trodVars_none hV
  obtain ⟨a0, rfl, rfl, rfl, w0⟩ := open_int Tryz.underlying22 (hval 0 22 v0 rfl rfl) h0
  obtain ⟨a1, len1, cap1, rfl⟩ := okWide_slice Tryz.underlying23 (hval 1 23 v1 rfl rfl)
  have k1 := h1
  have lt1 : ∀ x ∈ p1, x.block < W.heap.size := by obtain ⟨m, hm⟩ := k1; exact DataW.trod_lt m _ _ _ hm
  obtain ⟨z1, hz1, hc1, r1⟩ := open_spls h1
  subst hz1
  obtain ⟨a2, len2, cap2, rfl⟩ := okWide_slice Tryz.underlying24 (hval 2 24 v2 rfl rfl)
  have k2 := h2
  have lt2 : ∀ x ∈ p2, x.block < W.heap.size := by obtain ⟨m, hm⟩ := k2; exact DataW.trod_lt m _ _ _ hm
  obtain ⟨z2, hz2, hc2, r2⟩ := open_uints h2
  subst hz2
  obtain ⟨a3, rfl, rfl, rfl⟩ := open_bool Tryz.underlying4 (hval 3 4 v3 rfl rfl) h3
  clear hA0 hval0
  refine (walk a0 a1 cap1 z1 a2 cap2 z2 a3 W w0 hc1 r1 hc2 r2).mono fun e W' ⟨he, bel⟩ => ?_
  subst he
  exact ⟨_, rfl, _, _, _, [], _, [], hW', trodAll_mk1 (shut_bool Tryz.underlying4 _), (trodAll_cons_mk (shut_int Tryz.underlying22 w0) (trodAll_cons_mk (Below.trod laidOut (by kernel_rfl) (of_decide_eq_true (by kernel_rfl)) k1 bel lt1) (trodAll_cons_mk (Below.trod laidOut (by kernel_rfl) (of_decide_eq_true (by kernel_rfl)) k2 bel lt2) (trodAll_cons_mk (shut_bool Tryz.underlying4 _) trodAll_mk0)))), rfl, bel.frame _, fun h => by cases h⟩

theorem over : Rows.bbrTellsRow.holds Tryz.pinned (OpenSpec.ofChange Rows.bbrTellsSpec) :=
  OpenClaim.holds_of_wide 3 Tryz.f3 rfl rfl rfl rfl rfl rfl rfl ⟨rfl, rfl, rfl, rfl, rfl⟩ rfl rfl rfl rfl rfl (by kernel_rfl) Tryz.func3 (by kernel_rfl)
    (of_decide_eq_true (by kernel_rfl)) (by unfold Func.isWrapper; first | (rw [if_pos (by decide +kernel)]; kernel_rfl) | (rw [if_neg (by decide +kernel)]; exact ⟨rfl, rfl⟩))
    (fun os started H enc _ => lifted os started H enc)

theorem proved : Rows.BbrTellsSaid := over
end Go.Proofs.YtcjgpkjhfbamfaaGreat.bbrTells
namespace Go.Proofs.YtcjgpkjhfbamfaaGreat
theorem bbrTells_holds : Rows.BbrTellsSaid := bbrTells.proved
#print axioms bbrTells_holds
end Go.Proofs.YtcjgpkjhfbamfaaGreat
