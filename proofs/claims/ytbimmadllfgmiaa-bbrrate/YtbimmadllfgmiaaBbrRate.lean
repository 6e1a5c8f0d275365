/-
  Proved: canterlaw17.BbrRate answers true at every mss and every list of samples, and leaves its arguments as they were. Conditions: none.
-/
import Derived.Test.YtbimmadllfgmiaaRows
import Derived.WalkKit
import Derived.ProofKit
import Derived.OpenShut
import Derived.ShutString
import Derived.Below
import Derived.Test.YtbimmadllfgmiaaAwakeM
import Derived.Test.YtbimmadllfgmiaaBbrMore
import Derived.Test.YtbimmadllfgmiaaPlaySpl
import Derived.Test.YtbimmadllfgmiaaOpenS
import Derived.Test.YtbimmadllfgmiaaRefA
import Derived.OwnWalk
namespace Go.Proofs.Ytbimmadllfgmiaa.bbrRate
open Go.ChangeShapes Go.WideShapes Go.ChangeAt Go.RowKit
set_option maxRecDepth 100000
set_option linter.unusedVariables false

theorem own : ownKnob Try.prog.godebug = none := by kernel_rfl
theorem laidOut : laidOutB Try.prog = true := by kernel_rfl

theorem sub1 {a : Thing} {L : List Thing} : [a].Sublist (a :: L) := List.Sublist.cons_cons _ (List.nil_sublist _)

set_option maxHeartbeats 4000000 in
set_option maxRecDepth 100000 in
theorem walk (a0 : Int) (a1 : Option Addr) (cap1 : Nat) (z1 : List SplF) (w : World) (w0 : (Lit.int .u64 a0).wf = true) (c1 : z1.length ≤ 9223372036854775807) (r1 : RdL 9 cells9 w a1 z1) :
    Calls Try.prog 9 #[.int .u64 a0, .slice a1 z1.length cap1] w fun e w' => e = .returned (.bool true) ∧ Below w.heap.size w w' := by
  obtain ⟨v0, v1⟩ := bounds_u64 w0
  clear w0
  have HR := Lib.hid r1
  clear r1
  obtain ⟨h, hh⟩ : ∃ h, clampS a0 = h := ⟨_, rfl⟩
  have hb : 100 ≤ h ∧ h ≤ 9000 := hh ▸ clampS_bd
  have HB := Lib.hid hb
  go_enter Try.func9, Try.ntmps9
  go_wp2_with fail
  refine ((Room.begin w).modnew ⟨v0, v1⟩).mono ?_
  rintro e w1 ⟨g, rfl, r1⟩
  rw [hh] at r1
  have R1 := Lib.hid r1; clear r1 v0 v1 hh hb
  go_wp2_with fail
  refine R1.out.awakem.mono ?_
  rintro e w3 ⟨rfl, r3⟩
  have R3 := Lib.hid r3; clear r3 R1
  have hf3 := Try.fieldM3
  obtain ⟨x0, hx0⟩ : ∃ x0, newM h = x0 := ⟨_, rfl⟩
  obtain ⟨M0, hM0⟩ : ∃ M0, x0.w = M0 := ⟨_, rfl⟩
  rw [hx0] at R3
  have HX0 : Hid (Most M0 x0 ∧ Num M0 ∧ x0.r.c ≤ 0) := Lib.hid (by
    have := HB.out
    have e : M0 = 10 * h := by rw [← hM0, ← hx0]; rfl
    rw [e, ← hx0]
    exact ⟨⟨Int.le_refl _, by show (0 : Int) ≤ 10 * h; omega, Int.le_refl _, by show 4 * h ≤ 10 * h; omega⟩, ⟨by omega, by omega⟩, Int.le_refl _⟩)
  have HM0 := Lib.hid hM0
  clear hx0 hM0
  go_wp2_with fail
  refine (R3.out.modsta (v := #[.int .i64 x0.m, .int .i64 x0.c.p, .int .u64 x0.t, .int .u64 M0, .int .u64 (bwM x0), .int .u64 x0.q.b, .int .u64 (gainM x0), .int .u64 x0.r.c, .bool (fullP x0.p), .bool x0.o.u]) (by rw [← HM0.out])).mono ?_
  rintro e w4 ⟨rfl, r4⟩
  have R4 := Lib.hid r4; clear r4 R3
  go_wp2
  go_loopg [6, 7] 80 (fun j v i wr => ∃ (k : Nat) (x : Mdl) (M : Int), k + j = 80 ∧ k ≤ z1.length ∧ i = .int .i64 k ∧ v = .int .u64 M ∧ Most M x ∧ Num M ∧ x.r.c ≤ k ∧ Room w wr [modT g x])
  case atStart => exact ⟨0, x0, M0, by omega, Nat.zero_le _, rfl, rfl, HX0.out.1, HX0.out.2.1, HX0.out.2.2, R4.out⟩
  case round =>
    obtain ⟨k, x, M, hk100, hk1, rfl, rfl, hmo, hmn, hxc, hRm⟩ := hrel
    have HM := Lib.hid hRm; clear hRm R4
    by_cases hlt : k < z1.length ∧ k < 80
    · obtain ⟨hl1, hl2⟩ := hlt
      obtain ⟨⟨s, hs⟩, hjob⟩ : ∃ j, z1[k]? = some j := ⟨_, List.getElem?_eq_getElem hl1⟩
      obtain ⟨b, off, rfl, hbw, -⟩ := HR.out k _ hjob
      have HBW := Lib.hid hbw
      have HS : Hid (∀ W, Below w.heap.size w W → W.cell? ⟨b, off + k * 9, none⟩ = some (.int .u64 s.n) ∧ W.cell? ⟨b, off + k * 9 + 1, none⟩ = some (.int .u64 s.d) ∧ W.cell? ⟨b, off + k * 9 + 2, none⟩ = some (.int .u64 s.p) ∧ W.cell? ⟨b, off + k * 9 + 3, none⟩ = some (.int .u64 s.i) ∧ W.cell? ⟨b, off + k * 9 + 4, none⟩ = some (.int .u64 s.r) ∧ W.cell? ⟨b, off + k * 9 + 5, none⟩ = some (.int .u64 s.a) ∧ W.cell? ⟨b, off + k * 9 + 6, none⟩ = some (.int .u64 s.o) ∧ W.cell? ⟨b, off + k * 9 + 7, none⟩ = some (.int .u64 s.f) ∧ W.cell? ⟨b, off + k * 9 + 8, none⟩ = some (.bool s.l)) := Lib.hid (fun W hbel => by
        obtain ⟨_, _, e, _, hc⟩ := HR.out.below hbel k _ hjob
        cases e
        exact ⟨hc 0 _ rfl, hc 1 _ rfl, hc 2 _ rfl, hc 3 _ rfl, hc 4 _ rfl, hc 5 _ rfl, hc 6 _ rfl, hc 7 _ rfl, hc 8 _ rfl⟩)
      have HSF := Lib.hid hs
      clear hjob hs hbw
      have hi1 : (k : Int) < (z1.length : Int) := by omega
      have hi2 : (k : Int) < 80 := by omega
      obtain ⟨s', hs'⟩ : ∃ s', playV s = s' := ⟨_, rfl⟩
      have HP := Lib.hid hs'
      have HSP : Hid s'.Fit := Lib.hid (hs' ▸ playV_fit HSF.out)
      have HC : Hid (x.r.c < 18446744073709551615) := Lib.hid (by omega)
      obtain ⟨y, hy⟩ : ∃ y, updM x s' 2000 = y := ⟨_, rfl⟩
      have HE := Lib.hid hy
      obtain ⟨A, hA⟩ : ∃ A, satAdd M s'.a = A := ⟨_, rfl⟩
      obtain ⟨D, hD⟩ : ∃ D, satAdd s'.f s'.a = D := ⟨_, rfl⟩
      have HMO : Hid ((y.w ≤ A ∨ y.w ≤ D) ∧ y.k ≤ M ∧ 0 ≤ y.k ∧ 4 * y.s ≤ M) := Lib.hid (by
        have h1 := upd_most (s := s') (tso := 2000) hmo HM.out.get0.fit HSP.out hmn HC.out
        rw [hy, hA, hD] at h1
        have h2 := upd_s (x := x) (s := s') (tso := 2000)
        rw [hy] at h2
        exact ⟨h1.1, h1.2.1, h1.2.2, by rw [h2]; exact hmo.s⟩)
      have HT : Hid (fullP y.p = false → x.t ≤ y.t) := Lib.hid (hy ▸ upd_rises)
      have HMN := Lib.hid hmn
      have HA := Lib.hid hA; have HD := Lib.hid hD
      have HRC : Hid (y.r.c ≤ (k + 1 : Nat)) := Lib.hid (by
        have := upd_rc (x := x) (s := s') (tso := 2000)
        rw [hy] at this
        split at this <;> omega)
      clear HR hs' hy hmo hmn hxc hA hD
      obtain ⟨c0, c1, c2, c3, c4, c5, c6, c7, c8⟩ := HS.out _ HM.out.bel
      have hbl : b < wr.heap.size := Nat.lt_of_lt_of_le HBW.out HM.out.bel.size
      go_wp2_with fail
      refine (HM.out.play HSF.out HP.out).mono ?_
      rintro e w6 ⟨rfl, r6⟩
      have R6 := Lib.hid (r6.box1 31 s'.c); clear r6 HM c0 c1 c2 c3 c4 c5 c6 c7 c8 hbl
      go_upto_region 9 with fail
      generalize hw7 : World.alloc w6 _ = w7 at *
      have R7 : Hid (Room w w7 [modT g x, blkT w6.heap.size 31 s'.c]) := R6
      clear R6 hw7
      generalize w6.heap.size = bs at *
      go_wp2_with fail
      refine (R7.out.modsta rfl).mono ?_
      rintro e w8 ⟨rfl, r8⟩
      have R8 := Lib.hid (r8.box2 28 (staC x)); clear r8 R7
      go_upto_region 10 with fail
      generalize hw9 : World.alloc w8 _ = w9 at *
      have R9 : Hid (Room w w9 [modT g x, blkT bs 31 s'.c, blkT w8.heap.size 28 (staC x)]) := R8
      clear R8 hw9
      generalize w8.heap.size = bw at *
      have hB := (show Whole w9 bs 31 s'.c from R9.out.get1)
      have a0 : w9.cell? ⟨bs, 0, none⟩ = some (.int .u64 s'.n) := hB.cell 0
      have a1 : w9.cell? ⟨bs, 1, none⟩ = some (.int .u64 s'.d) := hB.cell 1
      have a2 : w9.cell? ⟨bs, 2, none⟩ = some (.int .u64 s'.p) := hB.cell 2
      have a3 : w9.cell? ⟨bs, 3, none⟩ = some (.int .u64 s'.i) := hB.cell 3
      have a4 : w9.cell? ⟨bs, 4, none⟩ = some (.int .u64 s'.r) := hB.cell 4
      have a5 : w9.cell? ⟨bs, 5, none⟩ = some (.int .u64 s'.a) := hB.cell 5
      have a6 : w9.cell? ⟨bs, 6, none⟩ = some (.int .u64 s'.o) := hB.cell 6
      have a7 : w9.cell? ⟨bs, 7, none⟩ = some (.int .u64 s'.f) := hB.cell 7
      have a8 : w9.cell? ⟨bs, 8, none⟩ = some (.bool s'.l) := hB.cell 8
      clear hB
      go_wp2_with fail
      refine (R9.out.modupd HE.out rfl HSP.out ⟨by decide, by decide⟩ HC.out).mono ?_
      rintro e wa ⟨rfl, ra⟩
      have RA := Lib.hid (ra.box3 28 (staC y)); clear ra R9 a0 a1 a2 a3 a4 a5 a6 a7 a8
      go_upto_region 11 with fail
      generalize hwb : World.alloc wa _ = wb at *
      have RB : Hid (Room w wb [modT g y, blkT bs 31 s'.c, blkT bw 28 (staC x), blkT wa.heap.size 28 (staC y)]) := RA
      clear RA hwb
      generalize wa.heap.size = bx at *
      have a5 : wb.cell? ⟨bs, 5, none⟩ = some (.int .u64 s'.a) := (show Whole wb bs _ _ from RB.out.get1).cell 5
      have a7 : wb.cell? ⟨bs, 7, none⟩ = some (.int .u64 s'.f) := (show Whole wb bs _ _ from RB.out.get1).cell 7
      have e2 : wb.cell? ⟨bw, 2, none⟩ = some (.int .u64 x.t) := (show Whole wb bw _ _ from RB.out.get2).cell 2
      have d2 : wb.cell? ⟨bx, 2, none⟩ = some (.int .u64 y.t) := (show Whole wb bx _ _ from RB.out.get3).cell 2
      have d3 : wb.cell? ⟨bx, 3, none⟩ = some (.int .u64 y.w) := (show Whole wb bx _ _ from RB.out.get3).cell 3
      have d8 : wb.cell? ⟨bx, 8, none⟩ = some (.bool (fullP y.p)) := (show Whole wb bx _ _ from RB.out.get3).cell 8
      go_cut [51] (fun s51 wx => s51 = .bool false ∧ wx = wb)
      case first =>
        have ht := HT.out
        generalize fullP y.p = FY at *
        cases FY
        · have hn : ¬ y.t < x.t := by have := ht rfl; omega
          clear ht
          go_wp2
          go_meet
          exact ⟨rfl, rfl⟩
        · clear ht
          go_wp2
          go_meet
          exact ⟨rfl, rfl⟩
      case rest =>
      obtain ⟨rfl, rfl⟩ := hcut
      go_upto_region 13 with fail
      go_cut [68] (fun s68 wx => s68 = .bool false ∧ wx = wc.drew)
      case first =>
        by_cases hx : A < y.w
        · have hx2 : decide (A < y.w) = true := by simp [hx]
          have hn : ¬ D < y.w := by have := HMO.out.1; omega
          have hn2 : decide (D < y.w) = false := by simp [hn]
          refine wp_region_sch (fun W => W.cell? ⟨bx, 3, none⟩ = some (.int .u64 y.w) ∧ W.cell? ⟨bs, 5, none⟩ = some (.int .u64 s'.a) ∧ W.cell? ⟨bs, 7, none⟩ = some (.int .u64 s'.f)) [(true, 0), (true, 1), (true, 2), (true, 3), (true, 4), (false, 5), (true, 6), (true, 7), (true, 8), (true, 9), (true, 10), (true, 11), (true, 12), (true, 13), (false, 14), (true, 15), (true, 16)] (by kernel_rfl) (by kernel_rfl) (by kernel_rfl) (by kernel_rfl) ⟨d3, a5, a7⟩ ?_
          (repeat (first | (refine wpSch_yes (v := ?_) rfl (fun _ _ _ h => h) (by rfl) ?_ ?_; rotate_left; (next => (intro w hSw; obtain ⟨hS1, hS2, hS3⟩ := hSw; go_simp; (try with_reducible rfl))); (try simp only [Act.put, List.setIfInBounds_toArray, List.set_cons_zero, List.set_cons_succ])) | (refine wpSch_no rfl (fun _ _ _ h => h) (by rfl) ?_; (try simp only [Act.put, List.setIfInBounds_toArray, List.set_cons_zero, List.set_cons_succ]))))
          refine wpSch_call rfl (by rfl) (fun K hK => ?_)
          go_simp
          refine (radd_any _ _ HMN.out.1 HMN.out.2 HSP.out.a.1 HSP.out.a.2 _).mono ?_
          rintro e w' ⟨rfl, rfl⟩
          rw [HA.out]
          refine hK.out _ _ ⟨d3, a5, a7⟩ (fun hHeld => ?_)
          clear hK K hHeld
          (try simp only [Act.put, List.setIfInBounds_toArray, List.set_cons_zero, List.set_cons_succ])
          (repeat (first | (refine wpSch_yes (v := ?_) rfl (fun _ _ _ h => h) (by rfl) ?_ ?_; rotate_left; (next => (intro w hSw; obtain ⟨hS1, hS2, hS3⟩ := hSw; go_simp; (try with_reducible rfl))); (try simp only [Act.put, List.setIfInBounds_toArray, List.set_cons_zero, List.set_cons_succ])) | (refine wpSch_no rfl (fun _ _ _ h => h) (by rfl) ?_; (try simp only [Act.put, List.setIfInBounds_toArray, List.set_cons_zero, List.set_cons_succ]))))
          refine wpSch_call rfl (by rfl) (fun K hK => ?_)
          go_simp
          refine (radd_any _ _ HSP.out.f.1 HSP.out.f.2 HSP.out.a.1 HSP.out.a.2 _).mono ?_
          rintro e w' ⟨rfl, rfl⟩
          rw [HD.out]
          refine hK.out _ _ ⟨d3, a5, a7⟩ (fun hHeld => ?_)
          clear hK K hHeld
          (try simp only [Act.put, List.setIfInBounds_toArray, List.set_cons_zero, List.set_cons_succ])
          (repeat (first | (refine wpSch_yes (v := ?_) rfl (fun _ _ _ h => h) (by rfl) ?_ ?_; rotate_left; (next => (intro w hSw; obtain ⟨hS1, hS2, hS3⟩ := hSw; go_simp; (try with_reducible rfl))); (try simp only [Act.put, List.setIfInBounds_toArray, List.set_cons_zero, List.set_cons_succ])) | (refine wpSch_no rfl (fun _ _ _ h => h) (by rfl) ?_; (try simp only [Act.put, List.setIfInBounds_toArray, List.set_cons_zero, List.set_cons_succ]))))
          refine wpSch_nil ?_
          go_wp2
          go_meet
          exact ⟨rfl, rfl⟩
        · have hx2 : decide (A < y.w) = false := by simp [hx]
          refine wp_region_sch (fun W => W.cell? ⟨bx, 3, none⟩ = some (.int .u64 y.w) ∧ W.cell? ⟨bs, 5, none⟩ = some (.int .u64 s'.a) ∧ W.cell? ⟨bs, 7, none⟩ = some (.int .u64 s'.f)) [(true, 0), (true, 1), (true, 2), (true, 3), (true, 4), (false, 5), (true, 6), (true, 7), (true, 8), (true, 9), (true, 10), (true, 11), (true, 12), (true, 13), (false, 14), (true, 15), (true, 16)] (by kernel_rfl) (by kernel_rfl) (by kernel_rfl) (by kernel_rfl) ⟨d3, a5, a7⟩ ?_
          (repeat (first | (refine wpSch_yes (v := ?_) rfl (fun _ _ _ h => h) (by rfl) ?_ ?_; rotate_left; (next => (intro w hSw; obtain ⟨hS1, hS2, hS3⟩ := hSw; go_simp; (try with_reducible rfl))); (try simp only [Act.put, List.setIfInBounds_toArray, List.set_cons_zero, List.set_cons_succ])) | (refine wpSch_no rfl (fun _ _ _ h => h) (by rfl) ?_; (try simp only [Act.put, List.setIfInBounds_toArray, List.set_cons_zero, List.set_cons_succ]))))
          refine wpSch_call rfl (by rfl) (fun K hK => ?_)
          go_simp
          refine (radd_any _ _ HMN.out.1 HMN.out.2 HSP.out.a.1 HSP.out.a.2 _).mono ?_
          rintro e w' ⟨rfl, rfl⟩
          rw [HA.out]
          refine hK.out _ _ ⟨d3, a5, a7⟩ (fun hHeld => ?_)
          clear hK K hHeld
          (try simp only [Act.put, List.setIfInBounds_toArray, List.set_cons_zero, List.set_cons_succ])
          (repeat (first | (refine wpSch_yes (v := ?_) rfl (fun _ _ _ h => h) (by rfl) ?_ ?_; rotate_left; (next => (intro w hSw; obtain ⟨hS1, hS2, hS3⟩ := hSw; go_simp; (try with_reducible rfl))); (try simp only [Act.put, List.setIfInBounds_toArray, List.set_cons_zero, List.set_cons_succ])) | (refine wpSch_no rfl (fun _ _ _ h => h) (by rfl) ?_; (try simp only [Act.put, List.setIfInBounds_toArray, List.set_cons_zero, List.set_cons_succ]))))
          refine wpSch_not rfl (by rfl) ⟨d3, a5, a7⟩ ?_
          (try simp only [Act.put, List.setIfInBounds_toArray, List.set_cons_zero, List.set_cons_succ])
          (repeat (first | (refine wpSch_yes (v := ?_) rfl (fun _ _ _ h => h) (by rfl) ?_ ?_; rotate_left; (next => (intro w hSw; obtain ⟨hS1, hS2, hS3⟩ := hSw; go_simp; (try with_reducible rfl))); (try simp only [Act.put, List.setIfInBounds_toArray, List.set_cons_zero, List.set_cons_succ])) | (refine wpSch_no rfl (fun _ _ _ h => h) (by rfl) ?_; (try simp only [Act.put, List.setIfInBounds_toArray, List.set_cons_zero, List.set_cons_succ]))))
          refine wpSch_nil ?_
          go_wp2
          go_meet
          exact ⟨rfl, rfl⟩
      case rest =>
      obtain ⟨rfl, hwc⟩ := hcut
      clear a5 a7 e2 d2 d3 d8
      have RC := Lib.hid (RB.out.drew.less sub1)
      have d3 : wc.cell? ⟨bx, 3, none⟩ = some (.int .u64 y.w) := by rw [hwc]; exact (show Whole _ bx _ _ from RB.out.drew.get3).cell 3
      rw [← hwc] at RC
      clear RB hwc
      rcases Int.lt_trichotomy M y.w with hl | hl | hl
      · have hn : ¬ y.w < M := by omega
        have HL := Lib.hid hl
        go_wp2
        go_roundg (gk - 1)
        case measure => omega
        case rel => exact ⟨k + 1, y, y.w, by omega, by omega, by go_num, rfl, ⟨Int.le_refl _, by have := HMO.out.2.1; have := HL.out; omega, HMO.out.2.2.1, by have := HMO.out.2.2.2; have := HL.out; omega⟩, RC.out.get0.fit.w, HRC.out, RC.out⟩
      · have HL := Lib.hid hl
        have hn : ¬ M < y.w := by omega
        have hn2 : ¬ y.w < M := by omega
        rw [← hl] at d3 hn hn2
        clear hl
        go_wp2
        go_roundg (gk - 1)
        case measure => omega
        case rel => exact ⟨k + 1, y, M, by omega, by omega, by go_num, rfl, ⟨by have := HL.out; omega, HMO.out.2.1, HMO.out.2.2.1, HMO.out.2.2.2⟩, HMN.out, HRC.out, RC.out⟩
      · have hn : ¬ M < y.w := by omega
        have HL := Lib.hid hl
        go_wp2
        go_roundg (gk - 1)
        case measure => omega
        case rel => exact ⟨k + 1, y, M, by omega, by omega, by go_num, rfl, ⟨by have := HL.out; omega, HMO.out.2.1, HMO.out.2.2.1, HMO.out.2.2.2⟩, HMN.out, HRC.out, RC.out⟩
    · by_cases hl1 : k < z1.length
      · have hi1 : (k : Int) < (z1.length : Int) := by omega
        have hi2 : ¬ (k : Int) < 80 := by omega
        go_wp2
        go_ret
        exact ⟨rfl, HM.out.bel⟩
      · have hi1 : ¬ (k : Int) < (z1.length : Int) := by omega
        go_wp2
        go_ret
        exact ⟨rfl, HM.out.bel⟩

set_option maxRecDepth 100000 in
theorem lifted (os : Os) (started : os.Started) (H : Type) (enc : TypeId × Value → H) :
    ReturnsInHanded {} Try.checked os 9 .any (Rows.bbrRateSpec.pre6 enc Try.prog Try.f9 Rows.bbrRateRow.domain false) (Rows.bbrRateSpec.post enc Try.prog Try.f9 false true false false) := by
  refine returnsInHanded_of_change (C := Try.checked) own started (by kernel_rfl) Try.func9
    (ChangeSpec.witness6 (enc := enc) (C := Try.checked) false ⟨#[], #[.int .u64 0, .slice none 0 0], []⟩ 8 (by kernel_rfl) (by kernel_rfl) (by kernel_rfl) (by kernel_rfl)) ?_
  intro W base args ds gs before hval0 hW hcnd _
  have hval : ∀ (j : Nat) t v, Try.f9.params[j]? = some t → args[j]? = some v → Value.okWide Try.prog W .any base t v := hval0
  have hW' := hW
  obtain ⟨p, q, hA0, hV, rfl, hfz, hnd⟩ := hW
  have hA : DataW.TrodAll enc Try.prog W 0 (fun _ => true) true Try.f9.params.toList args.toList ds p := hA0
  rw [Try.params9] at hA hval
  obtain ⟨v0, vs0, d0, ds0, p0, q0, hargs, rfl, rfl, h0, r0'⟩ := trodAll_cons hA
  obtain ⟨v1, vs1, d1, ds1, p1, q1, rfl, rfl, rfl, h1, r1'⟩ := trodAll_cons r0'
  obtain ⟨rfl, rfl, rfl⟩ := trodAll_nil r1'
  obtain rfl : args = #[v0, v1] := by cases args; simp_all
  obtain ⟨rfl, rfl⟩ := trodVars_none hV
  obtain ⟨a0, rfl, rfl, rfl, w0⟩ := open_int Try.underlying22 (hval 0 22 v0 rfl rfl) h0
  obtain ⟨a1, len1, cap1, rfl⟩ := okWide_slice Try.underlying23 (hval 1 23 v1 rfl rfl)
  have k1 := h1
  have lt1 : ∀ x ∈ p1, x.block < W.heap.size := by obtain ⟨m, hm⟩ := k1; exact DataW.trod_lt m _ _ _ hm
  obtain ⟨z1, hz1, hc1, r1⟩ := open_spls h1
  subst hz1
  clear hA0 hval0
  refine (walk a0 a1 cap1 z1 W w0 hc1 r1).mono fun e W' ⟨he, bel⟩ => ?_
  subst he
  exact ⟨_, rfl, _, _, _, [], _, [], hW', trodAll_mk1 (shut_bool Try.underlying4 _), (trodAll_cons_mk (shut_int Try.underlying22 w0) (trodAll_cons_mk (Below.trod laidOut (by kernel_rfl) (of_decide_eq_true (by kernel_rfl)) k1 bel lt1) trodAll_mk0)), rfl, bel.frame _, fun h => by cases h⟩

theorem over : Rows.bbrRateRow.holds Try.pinned (OpenSpec.ofChange Rows.bbrRateSpec) :=
  OpenClaim.holds_of_wide 9 Try.f9 rfl rfl rfl rfl rfl rfl rfl ⟨rfl, rfl, rfl, rfl, rfl⟩ rfl rfl rfl rfl rfl (by kernel_rfl) Try.func9 (by kernel_rfl)
    (of_decide_eq_true (by kernel_rfl)) (by unfold Func.isWrapper; first | (rw [if_pos (by decide +kernel)]; kernel_rfl) | (rw [if_neg (by decide +kernel)]; exact ⟨rfl, rfl⟩))
    (fun os started H enc _ => lifted os started H enc)

theorem proved : Rows.BbrRateSaid := over
end Go.Proofs.Ytbimmadllfgmiaa.bbrRate
namespace Go.Proofs.Ytbimmadllfgmiaa
theorem bbrRate_holds : Rows.BbrRateSaid := bbrRate.proved
#print axioms bbrRate_holds
end Go.Proofs.Ytbimmadllfgmiaa
