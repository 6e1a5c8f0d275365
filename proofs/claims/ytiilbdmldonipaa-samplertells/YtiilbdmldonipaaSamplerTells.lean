/-
  Proved: canterlaw10.SamplerTells answers true at every list of deeds, and leaves its argument as it was. Conditions: none.
-/
import Derived.Test.YtiilbdmldonipaaRows
import Derived.WalkKit
import Derived.ProofKit
import Derived.OpenShut
import Derived.ShutString
import Derived.Below
import Derived.Test.YtiilbdmldonipaaRefRoom
import Derived.Test.YtiilbdmldonipaaOpenJ
import Derived.OwnWalk
import Derived.Deep.CutBlock
namespace Go.Proofs.Ytiilbdmldonipaa.samplerTells
open Go.ChangeShapes Go.WideShapes Go.ChangeAt Go.RowKit
set_option linter.unusedVariables false

theorem own : ownKnob Try.prog.godebug = none := by kernel_rfl
theorem laidOut : laidOutB Try.prog = true := by kernel_rfl

theorem sub3 {a b c : Thing} {L : List Thing} : [a, b, c].Sublist (a :: b :: c :: L) := List.Sublist.cons_cons _ (List.Sublist.cons_cons _ (List.Sublist.cons_cons _ (List.nil_sublist _)))

set_option maxHeartbeats 4000000 in
set_option maxRecDepth 100000 in
theorem walk (a0 : Option Addr) (cap0 : Nat) (z0 : List Job) (w : World) (c0 : z0.length ≤ 9223372036854775807) (r0 : RdL 11 cells11 w a0 z0) :
    Calls Try.prog 3 #[.slice a0 z0.length cap0] w fun e w' => e = .returned (.bool true) ∧ Below w.heap.size w w' := by
  have HR := Lib.hid r0
  clear r0
  go_enter Try.func3, Try.ntmps3
  go_wp2_with fail
  refine ((Room.begin w).snew).mono ?_
  rintro e w1 ⟨rfl, r1⟩
  have R1 := Lib.hid ((r1.add (t := rsamT w1.heap.size newS) (w' := w1.alloc (.cells #[.int .u64 0, .int .u64 0, .int .u64 0, .int .u64 0, .bool false, .int .u64 0, .int .u64 0, .int .u64 0, .int .u64 0, .int .u64 0, .bool false] 28)) ⟨Whole.new w1 28 _, fit_newS⟩ ((Keep.refl _ _).alloc _) (fun k e => by subst e; exact Nat.le_refl _)).perm (List.Perm.swap _ _ _)); clear r1
  generalize w.heap.size = g at *
  go_wp2_with fail
  generalize hw : World.alloc w1 _ = w2 at *
  generalize w1.heap.size = gr at *
  clear hw
  refine R1.out.awakes.mono ?_
  rintro e w3 ⟨rfl, r3⟩
  have R3 := Lib.hid r3; clear r3 R1
  go_wp2
  go_loopg [5, 6] 80 (fun j v i wr => ∃ (k : Nat) (x y : Smp) (l : List Snt), k + j = 80 ∧ k ≤ z0.length ∧ i = .int .i64 k ∧ l.length ≤ k ∧ (∀ q ∈ l, q.Fit) ∧ Like x y ∧ Room w wr [samT g x, rsamT gr y, sntsT v l])
  case atStart => exact ⟨0, _, _, [], by omega, Nat.zero_le _, rfl, Nat.le_refl _, fun q h => (by cases h), Like.refl _, (R3.out.add (t := sntsT (.slice none 0 0) []) (snts_nil _) (Keep.refl _ _) (fun k e => (by cases e))).perm ((List.Perm.swap _ _ _).trans (List.Perm.cons _ (List.Perm.swap _ _ _)))⟩
  case round =>
    obtain ⟨k, x, y, l, hk80, hk1, rfl, hl, hfit, hlike, hRm⟩ := hrel
    obtain ⟨a, c, rfl⟩ := snts_shape hRm.get2
    have HM := Lib.hid hRm; have HF := Lib.hid hfit; have HL := Lib.hid hlike; clear hRm hfit hlike R3
    by_cases hlt : k < z0.length ∧ k < 80
    · obtain ⟨hl1, hl2⟩ := hlt
      obtain ⟨⟨kk, at_, n, z, f, q, r, hn, hz, hf, hq⟩, hjob⟩ : ∃ j, z0[k]? = some j := ⟨_, List.getElem?_eq_getElem hl1⟩
      obtain ⟨b, off, rfl, -⟩ := HR.out k _ hjob
      obtain ⟨_, _, e, _, hc⟩ := HR.out.below HM.out.bel k _ hjob
      cases e
      have c0 := hc 0 _ rfl; have c1 := hc 1 _ rfl; have c2 := hc 2 _ rfl; have c3 := hc 3 _ rfl; have c4 := hc 4 _ rfl; have c5 := hc 5 _ rfl; have c6 := hc 6 _ rfl; have c7 := hc 7 _ rfl; have c8 := hc 8 _ rfl; have c9 := hc 9 _ rfl; have c10 := hc 10 _ rfl
      dsimp only at c0 c1 c2 c3 c4 c5 c6 c7 c8 c9 c10
      rw [Nat.add_zero] at c0
      have hi1 : (k : Int) < (z0.length : Int) := by omega
      have hi2 : (k : Int) < 80 := by omega
      have NN := Lib.hid hn; have NZ := Lib.hid hz; have NF := Lib.hid hf; have NQ := Lib.hid hq
      clear hc hjob hn hz hf hq HR
      go_upto_block 2 with fail
      have R4 := Lib.hid (HM.out.box3 34 #[.int .i64 kk, .int .i64 at_, .int .u64 n, .int .u64 z, .int .u64 f, .int .u64 q.t, .int .u64 q.d, .int .u64 q.u, .int .u64 q.f, .bool q.l, .bool r])
      clear c0 c1 c2 c3 c4 c5 c6 c7 c8 c9 c10
      generalize hw4 : World.alloc wr _ = w4 at *
      generalize wr.heap.size = B at *
      clear hw4 HM
      go_cut [5, 8] (fun s5 s8 wx => s8 = .bool true ∧ ∃ x' y' l', l'.length ≤ k + 1 ∧ (∀ q ∈ l', q.Fit) ∧ Like x' y' ∧ Room w wx [samT g x', rsamT gr y', sntsT s5 l'])
      case first =>
        by_cases h1 : kk = 1
        · have h1' : (kk == 1) = true := by simp [h1]
          clear h1
          have b0 : w4.cell? ⟨B, 0, none⟩ = some (.int .i64 kk) := Whole.cell R4.out.get3 0
          have b1 : w4.cell? ⟨B, 1, none⟩ = some (.int .i64 at_) := Whole.cell R4.out.get3 1
          have b2 : w4.cell? ⟨B, 2, none⟩ = some (.int .u64 n) := Whole.cell R4.out.get3 2
          have b3 : w4.cell? ⟨B, 3, none⟩ = some (.int .u64 z) := Whole.cell R4.out.get3 3
          have b4 : w4.cell? ⟨B, 4, none⟩ = some (.int .u64 f) := Whole.cell R4.out.get3 4
          have hB := lt_of_cell b0
          dsimp only at hB
          have b5 : w4.cell? ⟨B, 5, none⟩ = some (.int .u64 q.t) := Whole.cell R4.out.get3 5
          have b6 : w4.cell? ⟨B, 6, none⟩ = some (.int .u64 q.d) := Whole.cell R4.out.get3 6
          have b7 : w4.cell? ⟨B, 7, none⟩ = some (.int .u64 q.u) := Whole.cell R4.out.get3 7
          have b8 : w4.cell? ⟨B, 8, none⟩ = some (.int .u64 q.f) := Whole.cell R4.out.get3 8
          have b9 : w4.cell? ⟨B, 9, none⟩ = some (.bool q.l) := Whole.cell R4.out.get3 9
          have b10 : w4.cell? ⟨B, 10, none⟩ = some (.bool r) := Whole.cell R4.out.get3 10
          cases r
          · by_cases hl0 : 0 < l.length
            · obtain ⟨u, hu⟩ : ∃ u : Nat, IntKind.u64.wrap at_ = (u : Int) := ⟨(IntKind.u64.wrap at_).toNat, by rw [IntKind.wrap_u64]; omega⟩
              have hml : u % l.length < l.length := Nat.mod_lt _ hl0
              obtain ⟨m, hm, hm1⟩ : ∃ m : Nat, (u : Int) % (l.length : Int) = (m : Int) ∧ m < l.length := ⟨u % l.length, (Int.natCast_emod u l.length).symm, hml⟩
              have hmI : (m : Int) < (l.length : Int) := by omega
              have hl1I : (0 : Int) < (l.length : Int) := by omega
              have hl0I : ((l.length : Int) == 0) = false := beq_eq_false_iff_ne.2 (by omega)
              have hwl : IntKind.u64.wrap (l.length : Int) = (l.length : Int) := by rw [IntKind.wrap_u64]; omega
              have hwm : IntKind.i64.wrap (m : Int) = (m : Int) := by rw [IntKind.wrap_i64]; omega
              obtain ⟨p, hp⟩ : ∃ p, l[m]? = some p := ⟨_, List.getElem?_eq_getElem hm1⟩
              have NP := Lib.hid (HF.out p (List.mem_of_getElem? hp))
              obtain ⟨rr, rfl, p0, p1, p2, p3, p4⟩ := snts_get R4.out.get2 rfl hp
              have hrr := lt_of_cell p0
              dsimp only at hrr
              clear hp hml
              go_upto_region 18 with fail
              have R5 := Lib.hid (R4.out.box3 32 #[.int .u64 p.t, .int .u64 p.d, .int .u64 p.u, .int .u64 p.f, .bool p.l])
              clear b0 b1 b2 b3 b4 b5 b6 b7 b8 b9 b10 hB
              generalize hw : World.alloc w4 _ = w5 at *
              generalize w4.heap.size = bx at *
              clear hw R4
              have d2 : w5.cell? ⟨B, 2, none⟩ = some (.int .u64 n) := Whole.cell (R5.out.get (t := blkT B 34 _) (List.Mem.tail _ (List.Mem.tail _ (List.Mem.tail _ (List.Mem.tail _ (List.Mem.head _)))))) 2
              have d3 : w5.cell? ⟨B, 3, none⟩ = some (.int .u64 z) := Whole.cell (R5.out.get (t := blkT B 34 _) (List.Mem.tail _ (List.Mem.tail _ (List.Mem.tail _ (List.Mem.tail _ (List.Mem.head _)))))) 3
              have x0 : w5.cell? ⟨bx, 0, none⟩ = some (.int .u64 p.t) := Whole.cell R5.out.get3 0
              have x1 : w5.cell? ⟨bx, 1, none⟩ = some (.int .u64 p.d) := Whole.cell R5.out.get3 1
              have x2 : w5.cell? ⟨bx, 2, none⟩ = some (.int .u64 p.u) := Whole.cell R5.out.get3 2
              have x3 : w5.cell? ⟨bx, 3, none⟩ = some (.int .u64 p.f) := Whole.cell R5.out.get3 3
              have x4 : w5.cell? ⟨bx, 4, none⟩ = some (.bool p.l) := Whole.cell R5.out.get3 4
              go_wp2_with fail
              refine (R5.out.sack (z := p) rfl NN.out NZ.out NP.out).mono ?_
              rintro e w6 ⟨⟨_, rfl⟩, r6⟩
              have R6 := Lib.hid r6
              clear r6 R5 d2 d3 x0 x1 x2 x3 x4
              have d2 : w6.cell? ⟨B, 2, none⟩ = some (.int .u64 n) := Whole.cell (R6.out.get (t := blkT B 34 _) (List.Mem.tail _ (List.Mem.tail _ (List.Mem.tail _ (List.Mem.tail _ (List.Mem.head _)))))) 2
              have d3 : w6.cell? ⟨B, 3, none⟩ = some (.int .u64 z) := Whole.cell (R6.out.get (t := blkT B 34 _) (List.Mem.tail _ (List.Mem.tail _ (List.Mem.tail _ (List.Mem.tail _ (List.Mem.head _)))))) 3
              have x0 : w6.cell? ⟨bx, 0, none⟩ = some (.int .u64 p.t) := Whole.cell R6.out.get3 0
              have x1 : w6.cell? ⟨bx, 1, none⟩ = some (.int .u64 p.d) := Whole.cell R6.out.get3 1
              have x2 : w6.cell? ⟨bx, 2, none⟩ = some (.int .u64 p.u) := Whole.cell R6.out.get3 2
              have x3 : w6.cell? ⟨bx, 3, none⟩ = some (.int .u64 p.f) := Whole.cell R6.out.get3 3
              have x4 : w6.cell? ⟨bx, 4, none⟩ = some (.bool p.l) := Whole.cell R6.out.get3 4
              go_wp2_with fail
              refine (R6.out.rsack (z := p) rfl NN.out NZ.out NP.out).mono ?_
              rintro e w7 ⟨⟨_, rfl⟩, r7⟩
              have R7 := Lib.hid r7
              clear r7 R6 d2 d3 x0 x1 x2 x3 x4
              go_wp2
              go_meet
              exact ⟨rfl, _, _, l, by omega, HF.out, HL.out.ack, R7.out.less sub3⟩
            · have hl0I : ¬ (0 : Int) < (l.length : Int) := by omega
              obtain ⟨p, hp⟩ : ∃ p, p = q := ⟨_, rfl⟩
              rw [← hp] at b5 b6 b7 b8 b9 NQ
              have NP := NQ
              clear hp hl0
              go_upto_region 18 with fail
              have R5 := Lib.hid (R4.out.box3 32 #[.int .u64 p.t, .int .u64 p.d, .int .u64 p.u, .int .u64 p.f, .bool p.l])
              clear b0 b1 b2 b3 b4 b5 b6 b7 b8 b9 b10 hB
              generalize hw : World.alloc w4 _ = w5 at *
              generalize w4.heap.size = bx at *
              clear hw R4
              have d2 : w5.cell? ⟨B, 2, none⟩ = some (.int .u64 n) := Whole.cell (R5.out.get (t := blkT B 34 _) (List.Mem.tail _ (List.Mem.tail _ (List.Mem.tail _ (List.Mem.tail _ (List.Mem.head _)))))) 2
              have d3 : w5.cell? ⟨B, 3, none⟩ = some (.int .u64 z) := Whole.cell (R5.out.get (t := blkT B 34 _) (List.Mem.tail _ (List.Mem.tail _ (List.Mem.tail _ (List.Mem.tail _ (List.Mem.head _)))))) 3
              have x0 : w5.cell? ⟨bx, 0, none⟩ = some (.int .u64 p.t) := Whole.cell R5.out.get3 0
              have x1 : w5.cell? ⟨bx, 1, none⟩ = some (.int .u64 p.d) := Whole.cell R5.out.get3 1
              have x2 : w5.cell? ⟨bx, 2, none⟩ = some (.int .u64 p.u) := Whole.cell R5.out.get3 2
              have x3 : w5.cell? ⟨bx, 3, none⟩ = some (.int .u64 p.f) := Whole.cell R5.out.get3 3
              have x4 : w5.cell? ⟨bx, 4, none⟩ = some (.bool p.l) := Whole.cell R5.out.get3 4
              go_wp2_with fail
              refine (R5.out.sack (z := p) rfl NN.out NZ.out NP.out).mono ?_
              rintro e w6 ⟨⟨_, rfl⟩, r6⟩
              have R6 := Lib.hid r6
              clear r6 R5 d2 d3 x0 x1 x2 x3 x4
              have d2 : w6.cell? ⟨B, 2, none⟩ = some (.int .u64 n) := Whole.cell (R6.out.get (t := blkT B 34 _) (List.Mem.tail _ (List.Mem.tail _ (List.Mem.tail _ (List.Mem.tail _ (List.Mem.head _)))))) 2
              have d3 : w6.cell? ⟨B, 3, none⟩ = some (.int .u64 z) := Whole.cell (R6.out.get (t := blkT B 34 _) (List.Mem.tail _ (List.Mem.tail _ (List.Mem.tail _ (List.Mem.tail _ (List.Mem.head _)))))) 3
              have x0 : w6.cell? ⟨bx, 0, none⟩ = some (.int .u64 p.t) := Whole.cell R6.out.get3 0
              have x1 : w6.cell? ⟨bx, 1, none⟩ = some (.int .u64 p.d) := Whole.cell R6.out.get3 1
              have x2 : w6.cell? ⟨bx, 2, none⟩ = some (.int .u64 p.u) := Whole.cell R6.out.get3 2
              have x3 : w6.cell? ⟨bx, 3, none⟩ = some (.int .u64 p.f) := Whole.cell R6.out.get3 3
              have x4 : w6.cell? ⟨bx, 4, none⟩ = some (.bool p.l) := Whole.cell R6.out.get3 4
              go_wp2_with fail
              refine (R6.out.rsack (z := p) rfl NN.out NZ.out NP.out).mono ?_
              rintro e w7 ⟨⟨_, rfl⟩, r7⟩
              have R7 := Lib.hid r7
              clear r7 R6 d2 d3 x0 x1 x2 x3 x4
              go_wp2
              go_meet
              exact ⟨rfl, _, _, l, by omega, HF.out, HL.out.ack, R7.out.less sub3⟩
          · obtain ⟨p, hp⟩ : ∃ p, p = q := ⟨_, rfl⟩
            rw [← hp] at b5 b6 b7 b8 b9 NQ
            have NP := NQ
            clear hp
            go_upto_region 18 with fail
            have R5 := Lib.hid (R4.out.box3 32 #[.int .u64 p.t, .int .u64 p.d, .int .u64 p.u, .int .u64 p.f, .bool p.l])
            clear b0 b1 b2 b3 b4 b5 b6 b7 b8 b9 b10 hB
            generalize hw : World.alloc w4 _ = w5 at *
            generalize w4.heap.size = bx at *
            clear hw R4
            have d2 : w5.cell? ⟨B, 2, none⟩ = some (.int .u64 n) := Whole.cell (R5.out.get (t := blkT B 34 _) (List.Mem.tail _ (List.Mem.tail _ (List.Mem.tail _ (List.Mem.tail _ (List.Mem.head _)))))) 2
            have d3 : w5.cell? ⟨B, 3, none⟩ = some (.int .u64 z) := Whole.cell (R5.out.get (t := blkT B 34 _) (List.Mem.tail _ (List.Mem.tail _ (List.Mem.tail _ (List.Mem.tail _ (List.Mem.head _)))))) 3
            have x0 : w5.cell? ⟨bx, 0, none⟩ = some (.int .u64 p.t) := Whole.cell R5.out.get3 0
            have x1 : w5.cell? ⟨bx, 1, none⟩ = some (.int .u64 p.d) := Whole.cell R5.out.get3 1
            have x2 : w5.cell? ⟨bx, 2, none⟩ = some (.int .u64 p.u) := Whole.cell R5.out.get3 2
            have x3 : w5.cell? ⟨bx, 3, none⟩ = some (.int .u64 p.f) := Whole.cell R5.out.get3 3
            have x4 : w5.cell? ⟨bx, 4, none⟩ = some (.bool p.l) := Whole.cell R5.out.get3 4
            go_wp2_with fail
            refine (R5.out.sack (z := p) rfl NN.out NZ.out NP.out).mono ?_
            rintro e w6 ⟨⟨_, rfl⟩, r6⟩
            have R6 := Lib.hid r6
            clear r6 R5 d2 d3 x0 x1 x2 x3 x4
            have d2 : w6.cell? ⟨B, 2, none⟩ = some (.int .u64 n) := Whole.cell (R6.out.get (t := blkT B 34 _) (List.Mem.tail _ (List.Mem.tail _ (List.Mem.tail _ (List.Mem.tail _ (List.Mem.head _)))))) 2
            have d3 : w6.cell? ⟨B, 3, none⟩ = some (.int .u64 z) := Whole.cell (R6.out.get (t := blkT B 34 _) (List.Mem.tail _ (List.Mem.tail _ (List.Mem.tail _ (List.Mem.tail _ (List.Mem.head _)))))) 3
            have x0 : w6.cell? ⟨bx, 0, none⟩ = some (.int .u64 p.t) := Whole.cell R6.out.get3 0
            have x1 : w6.cell? ⟨bx, 1, none⟩ = some (.int .u64 p.d) := Whole.cell R6.out.get3 1
            have x2 : w6.cell? ⟨bx, 2, none⟩ = some (.int .u64 p.u) := Whole.cell R6.out.get3 2
            have x3 : w6.cell? ⟨bx, 3, none⟩ = some (.int .u64 p.f) := Whole.cell R6.out.get3 3
            have x4 : w6.cell? ⟨bx, 4, none⟩ = some (.bool p.l) := Whole.cell R6.out.get3 4
            go_wp2_with fail
            refine (R6.out.rsack (z := p) rfl NN.out NZ.out NP.out).mono ?_
            rintro e w7 ⟨⟨_, rfl⟩, r7⟩
            have R7 := Lib.hid r7
            clear r7 R6 d2 d3 x0 x1 x2 x3 x4
            go_wp2
            go_meet
            exact ⟨rfl, _, _, l, by omega, HF.out, HL.out.ack, R7.out.less sub3⟩
        · have h1' : (kk == 1) = false := by simp [h1]
          clear h1
          by_cases h2 : kk = 2
          · have h2' : (kk == 2) = true := by simp [h2]
            clear h2
            have b0 : w4.cell? ⟨B, 0, none⟩ = some (.int .i64 kk) := Whole.cell R4.out.get3 0
            have b1 : w4.cell? ⟨B, 1, none⟩ = some (.int .i64 at_) := Whole.cell R4.out.get3 1
            have b2 : w4.cell? ⟨B, 2, none⟩ = some (.int .u64 n) := Whole.cell R4.out.get3 2
            have b3 : w4.cell? ⟨B, 3, none⟩ = some (.int .u64 z) := Whole.cell R4.out.get3 3
            have b4 : w4.cell? ⟨B, 4, none⟩ = some (.int .u64 f) := Whole.cell R4.out.get3 4
            have hB := lt_of_cell b0
            dsimp only at hB
            obtain ⟨V, hV⟩ : ∃ V, takeV x n z f = V := ⟨_, rfl⟩
            have HV : Hid (takeV x n z f = V ∧ takeV y n z f = V) := Lib.hid ⟨hV, HL.out.takeV.symm.trans hV⟩
            clear hV
            go_upto_region 21 with fail
            clear b0 b1 hB
            refine wp_region_sch (fun W => W.cell? ⟨B, 2, none⟩ = some (.int .u64 n) ∧ W.cell? ⟨B, 3, none⟩ = some (.int .u64 z) ∧ W.cell? ⟨B, 4, none⟩ = some (.int .u64 f)) [(true, 0), (true, 1), (true, 2), (true, 3), (true, 4), (true, 5), (true, 6), (true, 8), (true, 9), (true, 10), (true, 11), (true, 12), (true, 13), (true, 14), (false, 7), (false, 15), (true, 16), (true, 17)] (by kernel_rfl) (by kernel_rfl) (by kernel_rfl) (by kernel_rfl) ⟨b2, b3, b4⟩ ?_
            clear b2 b3 b4
            (repeat (refine wpSch_yes (v := ?_) rfl (fun _ _ _ h => h) (by rfl) ?_ ?_; rotate_left; (next => (intro w hSw; (try dsimp only at hSw); obtain ⟨hS1, hS2, hS3⟩ := hSw; go_simp; (try with_reducible rfl))); (try simp only [Act.put, List.setIfInBounds_toArray, List.set_cons_zero, List.set_cons_succ])))
            refine wpSch_call rfl (by rfl) (fun K hK => ?_); go_simp
            refine (R4.out.drew.stake ⟨HV.out.1, rfl⟩ NN.out).mono ?_
            rintro e w5 ⟨rfl, r5⟩
            have R5 := Lib.hid r5; clear r5 R4
            refine hK.out _ _ ⟨Whole.cell R5.out.get3 2, Whole.cell R5.out.get3 3, Whole.cell R5.out.get3 4⟩ (fun hHeld => ?_)
            clear hK K hHeld
            (try simp only [Act.put, List.setIfInBounds_toArray, List.set_cons_zero, List.set_cons_succ])
            refine wpSch_call rfl (by rfl) (fun K hK => ?_); go_simp
            refine (R5.out.rstake ⟨HV.out.2, rfl⟩ NN.out).mono ?_
            rintro e w6 ⟨rfl, r6⟩
            have R6 := Lib.hid r6; clear r6 R5
            refine hK.out _ _ ⟨Whole.cell R6.out.get3 2, Whole.cell R6.out.get3 3, Whole.cell R6.out.get3 4⟩ (fun hHeld => ?_)
            clear hK K hHeld
            (try simp only [Act.put, List.setIfInBounds_toArray, List.set_cons_zero, List.set_cons_succ])
            have heq := Try.eqSpl
            (repeat (refine wpSch_yes (v := ?_) rfl (fun _ _ _ h => h) (by rfl) ?_ ?_; rotate_left; (next => (intro w hSw; (try dsimp only at hSw); obtain ⟨hS1, hS2, hS3⟩ := hSw; go_simp; (try with_reducible rfl))); (try simp only [Act.put, List.setIfInBounds_toArray, List.set_cons_zero, List.set_cons_succ])))
            refine wpSch_nil ?_
            clear heq
            go_wp2
            go_meet
            exact ⟨rfl, _, _, l, by omega, HF.out, HL.out.take, R6.out.less sub3⟩
          · have h2' : (kk == 2) = false := by simp [h2]
            clear h2
            by_cases h3 : kk = 3
            · have h3' : (kk == 3) = true := by simp [h3]
              clear h3
              have b0 : w4.cell? ⟨B, 0, none⟩ = some (.int .i64 kk) := Whole.cell R4.out.get3 0
              have b1 : w4.cell? ⟨B, 1, none⟩ = some (.int .i64 at_) := Whole.cell R4.out.get3 1
              have b2 : w4.cell? ⟨B, 2, none⟩ = some (.int .u64 n) := Whole.cell R4.out.get3 2
              have b3 : w4.cell? ⟨B, 3, none⟩ = some (.int .u64 z) := Whole.cell R4.out.get3 3
              have b4 : w4.cell? ⟨B, 4, none⟩ = some (.int .u64 f) := Whole.cell R4.out.get3 4
              have hB := lt_of_cell b0
              dsimp only at hB
              go_wp2_with fail
              clear b0 b1 b2 b3 b4 hB
              refine (R4.out.slim rfl NF.out).mono ?_
              rintro e w5 ⟨⟨_, rfl⟩, r5⟩
              have R5 := Lib.hid r5; clear r5 R4
              have d4 : w5.cell? ⟨B, 4, none⟩ = some (.int .u64 f) := Whole.cell R5.out.get3 4
              go_wp2_with fail
              refine (R5.out.rslim rfl NF.out).mono ?_
              rintro e w6 ⟨⟨_, rfl⟩, r6⟩
              have R6 := Lib.hid r6; clear r6 R5 d4
              go_wp2
              go_meet
              exact ⟨rfl, _, _, l, by omega, HF.out, HL.out.lim, R6.out.less sub3⟩
            · have h3' : (kk == 3) = false := by simp [h3]
              clear h3
              have b0 : w4.cell? ⟨B, 0, none⟩ = some (.int .i64 kk) := Whole.cell R4.out.get3 0
              have b1 : w4.cell? ⟨B, 1, none⟩ = some (.int .i64 at_) := Whole.cell R4.out.get3 1
              have b2 : w4.cell? ⟨B, 2, none⟩ = some (.int .u64 n) := Whole.cell R4.out.get3 2
              have b3 : w4.cell? ⟨B, 3, none⟩ = some (.int .u64 z) := Whole.cell R4.out.get3 3
              have b4 : w4.cell? ⟨B, 4, none⟩ = some (.int .u64 f) := Whole.cell R4.out.get3 4
              have hB := lt_of_cell b0
              dsimp only at hB
              obtain ⟨V, hV⟩ : ∃ V, sentV x n f = V := ⟨_, rfl⟩
              have HV : Hid (sentV x n f = V ∧ sentV y n f = V) := Lib.hid ⟨hV, HL.out.sentV.symm.trans hV⟩
              have HVF : Hid V.Fit := Lib.hid (hV ▸ (R4.out.get0 : SamAt _ _ _).fit.sentV NN.out)
              clear hV
              go_wp2_with fail
              clear b0 b1 b2 b3 b4 hB
              refine (R4.out.ssent ⟨HV.out.1, rfl⟩ NN.out).mono ?_
              rintro e w5 ⟨rfl, r5⟩
              have R5 := Lib.hid (r5.box3 32 #[.int .u64 V.t, .int .u64 V.d, .int .u64 V.u, .int .u64 V.f, .bool V.l]); clear r5 R4
              go_upto_region 12 with fail
              generalize hw : World.alloc w5 _ = w6 at *
              generalize w5.heap.size = bx at *
              clear hw
              have HSK : Hid (∀ W x' y', Room w W [samT g x', rsamT gr y', sntsT (.slice a l.length c) l, blkT bx 32 #[.int .u64 V.t, .int .u64 V.d, .int .u64 V.u, .int .u64 V.f, .bool V.l], blkT B 34 #[.int .i64 kk, .int .i64 at_, .int .u64 n, .int .u64 z, .int .u64 f, .int .u64 q.t, .int .u64 q.d, .int .u64 q.u, .int .u64 q.f, .bool q.l, .bool r]] →
                  W.cell? ⟨bx, 0, none⟩ = some (.int .u64 V.t) ∧ W.cell? ⟨bx, 1, none⟩ = some (.int .u64 V.d) ∧ W.cell? ⟨bx, 2, none⟩ = some (.int .u64 V.u) ∧ W.cell? ⟨bx, 3, none⟩ = some (.int .u64 V.f) ∧ W.cell? ⟨bx, 4, none⟩ = some (.bool V.l) ∧ W.cell? ⟨B, 2, none⟩ = some (.int .u64 n) ∧ W.cell? ⟨B, 4, none⟩ = some (.int .u64 f)) := Lib.hid (fun W x' y' hR =>
                have h := hR.get3; have h' := hR.get (t := blkT B 34 _) (List.Mem.tail _ (List.Mem.tail _ (List.Mem.tail _ (List.Mem.tail _ (List.Mem.head _)))))
                ⟨Whole.cell h 0, Whole.cell h 1, Whole.cell h 2, Whole.cell h 3, Whole.cell h 4, Whole.cell h' 2, Whole.cell h' 4⟩)
              refine wp_region_sch (fun W => W.cell? ⟨bx, 0, none⟩ = some (.int .u64 V.t) ∧ W.cell? ⟨bx, 1, none⟩ = some (.int .u64 V.d) ∧ W.cell? ⟨bx, 2, none⟩ = some (.int .u64 V.u) ∧ W.cell? ⟨bx, 3, none⟩ = some (.int .u64 V.f) ∧ W.cell? ⟨bx, 4, none⟩ = some (.bool V.l) ∧ W.cell? ⟨B, 2, none⟩ = some (.int .u64 n) ∧ W.cell? ⟨B, 4, none⟩ = some (.int .u64 f)) [(true, 0), (true, 1), (true, 2), (true, 3), (true, 4), (true, 5), (false, 6), (true, 7), (true, 8)] (by kernel_rfl) (by kernel_rfl) (by kernel_rfl) (by kernel_rfl) (HSK.out _ _ _ R5.out.drew) ?_
              (repeat (refine wpSch_yes (v := ?_) rfl (fun _ _ _ h => h) (by rfl) ?_ ?_; rotate_left; (next => (intro w hSw; (try dsimp only at hSw); obtain ⟨hS1, hS2, hS3, hS4, hS5, hS6, hS7⟩ := hSw; go_simp; (try with_reducible rfl))); (try simp only [Act.put, List.setIfInBounds_toArray, List.set_cons_zero, List.set_cons_succ])))
              refine wpSch_call rfl (by rfl) (fun K hK => ?_); go_simp
              refine (R5.out.drew.rsent ⟨HV.out.2, rfl⟩ NN.out).mono ?_
              rintro e w7 ⟨rfl, r7⟩
              have R7 := Lib.hid r7; clear r7 R5
              refine hK.out _ _ (HSK.out _ _ _ R7.out) (fun hHeld => ?_)
              clear hK K hHeld
              (try simp only [Act.put, List.setIfInBounds_toArray, List.set_cons_zero, List.set_cons_succ])
              have heq := Try.eqSnt
              (repeat (refine wpSch_yes (v := ?_) rfl (fun _ _ _ h => h) (by rfl) ?_ ?_; rotate_left; (next => (intro w hSw; (try dsimp only at hSw); obtain ⟨hS1, hS2, hS3, hS4, hS5, hS6, hS7⟩ := hSw; go_simp; (try with_reducible rfl))); (try simp only [Act.put, List.setIfInBounds_toArray, List.set_cons_zero, List.set_cons_succ])))
              refine wpSch_nil ?_
              clear heq
              have HX := Lib.hid (HSK.out _ _ _ R7.out)
              obtain ⟨x0, x1, x2, x3, x4, -, -⟩ := HX.out
              have R8 := Lib.hid (R7.out.alloc (.cells #[.int .u64 V.t, .int .u64 V.d, .int .u64 V.u, .int .u64 V.f, .bool V.l] 32))
              clear HX HSK HV R7
              obtain ⟨i0, hi, hz0, hz1, hz2⟩ := Try.partsSnt
              have HI := Lib.hid hi; have HZ0 := Lib.hid hz0; have HZ1 := Lib.hid hz1; have HZ2 := Lib.hid hz2; clear hi hz0 hz1 hz2
              go_wp2_with (at_builtin; refine wpList_append_rows rfl _ _ 30 rfl 32 i0 _ 5 40 Try.underlying30 HI.out HZ0.out HZ1.out HZ2.out rfl (by decide) _ l.length (flatS l) rfl R8.out.get2 (some ⟨w7.heap.size, 0, none⟩) 1 1 (cells5 V) rfl rfl (fun h => (by cases h)) (row_news w7 (cells5 V) 32) (one_cells5 _) (by unfold maxLen; omega) (by omega) ?_; intro v' w8 hown hk8 hnew8 _; have R9 := Lib.hid (R8.out.step2 (t' := sntsT v' (l ++ [V])) (snts_more hown) hk8 hnew8); clear hown hk8 hnew8)
              go_meet
              exact ⟨rfl, _, _, l ++ [V], by rw [List.length_append, List.length_singleton]; omega, fun q hq => by
                rcases List.mem_append.1 hq with h | h
                · exact HF.out q h
                · rw [List.mem_singleton.1 h]; exact HVF.out, HL.out.sent, R9.out.less sub3⟩
      case rest =>
        obtain ⟨rfl, x', y', l', hl', hf', hlk, hR'⟩ := hcut
        have RX := Lib.hid hR'; have HF' := Lib.hid hf'; have HL' := Lib.hid hlk
        clear hR' hf' hlk HF HL R4 NN NZ NF NQ
        go_upto_region 25 with fail
        obtain ⟨dd, hdd⟩ : ∃ dd, x'.d = dd := ⟨_, rfl⟩
        have HD := Lib.hid hdd
        have HD' := Lib.hid (HL'.out.d.symm.trans hdd)
        clear hdd
        have HSK : Hid (∀ W, RSamAt W gr y' → W.cell? ⟨gr, 0, none⟩ = some (.int .u64 dd)) := Lib.hid (fun W hR => HD'.out ▸ hR.whole.cell 0)
        refine wp_region_sch (fun W => W.cell? ⟨gr, 0, none⟩ = some (.int .u64 dd)) [(true, 0), (true, 1), (true, 2), (true, 3), (true, 5), (true, 6), (true, 7), (true, 8), (false, 4), (true, 9), (true, 10)] (by kernel_rfl) (by kernel_rfl) (by kernel_rfl) (by kernel_rfl) (HSK.out _ RX.out.drew.get1) ?_
        (repeat (refine wpSch_yes (v := ?_) rfl (fun _ _ _ h => h) (by rfl) ?_ ?_; rotate_left; (next => (intro w hSw; (try dsimp only at hSw); go_simp; (try with_reducible rfl))); (try simp only [Act.put, List.setIfInBounds_toArray, List.set_cons_zero, List.set_cons_succ])))
        refine wpSch_call rfl (by rfl) (fun K hK => ?_); go_simp
        refine (RX.out.drew.sdel HD.out).mono ?_
        rintro e w' ⟨rfl, rfl⟩
        refine hK.out _ _ (HSK.out _ RX.out.drew.get1) (fun hHeld => ?_)
        clear hK K hHeld
        (try simp only [Act.put, List.setIfInBounds_toArray, List.set_cons_zero, List.set_cons_succ])
        have hdd : (dd != dd) = false := by simp
        (repeat (refine wpSch_yes (v := ?_) rfl (fun _ _ _ h => h) (by rfl) ?_ ?_; rotate_left; (next => (intro w hSw; (try dsimp only at hSw); go_simp; (try with_reducible rfl))); (try simp only [Act.put, List.setIfInBounds_toArray, List.set_cons_zero, List.set_cons_succ])))
        refine wpSch_nil ?_
        go_wp2
        go_roundg (gk - 1)
        case measure => omega
        case rel => exact ⟨k + 1, x', y', l', by omega, by omega, by go_num, hl', HF'.out, HL'.out, RX.out.drew⟩
    · by_cases hl1 : k < z0.length
      · have hi1 : (k : Int) < (z0.length : Int) := by omega
        have hi2 : ¬ (k : Int) < 80 := by omega
        go_wp2
        go_ret
        exact ⟨rfl, HM.out.bel⟩
      · have hi1 : ¬ (k : Int) < (z0.length : Int) := by omega
        go_wp2
        go_ret
        exact ⟨rfl, HM.out.bel⟩

set_option maxRecDepth 100000 in
theorem lifted (os : Os) (started : os.Started) (H : Type) (enc : TypeId × Value → H) :
    ReturnsInHanded {} Try.checked os 3 .any (Rows.samplerTellsSpec.pre6 enc Try.prog Try.f3 Rows.samplerTellsRow.domain false) (Rows.samplerTellsSpec.post enc Try.prog Try.f3 false true false false) := by
  refine returnsInHanded_of_change (C := Try.checked) own started (by kernel_rfl) Try.func3
    (ChangeSpec.witness6 (enc := enc) (C := Try.checked) false ⟨#[], #[.slice none 0 0], []⟩ 8 (by kernel_rfl) (by kernel_rfl) (by kernel_rfl) (by kernel_rfl)) ?_
  intro W base args ds gs before hval0 hW hcnd _
  have hval : ∀ (j : Nat) t v, Try.f3.params[j]? = some t → args[j]? = some v → Value.okWide Try.prog W .any base t v := hval0
  have hW' := hW
  obtain ⟨p, q, hA0, hV, rfl, hfz, hnd⟩ := hW
  have hA : DataW.TrodAll enc Try.prog W 0 (fun _ => true) true Try.f3.params.toList args.toList ds p := hA0
  rw [Try.params3] at hA hval
  obtain ⟨v0, vs0, d0, ds0, p0, q0, hargs, rfl, rfl, h0, r0'⟩ := trodAll_cons hA
  obtain ⟨rfl, rfl, rfl⟩ := trodAll_nil r0'
  obtain rfl : args = #[v0] := by cases args; simp_all
  obtain ⟨rfl, rfl⟩ := trodVars_none hV
  obtain ⟨a0, len0, cap0, rfl⟩ := okWide_slice Try.underlying22 (hval 0 22 v0 rfl rfl)
  have k0 := h0
  have lt0 : ∀ x ∈ p0, x.block < W.heap.size := by obtain ⟨m, hm⟩ := k0; exact DataW.trod_lt m _ _ _ hm
  obtain ⟨z0, hz0, hc0, r0⟩ := open_jobs h0
  subst hz0
  clear hA0 hval0
  refine (walk a0 cap0 z0 W hc0 r0).mono fun e W' ⟨he, bel⟩ => ?_
  subst he
  exact ⟨_, rfl, _, _, _, [], _, [], hW', trodAll_mk1 (shut_bool Try.underlying4 _), (trodAll_cons_mk (Below.trod laidOut (by kernel_rfl) (of_decide_eq_true (by kernel_rfl)) k0 bel lt0) trodAll_mk0), rfl, bel.frame _, fun h => by cases h⟩

theorem over : Rows.samplerTellsRow.holds Try.pinned (OpenSpec.ofChange Rows.samplerTellsSpec) :=
  OpenClaim.holds_of_wide 3 Try.f3 rfl rfl rfl rfl rfl rfl rfl ⟨rfl, rfl, rfl, rfl, rfl⟩ rfl rfl rfl rfl rfl (by kernel_rfl) Try.func3 (by kernel_rfl)
    (of_decide_eq_true (by kernel_rfl)) (by unfold Func.isWrapper; first | (rw [if_pos (by decide +kernel)]; kernel_rfl) | (rw [if_neg (by decide +kernel)]; exact ⟨rfl, rfl⟩))
    (fun os started H enc _ => lifted os started H enc)

theorem proved : Rows.SamplerTellsSaid := over
end Go.Proofs.Ytiilbdmldonipaa.samplerTells
namespace Go.Proofs.Ytiilbdmldonipaa
theorem samplerTells_holds : Rows.SamplerTellsSaid := samplerTells.proved
#print axioms samplerTells_holds
end Go.Proofs.Ytiilbdmldonipaa
