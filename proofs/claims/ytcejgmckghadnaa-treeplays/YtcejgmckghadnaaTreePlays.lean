/-
  Proved: canterlaw05.TreePlays answers true at every number, every list of deeds and every key, and leaves its arguments as they were. Conditions: none.
-/
import Derived.Test.YtcejgmckghadnaaRows
import Derived.WalkKit
import Derived.ProofKit
import Derived.OpenShut
import Derived.ShutString
import Derived.Below
import Derived.Test.YtcejgmckghadnaaTwin
import Derived.Deep.DeepCutAuto
import Derived.Deep.CutBlock
import Derived.Deep.LoopGhost
namespace Go.Proofs.Ytcejgmckghadnaa.treePlays
open Go.ChangeShapes Go.WideShapes Go.ChangeAt Go.RowKit
set_option linter.unusedVariables false

theorem own : ownKnob Try.prog.godebug = none := by kernel_rfl
theorem laidOut : laidOutB Try.prog = true := by kernel_rfl


set_option maxHeartbeats 8000000 in
set_option maxRecDepth 100000 in
theorem walk (a0 : Int) (a1 : Option Addr) (cap1 : Nat) (z1 : List Deed) (a2 : Key) (w : World) (w0 : (Lit.int .i64 a0).wf = true) (c1 : z1.length ≤ 9223372036854775807) (r1 : RdD w a1 z1)  :
    Calls Try.prog 3 #[.int .i64 a0, .slice a1 z1.length cap1, kv a2] w fun e w' => e = .returned (.bool true) ∧ Below w.heap.size w w' := by
  have HRD := Lib.hid r1; clear r1 w0
  obtain ⟨qa, qb⟩ := a2
  unfold kv
  dsimp only
  have heq := Try.neKey
  have heq2 := Try.eqKey
  have HBB : Hid (Below w.heap.size w (w.alloc (.cells #[.int .u64 qa, .int .u64 qb] 25))) := Lib.hid ((Keep.refl (fun _ => False) w).alloc _ |>.below (Nat.le_refl _) (fun _ h => h.elim))
  have HSZ : Hid (w.heap.size ≤ (w.alloc (.cells #[.int .u64 qa, .int .u64 qb] 25)).heap.size) := Lib.hid (by simp)
  have WA := Lib.hid (Whole.new w 25 #[.int .u64 qa, .int .u64 qb])
  go_enter Try.func3, Try.ntmps3
  go_wp2_with fail
  generalize w.alloc (.cells #[.int .u64 qa, .int .u64 qb] 25) = wB at *
  refine (Sit.new (N := capN a0) rfl wB).mono ?_
  rintro e w1 ⟨g, S1, rfl, h1, _⟩
  have HP := Lib.hid (Twin.new h1); clear h1
  go_wp2_with fail
  generalize w1.alloc (.cells #[.int .i64 a0, .slice none 0 0] 31) = w2 at *
  generalize w1.heap.size = gr at *
  refine HP.out.awake.mono ?_
  rintro e w3 ⟨rfl, h3, _⟩
  have H3 := Lib.hid h3; clear h3 HP
  go_wp2
  go_loopg [9] 120 (fun j i wr => ∃ (k : Nat) (ks : List Key), k + j = 120 ∧ i = .int .i64 k ∧ Twin wB wr g gr a0 ks ks [])
  case atStart => exact ⟨0, [], by omega, rfl, H3.out⟩
  case round =>
    obtain ⟨k, ks, hk, rfl, hp⟩ := hrel
    clear H3
    have HP := Lib.hid hp; clear hp
    by_cases hin : k < z1.length ∧ k < 120
    · obtain ⟨hin1, hin2⟩ := hin
      have i1 : (k : Int) < (z1.length : Int) := by omega
      obtain ⟨d, hd⟩ : ∃ d, z1[k]? = some d := ⟨_, List.getElem?_eq_getElem hin1⟩
      obtain ⟨b1, o1, rfl, hb1, y1, y2, y3⟩ := HRD.out k d hd
      have hbel := HBB.out.trans (HP.out.bel.mono HSZ.out)
      have g1 := (hbel.cell (p := ⟨b1, o1 + k * 3, none⟩) hb1).trans y1
      have g2 := (hbel.cell (p := ⟨b1, o1 + k * 3 + 1, none⟩) hb1).trans y2
      have g3 := (hbel.cell (p := ⟨b1, o1 + k * 3 + 2, none⟩) hb1).trans y3
      clear y1 y2 y3 hd hbel HRD
      obtain ⟨kd, xa, xb⟩ := d
      dsimp only at g1 g2 g3
      have HO := Lib.hid (HP.out.add 34 #[.int .i64 kd, .int .u64 xa, .int .u64 xb])
      clear HP
      go_upto_if 51 with fail
      generalize wr.alloc (.cells #[.int .i64 kd, .int .u64 xa, .int .u64 xb] 34) = w4 at *
      generalize wr.heap.size = ob at *
      clear g1 g2 g3
      go_cut [11] (fun s11 wx => s11 = .bool true ∧ ∃ ks', Twin wB wx g gr a0 ks' ks' [(ob, 34, #[.int .i64 kd, .int .u64 xa, .int .u64 xb])])
      case first =>
        have HSRT := Lib.hid HO.out.sorted
        cases hq : (kd == 1) with
        | true =>
          have fe : (delE ks ⟨xa, xb⟩ == delE ks ⟨xa, xb⟩) = true := by simp
          go_upto_region 10 with fail
          have HCELL : Hid (∀ W ks ls, Twin wB W g gr a0 ks ls [(ob, 34, #[.int .i64 kd, .int .u64 xa, .int .u64 xb])] → W.cell? ⟨ob, 1, none⟩ = some (.int .u64 xa) ∧ W.cell? ⟨ob, 2, none⟩ = some (.int .u64 xb)) := Lib.hid (fun W _ _ h => ⟨(h.get (List.Mem.head _)).cell 1, (h.get (List.Mem.head _)).cell 2⟩)
          refine wp_region_sch (fun W => W.cell? ⟨ob, 1, none⟩ = some (.int .u64 xa) ∧ W.cell? ⟨ob, 2, none⟩ = some (.int .u64 xb)) [(true, 0), (true, 1), (true, 2), (true, 4), (true, 5), (true, 6), (false, 3), (false, 7), (true, 8), (true, 9)] (by kernel_rfl) (by kernel_rfl) (by kernel_rfl) (by kernel_rfl) (HCELL.out _ _ _ HO.out.drew) ?_
          (repeat (first
  | (refine wpSch_yes (v := ?_) rfl (fun _ _ _ h => h) (by rfl) ?_ ?_; rotate_left; (next => (intro w hSw; (try dsimp only at hSw); (first | (obtain ⟨hS1, hS2, hS3, hS4, hS5, hS6, hS7⟩ := hSw) | (obtain ⟨hS1, hS2⟩ := hSw)); go_simp; (try with_reducible rfl))); (try simp only [Act.put, List.setIfInBounds_toArray, List.set_cons_zero, List.set_cons_succ]))
  | (refine wpSch_no rfl (fun _ _ _ h => h) (by rfl) ?_; (try simp only [Act.put, List.setIfInBounds_toArray, List.set_cons_zero, List.set_cons_succ]))
  | (refine wpSch_not rfl (by rfl) (by assumption) ?_; (try simp only [Act.put, List.setIfInBounds_toArray, List.set_cons_zero, List.set_cons_succ]))))
          refine wpSch_call rfl (by rfl) (fun K hK => ?_); go_simp
          refine (HO.out.drew.del ⟨xa, xb⟩).mono ?_
          rintro e w5 ⟨rfl, h5⟩
          have P5 := Lib.hid h5
          clear h5
          refine hK.out _ _ ?_ (fun hHeld => ?_)
          · exact HCELL.out _ _ _ P5.out
          clear hK K
          (try simp only [Act.put, List.setIfInBounds_toArray, List.set_cons_zero, List.set_cons_succ])
          (repeat (first
  | (refine wpSch_yes (v := ?_) rfl (fun _ _ _ h => h) (by rfl) ?_ ?_; rotate_left; (next => (intro w hSw; (try dsimp only at hSw); (first | (obtain ⟨hS1, hS2, hS3, hS4, hS5, hS6, hS7⟩ := hSw) | (obtain ⟨hS1, hS2⟩ := hSw)); go_simp; (try with_reducible rfl))); (try simp only [Act.put, List.setIfInBounds_toArray, List.set_cons_zero, List.set_cons_succ]))
  | (refine wpSch_no rfl (fun _ _ _ h => h) (by rfl) ?_; (try simp only [Act.put, List.setIfInBounds_toArray, List.set_cons_zero, List.set_cons_succ]))
  | (refine wpSch_not rfl (by rfl) (by assumption) ?_; (try simp only [Act.put, List.setIfInBounds_toArray, List.set_cons_zero, List.set_cons_succ]))))
          refine wpSch_call rfl (by rfl) (fun K hK => ?_); go_simp
          refine (P5.out.kdel HSRT.out ⟨xa, xb⟩).mono ?_
          rintro e w6 ⟨rfl, h6⟩
          have P6 := Lib.hid h6
          clear h6
          refine hK.out _ _ ?_ (fun hHeld => ?_)
          · exact HCELL.out _ _ _ P6.out
          clear hK K
          (try simp only [Act.put, List.setIfInBounds_toArray, List.set_cons_zero, List.set_cons_succ])
          (repeat (first
  | (refine wpSch_yes (v := ?_) rfl (fun _ _ _ h => h) (by rfl) ?_ ?_; rotate_left; (next => (intro w hSw; (try dsimp only at hSw); (first | (obtain ⟨hS1, hS2, hS3, hS4, hS5, hS6, hS7⟩ := hSw) | (obtain ⟨hS1, hS2⟩ := hSw)); go_simp; (try with_reducible rfl))); (try simp only [Act.put, List.setIfInBounds_toArray, List.set_cons_zero, List.set_cons_succ]))
  | (refine wpSch_no rfl (fun _ _ _ h => h) (by rfl) ?_; (try simp only [Act.put, List.setIfInBounds_toArray, List.set_cons_zero, List.set_cons_succ]))
  | (refine wpSch_not rfl (by rfl) (by assumption) ?_; (try simp only [Act.put, List.setIfInBounds_toArray, List.set_cons_zero, List.set_cons_succ]))))
          refine wpSch_nil ?_
          go_wp2_with fail
          go_meet
          exact ⟨rfl, _, P6.out⟩
        | false =>
          have fe : (insE (capN a0) ks ⟨xa, xb⟩ == insE (capN a0) ks ⟨xa, xb⟩) = true := by simp
          go_upto_region 11 with fail
          have HCELL : Hid (∀ W ks ls, Twin wB W g gr a0 ks ls [(ob, 34, #[.int .i64 kd, .int .u64 xa, .int .u64 xb])] → W.cell? ⟨ob, 1, none⟩ = some (.int .u64 xa) ∧ W.cell? ⟨ob, 2, none⟩ = some (.int .u64 xb)) := Lib.hid (fun W _ _ h => ⟨(h.get (List.Mem.head _)).cell 1, (h.get (List.Mem.head _)).cell 2⟩)
          refine wp_region_sch (fun W => W.cell? ⟨ob, 1, none⟩ = some (.int .u64 xa) ∧ W.cell? ⟨ob, 2, none⟩ = some (.int .u64 xb)) [(true, 0), (true, 1), (true, 2), (true, 4), (true, 5), (true, 6), (false, 3), (false, 7), (true, 8), (true, 9)] (by kernel_rfl) (by kernel_rfl) (by kernel_rfl) (by kernel_rfl) (HCELL.out _ _ _ HO.out.drew) ?_
          (repeat (first
  | (refine wpSch_yes (v := ?_) rfl (fun _ _ _ h => h) (by rfl) ?_ ?_; rotate_left; (next => (intro w hSw; (try dsimp only at hSw); (first | (obtain ⟨hS1, hS2, hS3, hS4, hS5, hS6, hS7⟩ := hSw) | (obtain ⟨hS1, hS2⟩ := hSw)); go_simp; (try with_reducible rfl))); (try simp only [Act.put, List.setIfInBounds_toArray, List.set_cons_zero, List.set_cons_succ]))
  | (refine wpSch_no rfl (fun _ _ _ h => h) (by rfl) ?_; (try simp only [Act.put, List.setIfInBounds_toArray, List.set_cons_zero, List.set_cons_succ]))
  | (refine wpSch_not rfl (by rfl) (by assumption) ?_; (try simp only [Act.put, List.setIfInBounds_toArray, List.set_cons_zero, List.set_cons_succ]))))
          refine wpSch_call rfl (by rfl) (fun K hK => ?_); go_simp
          refine (HO.out.drew.ins ⟨xa, xb⟩).mono ?_
          rintro e w5 ⟨rfl, h5⟩
          have P5 := Lib.hid h5
          clear h5
          refine hK.out _ _ ?_ (fun hHeld => ?_)
          · exact HCELL.out _ _ _ P5.out
          clear hK K
          (try simp only [Act.put, List.setIfInBounds_toArray, List.set_cons_zero, List.set_cons_succ])
          (repeat (first
  | (refine wpSch_yes (v := ?_) rfl (fun _ _ _ h => h) (by rfl) ?_ ?_; rotate_left; (next => (intro w hSw; (try dsimp only at hSw); (first | (obtain ⟨hS1, hS2, hS3, hS4, hS5, hS6, hS7⟩ := hSw) | (obtain ⟨hS1, hS2⟩ := hSw)); go_simp; (try with_reducible rfl))); (try simp only [Act.put, List.setIfInBounds_toArray, List.set_cons_zero, List.set_cons_succ]))
  | (refine wpSch_no rfl (fun _ _ _ h => h) (by rfl) ?_; (try simp only [Act.put, List.setIfInBounds_toArray, List.set_cons_zero, List.set_cons_succ]))
  | (refine wpSch_not rfl (by rfl) (by assumption) ?_; (try simp only [Act.put, List.setIfInBounds_toArray, List.set_cons_zero, List.set_cons_succ]))))
          refine wpSch_call rfl (by rfl) (fun K hK => ?_); go_simp
          refine (P5.out.kins HSRT.out ⟨xa, xb⟩).mono ?_
          rintro e w6 ⟨rfl, h6⟩
          have P6 := Lib.hid h6
          clear h6
          refine hK.out _ _ ?_ (fun hHeld => ?_)
          · exact HCELL.out _ _ _ P6.out
          clear hK K
          (try simp only [Act.put, List.setIfInBounds_toArray, List.set_cons_zero, List.set_cons_succ])
          (repeat (first
  | (refine wpSch_yes (v := ?_) rfl (fun _ _ _ h => h) (by rfl) ?_ ?_; rotate_left; (next => (intro w hSw; (try dsimp only at hSw); (first | (obtain ⟨hS1, hS2, hS3, hS4, hS5, hS6, hS7⟩ := hSw) | (obtain ⟨hS1, hS2⟩ := hSw)); go_simp; (try with_reducible rfl))); (try simp only [Act.put, List.setIfInBounds_toArray, List.set_cons_zero, List.set_cons_succ]))
  | (refine wpSch_no rfl (fun _ _ _ h => h) (by rfl) ?_; (try simp only [Act.put, List.setIfInBounds_toArray, List.set_cons_zero, List.set_cons_succ]))
  | (refine wpSch_not rfl (by rfl) (by assumption) ?_; (try simp only [Act.put, List.setIfInBounds_toArray, List.set_cons_zero, List.set_cons_succ]))))
          refine wpSch_nil ?_
          go_wp2_with fail
          go_meet
          exact ⟨rfl, _, P6.out⟩
      case rest =>
        obtain ⟨rfl, l, hp1⟩ := hcut
        have H1 := Lib.hid hp1
        clear hp1 HO i1
        clear ks
        go_wp2_with fail
        refine H1.out.min.mono ?_
        rintro e w5 ⟨rfl, h5, _⟩
        simp only [kv]
        have H5 := Lib.hid (h5.add 25 #[.int .u64 (hdK l).a, .int .u64 (hdK l).b])
        clear h5 H1
        go_wp2_with fail
        generalize w5.alloc (.cells #[.int .u64 (hdK l).a, .int .u64 (hdK l).b] 25) = w6 at *
        generalize w5.heap.size = pa at *
        refine H5.out.kmin.mono ?_
        rintro e w7 ⟨rfl, h7, _⟩
        simp only [kv]
        have H7 := Lib.hid (h7.add 25 #[.int .u64 (hdK l).a, .int .u64 (hdK l).b])
        clear h7 H5
        go_upto_region 14 with fail
        generalize w7.alloc (.cells #[.int .u64 (hdK l).a, .int .u64 (hdK l).b] 25) = w8 at *
        generalize w7.heap.size = pb at *
        go_cut [117] (fun s117 wx => s117 = .bool false ∧ Twin wB wx g gr a0 l l [(ob, 34, #[.int .i64 kd, .int .u64 xa, .int .u64 xb])])
        case first =>
          obtain ⟨ak, ck, hka⟩ := H7.out.keys
          have HC : Hid (∀ W, Keep (fun _ => False) w8 W → W.cell? ⟨ob, 1, none⟩ = some (.int .u64 xa) ∧ W.cell? ⟨ob, 2, none⟩ = some (.int .u64 xb) ∧ W.cell? ⟨pa, 0, none⟩ = some (.int .u64 (hdK l).a) ∧ W.cell? ⟨pa, 1, none⟩ = some (.int .u64 (hdK l).b) ∧ W.cell? ⟨pb, 0, none⟩ = some (.int .u64 (hdK l).a) ∧ W.cell? ⟨pb, 1, none⟩ = some (.int .u64 (hdK l).b) ∧ W.cell? ⟨gr, 1, none⟩ = some (.slice ak l.length ck)) :=
            Lib.hid (fun W hW => by
              have t := H7.out.kept hW
              have x1 := t.get (List.Mem.head _)
              have x2 := t.get (List.Mem.tail _ (List.Mem.head _))
              have x3 := t.get (List.Mem.tail _ (List.Mem.tail _ (List.Mem.head _)))
              exact ⟨x3.cell 1, x3.cell 2, x2.cell 0, x2.cell 1, x1.cell 0, x1.cell 1, (hka.st.keep hW id).cell 1⟩)
          clear hka
          have f1 : (!((hdK l).a == (hdK l).a && (hdK l).b == (hdK l).b)) = false := by simp
          have f2 : (hdB l != hdB l) = false := by simp
          have f3 : ((l.length : Int) != (l.length : Int)) = false := by simp
          have f4 : (decide ((⟨xa, xb⟩ : Key) ∈ l) != decide ((⟨xa, xb⟩ : Key) ∈ l)) = false := by simp
          refine wp_region_sch (fun W => W.cell? ⟨ob, 1, none⟩ = some (.int .u64 xa) ∧ W.cell? ⟨ob, 2, none⟩ = some (.int .u64 xb) ∧ W.cell? ⟨pa, 0, none⟩ = some (.int .u64 (hdK l).a) ∧ W.cell? ⟨pa, 1, none⟩ = some (.int .u64 (hdK l).b) ∧ W.cell? ⟨pb, 0, none⟩ = some (.int .u64 (hdK l).a) ∧ W.cell? ⟨pb, 1, none⟩ = some (.int .u64 (hdK l).b) ∧ W.cell? ⟨gr, 1, none⟩ = some (.slice ak l.length ck)) [(true, 0), (true, 1), (true, 2), (true, 3), (true, 4), (true, 5), (true, 6), (true, 7), (true, 8), (true, 9), (true, 10), (true, 11), (true, 12), (true, 13), (true, 15), (true, 16), (true, 17), (true, 18), (true, 19), (false, 14), (true, 20), (true, 21), (true, 22), (true, 23), (false, 24), (true, 25), (true, 26), (true, 27), (true, 28), (true, 29), (true, 30), (true, 32), (true, 33), (true, 34), (false, 31), (false, 35), (true, 36), (true, 37)] (by kernel_rfl) (by kernel_rfl) (by kernel_rfl) (by kernel_rfl) (HC.out _ (Keep.refl _ _).drew) ?_
          (repeat (first
  | (refine wpSch_yes (v := ?_) rfl (fun _ _ _ h => h) (by rfl) ?_ ?_; rotate_left; (next => (intro w hSw; (try dsimp only at hSw); (first | (obtain ⟨hS1, hS2, hS3, hS4, hS5, hS6, hS7⟩ := hSw) | (obtain ⟨hS1, hS2⟩ := hSw)); go_simp; (try with_reducible rfl))); (try simp only [Act.put, List.setIfInBounds_toArray, List.set_cons_zero, List.set_cons_succ]))
  | (refine wpSch_no rfl (fun _ _ _ h => h) (by rfl) ?_; (try simp only [Act.put, List.setIfInBounds_toArray, List.set_cons_zero, List.set_cons_succ]))
  | (refine wpSch_not rfl (by rfl) (by assumption) ?_; (try simp only [Act.put, List.setIfInBounds_toArray, List.set_cons_zero, List.set_cons_succ]))))
          refine wpSch_call rfl (by rfl) (fun K hK => ?_); go_simp
          refine (H7.out.drew.len).mono ?_
          rintro e w9 ⟨rfl, h9, k9⟩
          have P9 := Lib.hid h9; have K9 := Lib.hid ((Keep.refl _ w8).drew.trans k9)
          clear h9 k9
          refine hK.out _ _ ?_ (fun hHeld => ?_)
          · exact HC.out _ K9.out
          clear hK K
          (try simp only [Act.put, List.setIfInBounds_toArray, List.set_cons_zero, List.set_cons_succ])
          (repeat (first
  | (refine wpSch_yes (v := ?_) rfl (fun _ _ _ h => h) (by rfl) ?_ ?_; rotate_left; (next => (intro w hSw; (try dsimp only at hSw); (first | (obtain ⟨hS1, hS2, hS3, hS4, hS5, hS6, hS7⟩ := hSw) | (obtain ⟨hS1, hS2⟩ := hSw)); go_simp; (try with_reducible rfl))); (try simp only [Act.put, List.setIfInBounds_toArray, List.set_cons_zero, List.set_cons_succ]))
  | (refine wpSch_no rfl (fun _ _ _ h => h) (by rfl) ?_; (try simp only [Act.put, List.setIfInBounds_toArray, List.set_cons_zero, List.set_cons_succ]))
  | (refine wpSch_not rfl (by rfl) (by assumption) ?_; (try simp only [Act.put, List.setIfInBounds_toArray, List.set_cons_zero, List.set_cons_succ]))))
          refine wpSch_call rfl (by rfl) (fun K hK => ?_); go_simp
          refine P9.out.low.mono ?_
          rintro e w10 ⟨rfl, h9, k9⟩
          have P10 := Lib.hid h9; have K10 := Lib.hid (K9.out.trans k9)
          clear h9 k9
          refine hK.out _ _ ?_ (fun hHeld => ?_)
          · exact HC.out _ K10.out
          clear hK K
          (try simp only [Act.put, List.setIfInBounds_toArray, List.set_cons_zero, List.set_cons_succ])
          (repeat (first
  | (refine wpSch_yes (v := ?_) rfl (fun _ _ _ h => h) (by rfl) ?_ ?_; rotate_left; (next => (intro w hSw; (try dsimp only at hSw); (first | (obtain ⟨hS1, hS2, hS3, hS4, hS5, hS6, hS7⟩ := hSw) | (obtain ⟨hS1, hS2⟩ := hSw)); go_simp; (try with_reducible rfl))); (try simp only [Act.put, List.setIfInBounds_toArray, List.set_cons_zero, List.set_cons_succ]))
  | (refine wpSch_no rfl (fun _ _ _ h => h) (by rfl) ?_; (try simp only [Act.put, List.setIfInBounds_toArray, List.set_cons_zero, List.set_cons_succ]))
  | (refine wpSch_not rfl (by rfl) (by assumption) ?_; (try simp only [Act.put, List.setIfInBounds_toArray, List.set_cons_zero, List.set_cons_succ]))))
          refine wpSch_call rfl (by rfl) (fun K hK => ?_); go_simp
          refine (P10.out.has ⟨xa, xb⟩).mono ?_
          rintro e w11 ⟨rfl, h9, k9⟩
          have P11 := Lib.hid h9; have K11 := Lib.hid (K10.out.trans k9)
          clear h9 k9
          refine hK.out _ _ ?_ (fun hHeld => ?_)
          · exact HC.out _ K11.out
          clear hK K
          (try simp only [Act.put, List.setIfInBounds_toArray, List.set_cons_zero, List.set_cons_succ])
          (repeat (first
  | (refine wpSch_yes (v := ?_) rfl (fun _ _ _ h => h) (by rfl) ?_ ?_; rotate_left; (next => (intro w hSw; (try dsimp only at hSw); (first | (obtain ⟨hS1, hS2, hS3, hS4, hS5, hS6, hS7⟩ := hSw) | (obtain ⟨hS1, hS2⟩ := hSw)); go_simp; (try with_reducible rfl))); (try simp only [Act.put, List.setIfInBounds_toArray, List.set_cons_zero, List.set_cons_succ]))
  | (refine wpSch_no rfl (fun _ _ _ h => h) (by rfl) ?_; (try simp only [Act.put, List.setIfInBounds_toArray, List.set_cons_zero, List.set_cons_succ]))
  | (refine wpSch_not rfl (by rfl) (by assumption) ?_; (try simp only [Act.put, List.setIfInBounds_toArray, List.set_cons_zero, List.set_cons_succ]))))
          refine wpSch_call rfl (by rfl) (fun K hK => ?_); go_simp
          refine (P11.out.khas ⟨xa, xb⟩).mono ?_
          rintro e w12 ⟨rfl, h9, k9⟩
          have P12 := Lib.hid h9; have K12 := Lib.hid (K11.out.trans k9)
          clear h9 k9
          refine hK.out _ _ ?_ (fun hHeld => ?_)
          · exact HC.out _ K12.out
          clear hK K
          (try simp only [Act.put, List.setIfInBounds_toArray, List.set_cons_zero, List.set_cons_succ])
          (repeat (first
  | (refine wpSch_yes (v := ?_) rfl (fun _ _ _ h => h) (by rfl) ?_ ?_; rotate_left; (next => (intro w hSw; (try dsimp only at hSw); (first | (obtain ⟨hS1, hS2, hS3, hS4, hS5, hS6, hS7⟩ := hSw) | (obtain ⟨hS1, hS2⟩ := hSw)); go_simp; (try with_reducible rfl))); (try simp only [Act.put, List.setIfInBounds_toArray, List.set_cons_zero, List.set_cons_succ]))
  | (refine wpSch_no rfl (fun _ _ _ h => h) (by rfl) ?_; (try simp only [Act.put, List.setIfInBounds_toArray, List.set_cons_zero, List.set_cons_succ]))
  | (refine wpSch_not rfl (by rfl) (by assumption) ?_; (try simp only [Act.put, List.setIfInBounds_toArray, List.set_cons_zero, List.set_cons_succ]))))
          refine wpSch_nil ?_
          go_wp2_with fail
          go_meet
          exact ⟨rfl, P12.out.less (fun x hx => List.Mem.tail _ (List.Mem.tail _ hx))⟩
        case rest =>
          obtain ⟨rfl, hp2⟩ := hcut
          have H2 := Lib.hid hp2
          clear hp2 H7
          have g1 := (H2.out.get (List.Mem.head _)).cell 1
          have g2 := (H2.out.get (List.Mem.head _)).cell 2
          go_wp2_with fail
          refine (H2.out.next ⟨xa, xb⟩).mono ?_
          rintro e w9 ⟨rfl, h9, _⟩
          simp only [kv]
          have H9 := Lib.hid (h9.add 25 #[.int .u64 (hdK (above l ⟨xa, xb⟩)).a, .int .u64 (hdK (above l ⟨xa, xb⟩)).b])
          clear h9 H2 g1 g2
          have g1 := (H9.out.get (List.Mem.tail _ (List.Mem.head _))).cell 1
          have g2 := (H9.out.get (List.Mem.tail _ (List.Mem.head _))).cell 2
          go_wp2_with fail
          generalize w9.alloc (.cells #[.int .u64 (hdK (above l ⟨xa, xb⟩)).a, .int .u64 (hdK (above l ⟨xa, xb⟩)).b] 25) = w10 at *
          generalize w9.heap.size = pc at *
          refine (H9.out.knext ⟨xa, xb⟩).mono ?_
          rintro e w11 ⟨rfl, h11, _⟩
          simp only [kv]
          have H11 := Lib.hid (h11.add 25 #[.int .u64 (hdK (above l ⟨xa, xb⟩)).a, .int .u64 (hdK (above l ⟨xa, xb⟩)).b])
          clear h11 H9 g1 g2
          have g1 := (H11.out.get (List.Mem.head _)).cell 0
          have g2 := (H11.out.get (List.Mem.head _)).cell 1
          have g3 := (H11.out.get (List.Mem.tail _ (List.Mem.head _))).cell 0
          have g4 := (H11.out.get (List.Mem.tail _ (List.Mem.head _))).cell 1
          have f1 : (!((hdK (above l ⟨xa, xb⟩)).a == (hdK (above l ⟨xa, xb⟩)).a && (hdK (above l ⟨xa, xb⟩)).b == (hdK (above l ⟨xa, xb⟩)).b)) = false := by simp
          have f2 : (hdB (above l ⟨xa, xb⟩) != hdB (above l ⟨xa, xb⟩)) = false := by simp
          go_wp2
          go_roundg (gk - 1)
          case measure => omega
          case rel => exact ⟨k + 1, l, by omega, by go_num, H11.out.bare⟩
    · clear HRD
      by_cases hin1 : k < z1.length
      all_goals
        have hk120 : z1.length ≤ k ∨ 120 ≤ k := by omega
        clear hin
        have HQ : Hid (∀ W ks ls X, Twin wB W g gr a0 ks ls X → W.cell? ⟨w.heap.size, 0, none⟩ = some (.int .u64 qa) ∧ W.cell? ⟨w.heap.size, 1, none⟩ = some (.int .u64 qb)) := Lib.hid (fun W _ _ _ h => by
          have hw : Whole W w.heap.size 25 #[.int .u64 qa, .int .u64 qb] := (h.bel.block _ WA.out.lt).trans WA.out
          exact ⟨hw.cell 0, hw.cell 1⟩)
        have g1 := (HQ.out _ _ _ _ HP.out).1
        have g2 := (HQ.out _ _ _ _ HP.out).2
        go_wp2_with fail
        refine (HP.out.next ⟨qa, qb⟩).mono ?_
        rintro e w9 ⟨rfl, h9, _⟩
        simp only [kv]
        have H9 := Lib.hid (h9.add 25 #[.int .u64 (hdK (above ks ⟨qa, qb⟩)).a, .int .u64 (hdK (above ks ⟨qa, qb⟩)).b])
        clear h9 g1 g2
        have g1 := (HQ.out _ _ _ _ H9.out).1
        have g2 := (HQ.out _ _ _ _ H9.out).2
        go_wp2_with fail
        generalize w9.alloc (.cells #[.int .u64 (hdK (above ks ⟨qa, qb⟩)).a, .int .u64 (hdK (above ks ⟨qa, qb⟩)).b] 25) = w10 at *
        generalize w9.heap.size = pc at *
        refine (H9.out.knext ⟨qa, qb⟩).mono ?_
        rintro e w11 ⟨rfl, h11, _⟩
        simp only [kv]
        have H11 := Lib.hid (h11.add 25 #[.int .u64 (hdK (above ks ⟨qa, qb⟩)).a, .int .u64 (hdK (above ks ⟨qa, qb⟩)).b])
        clear h11 H9 g1 g2
        go_upto_region 22 with fail
        generalize w11.alloc (.cells #[.int .u64 (hdK (above ks ⟨qa, qb⟩)).a, .int .u64 (hdK (above ks ⟨qa, qb⟩)).b] 25) = w12 at *
        generalize w11.heap.size = pd at *
        obtain ⟨ak, ck, hka⟩ := H11.out.keys
        have HRK := Lib.hid hka.rd
        have hfew := hka.few
        have HC : Hid (∀ W, Keep (fun _ => False) w12 W → W.cell? ⟨w.heap.size, 0, none⟩ = some (.int .u64 qa) ∧ W.cell? ⟨w.heap.size, 1, none⟩ = some (.int .u64 qb) ∧ W.cell? ⟨pc, 0, none⟩ = some (.int .u64 (hdK (above ks ⟨qa, qb⟩)).a) ∧ W.cell? ⟨pc, 1, none⟩ = some (.int .u64 (hdK (above ks ⟨qa, qb⟩)).b) ∧ W.cell? ⟨pd, 0, none⟩ = some (.int .u64 (hdK (above ks ⟨qa, qb⟩)).a) ∧ W.cell? ⟨pd, 1, none⟩ = some (.int .u64 (hdK (above ks ⟨qa, qb⟩)).b) ∧ W.cell? ⟨gr, 1, none⟩ = some (.slice ak ks.length ck)) :=
          Lib.hid (fun W hW => by
            have t := H11.out.kept hW
            have x0 := HQ.out _ _ _ _ t
            have x1 := t.get (List.Mem.head _)
            have x2 := t.get (List.Mem.tail _ (List.Mem.head _))
            exact ⟨x0.1, x0.2, x2.cell 0, x2.cell 1, x1.cell 0, x1.cell 1, (hka.st.keep hW id).cell 1⟩)
        clear hka HQ
        have f1 : ((hdK (above ks ⟨qa, qb⟩)).a == (hdK (above ks ⟨qa, qb⟩)).a && (hdK (above ks ⟨qa, qb⟩)).b == (hdK (above ks ⟨qa, qb⟩)).b) = true := by simp
        have f2 : (hdB (above ks ⟨qa, qb⟩) == hdB (above ks ⟨qa, qb⟩)) = true := by simp
        have f4 : (decide ((⟨qa, qb⟩ : Key) ∈ ks) == decide ((⟨qa, qb⟩ : Key) ∈ ks)) = true := by simp
        have HTK : Hid (ks.take (max 1 (4097 : Int).toNat) = ks ∧ ks.length = ks.length) := Lib.hid ⟨List.take_of_length_le (by simp; omega), rfl⟩
        refine wp_region_sch (fun W => W.cell? ⟨w.heap.size, 0, none⟩ = some (.int .u64 qa) ∧ W.cell? ⟨w.heap.size, 1, none⟩ = some (.int .u64 qb) ∧ W.cell? ⟨pc, 0, none⟩ = some (.int .u64 (hdK (above ks ⟨qa, qb⟩)).a) ∧ W.cell? ⟨pc, 1, none⟩ = some (.int .u64 (hdK (above ks ⟨qa, qb⟩)).b) ∧ W.cell? ⟨pd, 0, none⟩ = some (.int .u64 (hdK (above ks ⟨qa, qb⟩)).a) ∧ W.cell? ⟨pd, 1, none⟩ = some (.int .u64 (hdK (above ks ⟨qa, qb⟩)).b) ∧ W.cell? ⟨gr, 1, none⟩ = some (.slice ak ks.length ck)) [(true, 0), (true, 1), (true, 2), (true, 3), (true, 4), (true, 5), (true, 6), (true, 7), (true, 8), (true, 9), (true, 10), (true, 12), (true, 13), (false, 11), (false, 14), (true, 15), (true, 16), (true, 17), (true, 18), (true, 21), (true, 22), (true, 23), (true, 24), (false, 19), (false, 20), (false, 25), (true, 26), (true, 27)] (by kernel_rfl) (by kernel_rfl) (by kernel_rfl) (by kernel_rfl) (HC.out _ (Keep.refl _ _).drew) ?_
        (repeat (first
  | (refine wpSch_yes (v := ?_) rfl (fun _ _ _ h => h) (by rfl) ?_ ?_; rotate_left; (next => (intro w hSw; (try dsimp only at hSw); (first | (obtain ⟨hS1, hS2, hS3, hS4, hS5, hS6, hS7⟩ := hSw) | (obtain ⟨hS1, hS2⟩ := hSw)); go_simp; (try with_reducible rfl))); (try simp only [Act.put, List.setIfInBounds_toArray, List.set_cons_zero, List.set_cons_succ]))
  | (refine wpSch_no rfl (fun _ _ _ h => h) (by rfl) ?_; (try simp only [Act.put, List.setIfInBounds_toArray, List.set_cons_zero, List.set_cons_succ]))
  | (refine wpSch_not rfl (by rfl) (by assumption) ?_; (try simp only [Act.put, List.setIfInBounds_toArray, List.set_cons_zero, List.set_cons_succ]))))
        refine wpSch_call rfl (by rfl) (fun K hK => ?_); go_simp
        refine (H11.out.drew.has ⟨qa, qb⟩).mono ?_
        rintro e w13 ⟨rfl, h13, k13⟩
        have P13 := Lib.hid h13; have K13 := Lib.hid ((Keep.refl _ w12).drew.trans k13)
        clear h13 k13
        refine hK.out _ _ ?_ (fun hHeld => ?_)
        · exact HC.out _ K13.out
        clear hK K
        (try simp only [Act.put, List.setIfInBounds_toArray, List.set_cons_zero, List.set_cons_succ])
        (repeat (first
  | (refine wpSch_yes (v := ?_) rfl (fun _ _ _ h => h) (by rfl) ?_ ?_; rotate_left; (next => (intro w hSw; (try dsimp only at hSw); (first | (obtain ⟨hS1, hS2, hS3, hS4, hS5, hS6, hS7⟩ := hSw) | (obtain ⟨hS1, hS2⟩ := hSw)); go_simp; (try with_reducible rfl))); (try simp only [Act.put, List.setIfInBounds_toArray, List.set_cons_zero, List.set_cons_succ]))
  | (refine wpSch_no rfl (fun _ _ _ h => h) (by rfl) ?_; (try simp only [Act.put, List.setIfInBounds_toArray, List.set_cons_zero, List.set_cons_succ]))
  | (refine wpSch_not rfl (by rfl) (by assumption) ?_; (try simp only [Act.put, List.setIfInBounds_toArray, List.set_cons_zero, List.set_cons_succ]))))
        refine wpSch_call rfl (by rfl) (fun K hK => ?_); go_simp
        refine (P13.out.khas ⟨qa, qb⟩).mono ?_
        rintro e w14 ⟨rfl, h13, k13⟩
        have P14 := Lib.hid h13; have K14 := Lib.hid (K13.out.trans k13)
        clear h13 k13
        refine hK.out _ _ ?_ (fun hHeld => ?_)
        · exact HC.out _ K14.out
        clear hK K
        (try simp only [Act.put, List.setIfInBounds_toArray, List.set_cons_zero, List.set_cons_succ])
        (repeat (first
  | (refine wpSch_yes (v := ?_) rfl (fun _ _ _ h => h) (by rfl) ?_ ?_; rotate_left; (next => (intro w hSw; (try dsimp only at hSw); (first | (obtain ⟨hS1, hS2, hS3, hS4, hS5, hS6, hS7⟩ := hSw) | (obtain ⟨hS1, hS2⟩ := hSw)); go_simp; (try with_reducible rfl))); (try simp only [Act.put, List.setIfInBounds_toArray, List.set_cons_zero, List.set_cons_succ]))
  | (refine wpSch_no rfl (fun _ _ _ h => h) (by rfl) ?_; (try simp only [Act.put, List.setIfInBounds_toArray, List.set_cons_zero, List.set_cons_succ]))
  | (refine wpSch_not rfl (by rfl) (by assumption) ?_; (try simp only [Act.put, List.setIfInBounds_toArray, List.set_cons_zero, List.set_cons_succ]))))
        refine wpSch_call rfl (by rfl) (fun K hK => ?_); go_simp
        refine P14.out.tall.mono ?_
        rintro e w15 ⟨Bg, rfl, h13, b13, k13⟩
        have P15 := Lib.hid h13; have B15 := Lib.hid b13; have K15 := Lib.hid (K14.out.trans k13)
        clear h13 b13 k13
        refine hK.out _ _ ?_ (fun hHeld => ?_)
        · exact HC.out _ K15.out
        clear hK K
        (try simp only [Act.put, List.setIfInBounds_toArray, List.set_cons_zero, List.set_cons_succ])
        (repeat (first
  | (refine wpSch_yes (v := ?_) rfl (fun _ _ _ h => h) (by rfl) ?_ ?_; rotate_left; (next => (intro w hSw; (try dsimp only at hSw); (first | (obtain ⟨hS1, hS2, hS3, hS4, hS5, hS6, hS7⟩ := hSw) | (obtain ⟨hS1, hS2⟩ := hSw)); go_simp; (try with_reducible rfl))); (try simp only [Act.put, List.setIfInBounds_toArray, List.set_cons_zero, List.set_cons_succ]))
  | (refine wpSch_no rfl (fun _ _ _ h => h) (by rfl) ?_; (try simp only [Act.put, List.setIfInBounds_toArray, List.set_cons_zero, List.set_cons_succ]))
  | (refine wpSch_not rfl (by rfl) (by assumption) ?_; (try simp only [Act.put, List.setIfInBounds_toArray, List.set_cons_zero, List.set_cons_succ]))))
        refine wpSch_call rfl (by rfl) (fun K hK => ?_); go_simp
        refine (P15.out.hall B15.out HTK.out).mono ?_
        rintro e w16 ⟨ah, ch, rfl, r13, h13, k13⟩
        have P16 := Lib.hid h13; have R16 := Lib.hid r13; have K16 := Lib.hid (K15.out.trans k13)
        clear h13 r13 k13
        refine hK.out _ _ ?_ (fun hHeld => ?_)
        · exact HC.out _ K16.out
        clear hK K
        (try simp only [Act.put, List.setIfInBounds_toArray, List.set_cons_zero, List.set_cons_succ])
        (repeat (first
  | (refine wpSch_yes (v := ?_) rfl (fun _ _ _ h => h) (by rfl) ?_ ?_; rotate_left; (next => (intro w hSw; (try dsimp only at hSw); (first | (obtain ⟨hS1, hS2, hS3, hS4, hS5, hS6, hS7⟩ := hSw) | (obtain ⟨hS1, hS2⟩ := hSw)); go_simp; (try with_reducible rfl))); (try simp only [Act.put, List.setIfInBounds_toArray, List.set_cons_zero, List.set_cons_succ]))
  | (refine wpSch_no rfl (fun _ _ _ h => h) (by rfl) ?_; (try simp only [Act.put, List.setIfInBounds_toArray, List.set_cons_zero, List.set_cons_succ]))
  | (refine wpSch_not rfl (by rfl) (by assumption) ?_; (try simp only [Act.put, List.setIfInBounds_toArray, List.set_cons_zero, List.set_cons_succ]))))
        refine wpSch_call rfl (by rfl) (fun K hK => ?_); go_simp
        refine (plain_key _ _ _ _ _ _ ks _ rfl rfl (by omega) R16.out (HRK.out.kept K16.out)).mono ?_
        rintro e w17 ⟨rfl, k13⟩
        have K17 := Lib.hid k13
        clear k13
        refine hK.out _ _ ?_ (fun hHeld => ?_)
        · exact HC.out _ (K16.out.trans K17.out)
        clear hK K
        (try simp only [Act.put, List.setIfInBounds_toArray, List.set_cons_zero, List.set_cons_succ])
        (repeat (first
  | (refine wpSch_yes (v := ?_) rfl (fun _ _ _ h => h) (by rfl) ?_ ?_; rotate_left; (next => (intro w hSw; (try dsimp only at hSw); (first | (obtain ⟨hS1, hS2, hS3, hS4, hS5, hS6, hS7⟩ := hSw) | (obtain ⟨hS1, hS2⟩ := hSw)); go_simp; (try with_reducible rfl))); (try simp only [Act.put, List.setIfInBounds_toArray, List.set_cons_zero, List.set_cons_succ]))
  | (refine wpSch_no rfl (fun _ _ _ h => h) (by rfl) ?_; (try simp only [Act.put, List.setIfInBounds_toArray, List.set_cons_zero, List.set_cons_succ]))
  | (refine wpSch_not rfl (by rfl) (by assumption) ?_; (try simp only [Act.put, List.setIfInBounds_toArray, List.set_cons_zero, List.set_cons_succ]))))
        refine wpSch_nil ?_
        go_wp2
        go_ret
        exact ⟨rfl, HBB.out.trans ((P16.out.kept K17.out).bel.mono HSZ.out)⟩

set_option maxRecDepth 100000 in
theorem lifted (os : Os) (started : os.Started) (H : Type) (enc : TypeId × Value → H) :
    ReturnsInHanded {} Try.checked os 3 .any (Rows.treePlaysSpec.pre6 enc Try.prog Try.f3 Rows.treePlaysRow.domain false) (Rows.treePlaysSpec.post enc Try.prog Try.f3 false true false false) := by
  refine returnsInHanded_of_change (C := Try.checked) own started (by kernel_rfl) Try.func3
    (ChangeSpec.witness6 (enc := enc) (C := Try.checked) false ⟨#[], #[.int .i64 0, .slice none 0 0, .agg #[.int .u64 0, .int .u64 0]], []⟩ 8 (by kernel_rfl) (by kernel_rfl) (by kernel_rfl) (by kernel_rfl)) ?_
  intro W base args ds gs before hval0 hW hcnd _
  have hval : ∀ (j : Nat) t v, Try.f3.params[j]? = some t → args[j]? = some v → Value.okWide Try.prog W .any base t v := hval0
  have hW' := hW
  obtain ⟨p, q, hA0, hV, rfl, hfz, hnd⟩ := hW
  have hA : DataW.TrodAll enc Try.prog W 0 (fun _ => true) true Try.f3.params.toList args.toList ds p := hA0
  rw [Try.params3] at hA hval
  obtain ⟨v0, vs0, d0, ds0, p0, q0, hargs, rfl, rfl, h0, r0'⟩ := trodAll_cons hA
  obtain ⟨v1, vs1, d1, ds1, p1, q1, rfl, rfl, rfl, h1, r1'⟩ := trodAll_cons r0'
  obtain ⟨v2, vs2, d2, ds2, p2, q2, rfl, rfl, rfl, h2, r2'⟩ := trodAll_cons r1'
  obtain ⟨rfl, rfl, rfl⟩ := trodAll_nil r2'
  obtain rfl : args = #[v0, v1, v2] := by cases args; simp_all
  obtain ⟨rfl, rfl⟩ := trodVars_none hV
  obtain ⟨a0, rfl, rfl, rfl, w0⟩ := open_int Try.underlying3 (hval 0 3 v0 rfl rfl) h0
  obtain ⟨a1, len1, cap1, rfl⟩ := okWide_slice Try.underlying22 (hval 1 22 v1 rfl rfl)
  have k1 := h1
  have lt1 : ∀ x ∈ p1, x.block < W.heap.size := by obtain ⟨m, hm⟩ := k1; exact DataW.trod_lt m _ _ _ hm
  obtain ⟨z1, hz1, hc1, r1⟩ := open_deeds h1
  subst hz1
  have k2 := h2
  have lt2 : ∀ x ∈ p2, x.block < W.heap.size := by obtain ⟨m, hm⟩ := k2; exact DataW.trod_lt m _ _ _ hm
  obtain ⟨a2, rfl⟩ := open_key (hval 2 25 v2 rfl rfl) h2
  clear hA0 hval0
  refine (walk a0 a1 cap1 z1 a2 W w0 hc1 r1).mono fun e W' ⟨he, bel⟩ => ?_
  subst he
  exact ⟨_, rfl, _, _, _, [], _, [], hW', trodAll_mk1 (shut_bool Try.underlying4 _), (trodAll_cons_mk (shut_int Try.underlying3 w0) (trodAll_cons_mk (Below.trod laidOut (by kernel_rfl) (of_decide_eq_true (by kernel_rfl)) k1 bel lt1) (trodAll_cons_mk (Below.trod laidOut (by kernel_rfl) (of_decide_eq_true (by kernel_rfl)) k2 bel lt2) trodAll_mk0))), rfl, bel.frame _, fun h => by cases h⟩

theorem over : Rows.treePlaysRow.holds Try.pinned (OpenSpec.ofChange Rows.treePlaysSpec) :=
  OpenClaim.holds_of_wide 3 Try.f3 rfl rfl rfl rfl rfl rfl rfl ⟨rfl, rfl, rfl, rfl, rfl⟩ rfl rfl rfl rfl rfl (by kernel_rfl) Try.func3 (by kernel_rfl)
    (of_decide_eq_true (by kernel_rfl)) (by unfold Func.isWrapper; first | (rw [if_pos (by decide +kernel)]; kernel_rfl) | (rw [if_neg (by decide +kernel)]; exact ⟨rfl, rfl⟩))
    (fun os started H enc _ => lifted os started H enc)

theorem proved : Rows.TreePlaysSaid := over
end Go.Proofs.Ytcejgmckghadnaa.treePlays
namespace Go.Proofs.Ytcejgmckghadnaa
theorem treePlays_holds : Rows.TreePlaysSaid := treePlays.proved
#print axioms treePlays_holds
end Go.Proofs.Ytcejgmckghadnaa
