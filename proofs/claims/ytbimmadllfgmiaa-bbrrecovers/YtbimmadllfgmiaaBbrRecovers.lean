/-
  Proved: canterlaw17.BbrRecovers answers true at every two numbers, and leaves its arguments as they were. Conditions: none.
-/
import Derived.Test.YtbimmadllfgmiaaRows
import Derived.WalkKit
import Derived.ProofKit
import Derived.OpenShut
import Derived.ShutString
import Derived.Test.YtbimmadllfgmiaaAwakeM
import Derived.Test.YtbimmadllfgmiaaBbrStep
import Derived.Test.YtbimmadllfgmiaaRefTgt
import Derived.OwnWalk
namespace Go.Proofs.Ytbimmadllfgmiaa.bbrRecovers
open Go.ChangeShapes Go.WideShapes Go.ChangeAt Go.RowKit
open Go.ChangeMaps (open_string shut_string)
set_option linter.unusedVariables false

theorem own : ownKnob Try.prog.godebug = none := by kernel_rfl

theorem fit10 {n d p i r a l f : Int} (h1 : Num n) (h2 : Num d) (h3 : Num p) (h4 : Num i) (h5 : Num r) (h6 : Num a) (h8 : Num l) (h7 : Num f) : Spl.Fit ⟨n, d, p, i, r, a, l, f, false⟩ := ⟨h1, h2, h3, h4, h5, h6, h8, h7⟩
def rxs : Nat → Mdl
  | 0 => newM (clampS 1000)
  | 1 => rx1
  | 2 => rx2
  | 3 => rx3
  | 4 => rx4
  | _ => rx5

set_option maxHeartbeats 8000000 in
set_option maxRecDepth 100000 in
theorem walk (a0 : Int) (a1 : Int) (w0 : (Lit.int .i64 a0).wf = true) (w1 : (Lit.int .u64 a1).wf = true) (w : World) :
    Calls Try.prog 7 #[.int .i64 a0, .int .u64 a1] w fun e w' => e = .returned (.bool true) ∧ Below w.heap.size w w' := by
  obtain ⟨v0, v1⟩ := bounds_u64 w1
  clear w0 w1
  obtain ⟨u, hu⟩ : ∃ u : Nat, IntKind.u64.wrap a0 = (u : Int) := ⟨(IntKind.u64.wrap a0).toNat, by rw [IntKind.wrap_u64]; omega⟩
  obtain ⟨n, hn⟩ : ∃ n : Nat, 1 + (u : Int) % 5 = (n : Int) := ⟨1 + u % 5, by omega⟩
  have hn1 : 1 ≤ n ∧ n ≤ 5 := by omega
  obtain ⟨L, hL⟩ : ∃ L, 1 + a1 % 20000 = L := ⟨_, rfl⟩
  have hl : 1 ≤ L ∧ L ≤ 20000 := by omega
  have HL := Lib.hid hl
  have HLN : Hid (Num L) := Lib.hid ⟨by omega, by omega⟩
  have hf3 := Try.fieldM3
  have hf8 := Try.fieldM8
  have wn1 : IntKind.i64.wrap (1 + (u : Int) % 5) = (n : Int) := by rw [IntKind.wrap_i64]; omega
  have wn2 : IntKind.i64.wrap ((u : Int) % 5) = (u : Int) % 5 := by rw [IntKind.wrap_i64]; omega
  clear hl
  go_enter Try.func7, Try.ntmps7
  go_wp2_with fail
  refine ((Room.begin w).modnew ⟨by decide, by decide⟩).mono ?_
  rintro e w2 ⟨g, rfl, r1⟩
  have R1 := Lib.hid r1; clear r1
  go_wp2_with fail
  refine R1.out.awakem.mono ?_
  rintro e w3 ⟨rfl, r2⟩
  have R2 := Lib.hid r2; clear r2 R1
  go_wp2
  go_loopg [6] 5 (fun j i wr => ∃ (k : Nat) (I : Int), k + j = 5 ∧ k ≤ n ∧ i = .int .i64 I ∧ I = (k : Int) + 1 ∧ Room w wr [modT g (rxs k)])
  case atStart => exact ⟨0, 1, by omega, by omega, rfl, rfl, R2.out⟩
  case round =>
    obtain ⟨k, I, hk5, hkn, rfl, hI, hRm⟩ := hrel
    have HM := Lib.hid hRm; clear hRm R2
    by_cases hlt : k < n
    · obtain ⟨HLT, hlt'⟩ : Hid (k < n) ∧ True := ⟨Lib.hid hlt, trivial⟩
      clear hlt'
      rcases (show k = 0 ∨ k = 1 ∨ k = 2 ∨ k = 3 ∨ k = 4 by omega) with hk | hk | hk | hk | hk
      · subst hk
        obtain rfl : I = 1 := by omega
        clear hI
        have hc : (1 : Int) ≤ (n : Int) := by omega
        have HM' : Hid (Room w wr [modT g (newM (clampS 1000))]) := HM
        clear HM hlt
        have HM := HM'
        clear HM'
        go_wp2_with fail
        refine (HM.out.modupd (v := staC rx1) rec1 rfl (fit10 ⟨by decide, by decide⟩ ⟨by decide, by decide⟩ ⟨by decide, by decide⟩ ⟨by decide, by decide⟩ ⟨by decide, by decide⟩ ⟨by decide, by decide⟩ ⟨by decide, by decide⟩ ⟨by decide, by decide⟩) ⟨by decide, by decide⟩ (by decide)).mono ?_
        rintro e w4 ⟨rfl, r4⟩
        have R4 := Lib.hid r4; clear r4 HM
        go_wp2
        go_roundg (gk - 1)
        case measure => omega
        case rel => exact ⟨1, 2, by omega, by have := HLT.out; omega, by go_num, by omega, R4.out⟩
      · subst hk
        obtain rfl : I = 2 := by omega
        clear hI
        have hc : (2 : Int) ≤ (n : Int) := by omega
        have HM' : Hid (Room w wr [modT g rx1]) := HM
        clear HM hlt
        have HM := HM'
        clear HM'
        go_wp2_with fail
        refine (HM.out.modupd (v := staC rx2) rec2 rfl (fit10 ⟨by decide, by decide⟩ ⟨by decide, by decide⟩ ⟨by decide, by decide⟩ ⟨by decide, by decide⟩ ⟨by decide, by decide⟩ ⟨by decide, by decide⟩ ⟨by decide, by decide⟩ ⟨by decide, by decide⟩) ⟨by decide, by decide⟩ (by decide)).mono ?_
        rintro e w4 ⟨rfl, r4⟩
        have R4 := Lib.hid r4; clear r4 HM
        go_wp2
        go_roundg (gk - 1)
        case measure => omega
        case rel => exact ⟨2, 3, by omega, by have := HLT.out; omega, by go_num, by omega, R4.out⟩
      · subst hk
        obtain rfl : I = 3 := by omega
        clear hI
        have hc : (3 : Int) ≤ (n : Int) := by omega
        have HM' : Hid (Room w wr [modT g rx2]) := HM
        clear HM hlt
        have HM := HM'
        clear HM'
        go_wp2_with fail
        refine (HM.out.modupd (v := staC rx3) rec3 rfl (fit10 ⟨by decide, by decide⟩ ⟨by decide, by decide⟩ ⟨by decide, by decide⟩ ⟨by decide, by decide⟩ ⟨by decide, by decide⟩ ⟨by decide, by decide⟩ ⟨by decide, by decide⟩ ⟨by decide, by decide⟩) ⟨by decide, by decide⟩ (by decide)).mono ?_
        rintro e w4 ⟨rfl, r4⟩
        have R4 := Lib.hid r4; clear r4 HM
        go_wp2
        go_roundg (gk - 1)
        case measure => omega
        case rel => exact ⟨3, 4, by omega, by have := HLT.out; omega, by go_num, by omega, R4.out⟩
      · subst hk
        obtain rfl : I = 4 := by omega
        clear hI
        have hc : (4 : Int) ≤ (n : Int) := by omega
        have HM' : Hid (Room w wr [modT g rx3]) := HM
        clear HM hlt
        have HM := HM'
        clear HM'
        go_wp2_with fail
        refine (HM.out.modupd (v := staC rx4) rec4 rfl (fit10 ⟨by decide, by decide⟩ ⟨by decide, by decide⟩ ⟨by decide, by decide⟩ ⟨by decide, by decide⟩ ⟨by decide, by decide⟩ ⟨by decide, by decide⟩ ⟨by decide, by decide⟩ ⟨by decide, by decide⟩) ⟨by decide, by decide⟩ (by decide)).mono ?_
        rintro e w4 ⟨rfl, r4⟩
        have R4 := Lib.hid r4; clear r4 HM
        go_wp2
        go_roundg (gk - 1)
        case measure => omega
        case rel => exact ⟨4, 5, by omega, by have := HLT.out; omega, by go_num, by omega, R4.out⟩
      · subst hk
        obtain rfl : I = 5 := by omega
        clear hI
        have hc : (5 : Int) ≤ (n : Int) := by omega
        have HM' : Hid (Room w wr [modT g rx4]) := HM
        clear HM hlt
        have HM := HM'
        clear HM'
        go_wp2_with fail
        refine (HM.out.modupd (v := staC rx5) rec5 rfl (fit10 ⟨by decide, by decide⟩ ⟨by decide, by decide⟩ ⟨by decide, by decide⟩ ⟨by decide, by decide⟩ ⟨by decide, by decide⟩ ⟨by decide, by decide⟩ ⟨by decide, by decide⟩ ⟨by decide, by decide⟩) ⟨by decide, by decide⟩ (by decide)).mono ?_
        rintro e w4 ⟨rfl, r4⟩
        have R4 := Lib.hid r4; clear r4 HM
        go_wp2
        go_roundg (gk - 1)
        case measure => omega
        case rel => exact ⟨5, 6, by omega, by have := HLT.out; omega, by go_num, by omega, R4.out⟩
    · obtain rfl : k = n := by omega
      clear hlt
      rcases (show k = 1 ∨ k = 2 ∨ k = 3 ∨ k = 4 ∨ k = 5 by omega) with hk | hk | hk | hk | hk
      · subst hk
        obtain rfl : I = 2 := by omega
        clear hI
        have HM' : Hid (Room w wr [modT g rx1]) := HM
        clear HM
        obtain ⟨P, A, hA1, hA2, hA⟩ := rec1a HL.out.1 HL.out.2
        have HA := Lib.hid hA; have HA1 := Lib.hid hA1; have HA2 := Lib.hid hA2
        clear hA hA1 hA2 hn hu wn1 wn2 hk5 hkn hn1
        go_wp2_with fail
        refine (HM'.out.modsta (v := #[.int .i64 0, .int .i64 0, .int .u64 28867187, .int .u64 20000, .int .u64 10000000, .int .u64 1000000, .int .u64 739, .int .u64 1, .bool false, .bool false]) (by kernel_rfl)).mono ?_
        rintro e w4 ⟨rfl, r4⟩
        have R4 := Lib.hid r4; clear r4 HM'
        go_wp2_with fail
        refine (R4.out.modupd (v := #[.int .i64 0, .int .i64 0, .int .u64 28867187, .int .u64 A, .int .u64 10000000, .int .u64 1000000, .int .u64 739, .int .u64 1, .bool false, .bool false]) HA.out (by kernel_rfl) (fit10 ⟨by decide, by decide⟩ ⟨by decide, by decide⟩ ⟨by decide, by decide⟩ ⟨by decide, by decide⟩ ⟨by decide, by decide⟩ ⟨by decide, by decide⟩ HLN.out ⟨by decide, by decide⟩) ⟨by decide, by decide⟩ (by decide)).mono ?_
        rintro e w5 ⟨rfl, r5⟩
        have R5 := Lib.hid (r5.box1 28 #[.int .i64 0, .int .i64 0, .int .u64 28867187, .int .u64 A, .int .u64 10000000, .int .u64 1000000, .int .u64 739, .int .u64 1, .bool false, .bool false]); clear r5 R4
        go_upto_region 13 with fail
        generalize hw6 : World.alloc w5 _ = w6 at *
        generalize w5.heap.size = ba at *
        clear hw6
        go_wp2_with fail
        refine (R5.out.modupd (v := #[.int .i64 0, .int .i64 0, .int .u64 28867187, .int .u64 30000, .int .u64 10000000, .int .u64 1000000, .int .u64 739, .int .u64 2, .bool false, .bool false]) (rec1b HA1.out HA2.out) (by kernel_rfl) (fit10 ⟨by decide, by decide⟩ ⟨by decide, by decide⟩ ⟨by decide, by decide⟩ ⟨by decide, by decide⟩ ⟨by decide, by decide⟩ ⟨by decide, by decide⟩ ⟨by decide, by decide⟩ ⟨by decide, by decide⟩) ⟨by decide, by decide⟩ (show (1 : Int) < 18446744073709551615 by decide)).mono ?_
        rintro e w7 ⟨rfl, r7⟩
        have R7 := Lib.hid (r7.box1 28 #[.int .i64 0, .int .i64 0, .int .u64 28867187, .int .u64 30000, .int .u64 10000000, .int .u64 1000000, .int .u64 739, .int .u64 2, .bool false, .bool false]); clear r7 R5
        go_upto_region 14 with fail
        generalize hw8 : World.alloc w7 _ = w8 at *
        generalize w7.heap.size = bb at *
        clear hw8
        have B1 := (show Whole w8 bb _ _ from R7.out.get1)
        have B2 := (show Whole w8 ba _ _ from R7.out.get2)
        have c0 : w8.cell? ⟨ba, 3, none⟩ = some (.int .u64 A) := B2.cell 3
        have c1 : w8.cell? ⟨bb, 3, none⟩ = some (.int .u64 30000) := B1.cell 3
        have c2 : w8.cell? ⟨bb, 4, none⟩ = some (.int .u64 10000000) := B1.cell 4
        have c3 : w8.cell? ⟨bb, 5, none⟩ = some (.int .u64 1000000) := B1.cell 5
        clear B1 B2
        have q0 : ¬ A < 10000 := by have := HA1.out; omega
        have q0' : 10000 ≤ A := HA1.out
        have q1 : ¬ 20000 < A := by have := HA2.out; omega
        have q1' : A ≤ 20000 := HA2.out
        refine wp_region_sch (fun W => W.cell? ⟨ba, 3, none⟩ = some (.int .u64 A) ∧ W.cell? ⟨bb, 3, none⟩ = some (.int .u64 30000) ∧ W.cell? ⟨bb, 4, none⟩ = some (.int .u64 10000000) ∧ W.cell? ⟨bb, 5, none⟩ = some (.int .u64 1000000)) [(true, 0), (true, 1), (true, 2), (true, 3), (true, 4), (true, 5), (true, 6), (true, 7), (true, 8), (true, 9), (true, 10), (true, 11), (true, 12), (true, 13), (true, 14), (true, 15), (true, 16), (true, 17), (true, 18), (true, 19), (true, 20), (true, 21), (false, 22), (true, 23), (true, 24), (true, 25), (true, 26), (true, 27), (false, 28), (true, 29), (true, 30), (true, 31)] (by kernel_rfl) (by kernel_rfl) (by kernel_rfl) (by kernel_rfl) ⟨c0, c1, c2, c3⟩ ?_
        (repeat (first | (refine wpSch_yes (v := ?_) rfl (fun _ _ _ h => h) (by rfl) ?_ ?_; rotate_left; (next => (intro w hSw; obtain ⟨hS1, hS2, hS3, hS4⟩ := hSw; go_simp; (try with_reducible rfl))); (try simp only [Act.put, List.setIfInBounds_toArray, List.set_cons_zero, List.set_cons_succ])) | (refine wpSch_no rfl (fun _ _ _ h => h) (by rfl) ?_; (try simp only [Act.put, List.setIfInBounds_toArray, List.set_cons_zero, List.set_cons_succ]))))
        refine wpSch_call rfl (by rfl) (fun K hK => ?_)
        go_simp
        refine (rwin_any _ _ _ _ _ (by decide) (by decide) (by decide) (by decide) (by decide) (by decide) (by decide) (by decide) (by decide) (by decide) _).mono ?_
        rintro e w' ⟨rfl, rfl⟩
        rw [show winV 10000000 1000000 739 2000 1000 = 34867 by kernel_rfl]
        refine hK.out _ _ ⟨c0, c1, c2, c3⟩ (fun hHeld => ?_)
        clear hK K hHeld
        (try simp only [Act.put, List.setIfInBounds_toArray, List.set_cons_zero, List.set_cons_succ])
        (repeat (first | (refine wpSch_yes (v := ?_) rfl (fun _ _ _ h => h) (by rfl) ?_ ?_; rotate_left; (next => (intro w hSw; obtain ⟨hS1, hS2, hS3, hS4⟩ := hSw; go_simp; (try with_reducible rfl))); (try simp only [Act.put, List.setIfInBounds_toArray, List.set_cons_zero, List.set_cons_succ])) | (refine wpSch_no rfl (fun _ _ _ h => h) (by rfl) ?_; (try simp only [Act.put, List.setIfInBounds_toArray, List.set_cons_zero, List.set_cons_succ]))))
        refine wpSch_not rfl (by rfl) ⟨c0, c1, c2, c3⟩ ?_
        (try simp only [Act.put, List.setIfInBounds_toArray, List.set_cons_zero, List.set_cons_succ])
        (repeat (first | (refine wpSch_yes (v := ?_) rfl (fun _ _ _ h => h) (by rfl) ?_ ?_; rotate_left; (next => (intro w hSw; obtain ⟨hS1, hS2, hS3, hS4⟩ := hSw; go_simp; (try with_reducible rfl))); (try simp only [Act.put, List.setIfInBounds_toArray, List.set_cons_zero, List.set_cons_succ])) | (refine wpSch_no rfl (fun _ _ _ h => h) (by rfl) ?_; (try simp only [Act.put, List.setIfInBounds_toArray, List.set_cons_zero, List.set_cons_succ]))))
        refine wpSch_nil ?_
        go_wp2
        go_ret
        exact ⟨rfl, R7.out.drew.bel⟩
      · subst hk
        obtain rfl : I = 3 := by omega
        clear hI
        have HM' : Hid (Room w wr [modT g rx2]) := HM
        clear HM
        obtain ⟨P, A, hA1, hA2, hA⟩ := rec2a HL.out.1 HL.out.2
        have HA := Lib.hid hA; have HA1 := Lib.hid hA1; have HA2 := Lib.hid hA2
        clear hA hA1 hA2 hn hu wn1 wn2 hk5 hkn hn1
        go_wp2_with fail
        refine (HM'.out.modsta (v := #[.int .i64 0, .int .i64 0, .int .u64 28867187, .int .u64 30000, .int .u64 10000000, .int .u64 1000000, .int .u64 739, .int .u64 2, .bool false, .bool false]) (by kernel_rfl)).mono ?_
        rintro e w4 ⟨rfl, r4⟩
        have R4 := Lib.hid r4; clear r4 HM'
        go_wp2_with fail
        refine (R4.out.modupd (v := #[.int .i64 0, .int .i64 0, .int .u64 28867187, .int .u64 A, .int .u64 10000000, .int .u64 1000000, .int .u64 739, .int .u64 2, .bool false, .bool false]) HA.out (by kernel_rfl) (fit10 ⟨by decide, by decide⟩ ⟨by decide, by decide⟩ ⟨by decide, by decide⟩ ⟨by decide, by decide⟩ ⟨by decide, by decide⟩ ⟨by decide, by decide⟩ HLN.out ⟨by decide, by decide⟩) ⟨by decide, by decide⟩ (by decide)).mono ?_
        rintro e w5 ⟨rfl, r5⟩
        have R5 := Lib.hid (r5.box1 28 #[.int .i64 0, .int .i64 0, .int .u64 28867187, .int .u64 A, .int .u64 10000000, .int .u64 1000000, .int .u64 739, .int .u64 2, .bool false, .bool false]); clear r5 R4
        go_upto_region 13 with fail
        generalize hw6 : World.alloc w5 _ = w6 at *
        generalize w5.heap.size = ba at *
        clear hw6
        go_wp2_with fail
        refine (R5.out.modupd (v := #[.int .i64 0, .int .i64 0, .int .u64 28867187, .int .u64 40000, .int .u64 10000000, .int .u64 1000000, .int .u64 739, .int .u64 3, .bool false, .bool false]) (rec2b HA1.out HA2.out) (by kernel_rfl) (fit10 ⟨by decide, by decide⟩ ⟨by decide, by decide⟩ ⟨by decide, by decide⟩ ⟨by decide, by decide⟩ ⟨by decide, by decide⟩ ⟨by decide, by decide⟩ ⟨by decide, by decide⟩ ⟨by decide, by decide⟩) ⟨by decide, by decide⟩ (show (2 : Int) < 18446744073709551615 by decide)).mono ?_
        rintro e w7 ⟨rfl, r7⟩
        have R7 := Lib.hid (r7.box1 28 #[.int .i64 0, .int .i64 0, .int .u64 28867187, .int .u64 40000, .int .u64 10000000, .int .u64 1000000, .int .u64 739, .int .u64 3, .bool false, .bool false]); clear r7 R5
        go_upto_region 14 with fail
        generalize hw8 : World.alloc w7 _ = w8 at *
        generalize w7.heap.size = bb at *
        clear hw8
        have B1 := (show Whole w8 bb _ _ from R7.out.get1)
        have B2 := (show Whole w8 ba _ _ from R7.out.get2)
        have c0 : w8.cell? ⟨ba, 3, none⟩ = some (.int .u64 A) := B2.cell 3
        have c1 : w8.cell? ⟨bb, 3, none⟩ = some (.int .u64 40000) := B1.cell 3
        have c2 : w8.cell? ⟨bb, 4, none⟩ = some (.int .u64 10000000) := B1.cell 4
        have c3 : w8.cell? ⟨bb, 5, none⟩ = some (.int .u64 1000000) := B1.cell 5
        clear B1 B2
        have q0 : ¬ A < 10000 := by have := HA1.out; omega
        have q0' : 10000 ≤ A := HA1.out
        have q1 : ¬ 30000 < A := by have := HA2.out; omega
        have q1' : A ≤ 30000 := HA2.out
        refine wp_region_sch (fun W => W.cell? ⟨ba, 3, none⟩ = some (.int .u64 A) ∧ W.cell? ⟨bb, 3, none⟩ = some (.int .u64 40000) ∧ W.cell? ⟨bb, 4, none⟩ = some (.int .u64 10000000) ∧ W.cell? ⟨bb, 5, none⟩ = some (.int .u64 1000000)) [(true, 0), (true, 1), (true, 2), (true, 3), (true, 4), (true, 5), (true, 6), (true, 7), (true, 8), (true, 9), (true, 10), (true, 11), (true, 12), (true, 13), (true, 14), (true, 15), (true, 16), (true, 17), (true, 18), (true, 19), (true, 20), (true, 21), (false, 22), (true, 23), (true, 24), (true, 25), (true, 26), (true, 27), (false, 28), (true, 29), (true, 30), (true, 31)] (by kernel_rfl) (by kernel_rfl) (by kernel_rfl) (by kernel_rfl) ⟨c0, c1, c2, c3⟩ ?_
        (repeat (first | (refine wpSch_yes (v := ?_) rfl (fun _ _ _ h => h) (by rfl) ?_ ?_; rotate_left; (next => (intro w hSw; obtain ⟨hS1, hS2, hS3, hS4⟩ := hSw; go_simp; (try with_reducible rfl))); (try simp only [Act.put, List.setIfInBounds_toArray, List.set_cons_zero, List.set_cons_succ])) | (refine wpSch_no rfl (fun _ _ _ h => h) (by rfl) ?_; (try simp only [Act.put, List.setIfInBounds_toArray, List.set_cons_zero, List.set_cons_succ]))))
        refine wpSch_call rfl (by rfl) (fun K hK => ?_)
        go_simp
        refine (rwin_any _ _ _ _ _ (by decide) (by decide) (by decide) (by decide) (by decide) (by decide) (by decide) (by decide) (by decide) (by decide) _).mono ?_
        rintro e w' ⟨rfl, rfl⟩
        rw [show winV 10000000 1000000 739 2000 1000 = 34867 by kernel_rfl]
        refine hK.out _ _ ⟨c0, c1, c2, c3⟩ (fun hHeld => ?_)
        clear hK K hHeld
        (try simp only [Act.put, List.setIfInBounds_toArray, List.set_cons_zero, List.set_cons_succ])
        (repeat (first | (refine wpSch_yes (v := ?_) rfl (fun _ _ _ h => h) (by rfl) ?_ ?_; rotate_left; (next => (intro w hSw; obtain ⟨hS1, hS2, hS3, hS4⟩ := hSw; go_simp; (try with_reducible rfl))); (try simp only [Act.put, List.setIfInBounds_toArray, List.set_cons_zero, List.set_cons_succ])) | (refine wpSch_no rfl (fun _ _ _ h => h) (by rfl) ?_; (try simp only [Act.put, List.setIfInBounds_toArray, List.set_cons_zero, List.set_cons_succ]))))
        refine wpSch_not rfl (by rfl) ⟨c0, c1, c2, c3⟩ ?_
        (try simp only [Act.put, List.setIfInBounds_toArray, List.set_cons_zero, List.set_cons_succ])
        (repeat (first | (refine wpSch_yes (v := ?_) rfl (fun _ _ _ h => h) (by rfl) ?_ ?_; rotate_left; (next => (intro w hSw; obtain ⟨hS1, hS2, hS3, hS4⟩ := hSw; go_simp; (try with_reducible rfl))); (try simp only [Act.put, List.setIfInBounds_toArray, List.set_cons_zero, List.set_cons_succ])) | (refine wpSch_no rfl (fun _ _ _ h => h) (by rfl) ?_; (try simp only [Act.put, List.setIfInBounds_toArray, List.set_cons_zero, List.set_cons_succ]))))
        refine wpSch_nil ?_
        go_wp2
        go_ret
        exact ⟨rfl, R7.out.drew.bel⟩
      · subst hk
        obtain rfl : I = 4 := by omega
        clear hI
        have HM' : Hid (Room w wr [modT g rx3]) := HM
        clear HM
        obtain ⟨P, A, hA1, hA2, hA⟩ := rec3a HL.out.1 HL.out.2
        have HA := Lib.hid hA; have HA1 := Lib.hid hA1; have HA2 := Lib.hid hA2
        clear hA hA1 hA2 hn hu wn1 wn2 hk5 hkn hn1
        go_wp2_with fail
        refine (HM'.out.modsta (v := #[.int .i64 0, .int .i64 0, .int .u64 28867187, .int .u64 40000, .int .u64 10000000, .int .u64 1000000, .int .u64 739, .int .u64 3, .bool false, .bool false]) (by kernel_rfl)).mono ?_
        rintro e w4 ⟨rfl, r4⟩
        have R4 := Lib.hid r4; clear r4 HM'
        go_wp2_with fail
        refine (R4.out.modupd (v := #[.int .i64 0, .int .i64 0, .int .u64 28867187, .int .u64 A, .int .u64 10000000, .int .u64 1000000, .int .u64 739, .int .u64 3, .bool false, .bool false]) HA.out (by kernel_rfl) (fit10 ⟨by decide, by decide⟩ ⟨by decide, by decide⟩ ⟨by decide, by decide⟩ ⟨by decide, by decide⟩ ⟨by decide, by decide⟩ ⟨by decide, by decide⟩ HLN.out ⟨by decide, by decide⟩) ⟨by decide, by decide⟩ (by decide)).mono ?_
        rintro e w5 ⟨rfl, r5⟩
        have R5 := Lib.hid (r5.box1 28 #[.int .i64 0, .int .i64 0, .int .u64 28867187, .int .u64 A, .int .u64 10000000, .int .u64 1000000, .int .u64 739, .int .u64 3, .bool false, .bool false]); clear r5 R4
        go_upto_region 13 with fail
        generalize hw6 : World.alloc w5 _ = w6 at *
        generalize w5.heap.size = ba at *
        clear hw6
        go_wp2_with fail
        refine (R5.out.modupd (v := #[.int .i64 2, .int .i64 2, .int .u64 10000000, .int .u64 26000, .int .u64 10000000, .int .u64 1000000, .int .u64 256, .int .u64 4, .bool true, .bool false]) (rec3b HA1.out HA2.out) (by kernel_rfl) (fit10 ⟨by decide, by decide⟩ ⟨by decide, by decide⟩ ⟨by decide, by decide⟩ ⟨by decide, by decide⟩ ⟨by decide, by decide⟩ ⟨by decide, by decide⟩ ⟨by decide, by decide⟩ ⟨by decide, by decide⟩) ⟨by decide, by decide⟩ (show (3 : Int) < 18446744073709551615 by decide)).mono ?_
        rintro e w7 ⟨rfl, r7⟩
        have R7 := Lib.hid (r7.box1 28 #[.int .i64 2, .int .i64 2, .int .u64 10000000, .int .u64 26000, .int .u64 10000000, .int .u64 1000000, .int .u64 256, .int .u64 4, .bool true, .bool false]); clear r7 R5
        go_upto_region 14 with fail
        generalize hw8 : World.alloc w7 _ = w8 at *
        generalize w7.heap.size = bb at *
        clear hw8
        have B1 := (show Whole w8 bb _ _ from R7.out.get1)
        have B2 := (show Whole w8 ba _ _ from R7.out.get2)
        have c0 : w8.cell? ⟨ba, 3, none⟩ = some (.int .u64 A) := B2.cell 3
        have c1 : w8.cell? ⟨bb, 3, none⟩ = some (.int .u64 26000) := B1.cell 3
        have c2 : w8.cell? ⟨bb, 4, none⟩ = some (.int .u64 10000000) := B1.cell 4
        have c3 : w8.cell? ⟨bb, 5, none⟩ = some (.int .u64 1000000) := B1.cell 5
        clear B1 B2
        have q0 : ¬ A < 10000 := by have := HA1.out; omega
        have q0' : 10000 ≤ A := HA1.out
        have q1 : ¬ 40000 < A := by have := HA2.out; omega
        have q1' : A ≤ 40000 := HA2.out
        refine wp_region_sch (fun W => W.cell? ⟨ba, 3, none⟩ = some (.int .u64 A) ∧ W.cell? ⟨bb, 3, none⟩ = some (.int .u64 26000) ∧ W.cell? ⟨bb, 4, none⟩ = some (.int .u64 10000000) ∧ W.cell? ⟨bb, 5, none⟩ = some (.int .u64 1000000)) [(true, 0), (true, 1), (true, 2), (true, 3), (true, 4), (true, 5), (true, 6), (true, 7), (true, 8), (true, 9), (true, 10), (true, 11), (true, 12), (true, 13), (true, 14), (true, 15), (true, 16), (true, 17), (true, 18), (true, 19), (true, 20), (true, 21), (false, 22), (true, 23), (true, 24), (true, 25), (true, 26), (true, 27), (false, 28), (true, 29), (true, 30), (true, 31)] (by kernel_rfl) (by kernel_rfl) (by kernel_rfl) (by kernel_rfl) ⟨c0, c1, c2, c3⟩ ?_
        (repeat (first | (refine wpSch_yes (v := ?_) rfl (fun _ _ _ h => h) (by rfl) ?_ ?_; rotate_left; (next => (intro w hSw; obtain ⟨hS1, hS2, hS3, hS4⟩ := hSw; go_simp; (try with_reducible rfl))); (try simp only [Act.put, List.setIfInBounds_toArray, List.set_cons_zero, List.set_cons_succ])) | (refine wpSch_no rfl (fun _ _ _ h => h) (by rfl) ?_; (try simp only [Act.put, List.setIfInBounds_toArray, List.set_cons_zero, List.set_cons_succ]))))
        refine wpSch_call rfl (by rfl) (fun K hK => ?_)
        go_simp
        refine (rwin_any _ _ _ _ _ (by decide) (by decide) (by decide) (by decide) (by decide) (by decide) (by decide) (by decide) (by decide) (by decide) _).mono ?_
        rintro e w' ⟨rfl, rfl⟩
        rw [show winV 10000000 1000000 739 2000 1000 = 34867 by kernel_rfl]
        refine hK.out _ _ ⟨c0, c1, c2, c3⟩ (fun hHeld => ?_)
        clear hK K hHeld
        (try simp only [Act.put, List.setIfInBounds_toArray, List.set_cons_zero, List.set_cons_succ])
        (repeat (first | (refine wpSch_yes (v := ?_) rfl (fun _ _ _ h => h) (by rfl) ?_ ?_; rotate_left; (next => (intro w hSw; obtain ⟨hS1, hS2, hS3, hS4⟩ := hSw; go_simp; (try with_reducible rfl))); (try simp only [Act.put, List.setIfInBounds_toArray, List.set_cons_zero, List.set_cons_succ])) | (refine wpSch_no rfl (fun _ _ _ h => h) (by rfl) ?_; (try simp only [Act.put, List.setIfInBounds_toArray, List.set_cons_zero, List.set_cons_succ]))))
        refine wpSch_call rfl (by rfl) (fun K hK => ?_)
        go_simp
        refine (R7.out.drew.modsta (v := #[.int .i64 2, .int .i64 2, .int .u64 10000000, .int .u64 26000, .int .u64 10000000, .int .u64 1000000, .int .u64 256, .int .u64 4, .bool true, .bool false]) (by kernel_rfl)).mono ?_
        rintro e w9 ⟨rfl, r9⟩
        have B1 := (show Whole w9 bb _ _ from r9.get1)
        have B2 := (show Whole w9 ba _ _ from r9.get2)
        refine hK.out _ _ ⟨B2.cell 3, B1.cell 3, B1.cell 4, B1.cell 5⟩ (fun hHeld => ?_)
        have R9 := Lib.hid r9
        clear hK K hHeld B1 B2 r9
        (try simp only [Act.put, List.setIfInBounds_toArray, List.set_cons_zero, List.set_cons_succ])
        (repeat (first | (refine wpSch_yes (v := ?_) rfl (fun _ _ _ h => h) (by rfl) ?_ ?_; rotate_left; (next => (intro w hSw; obtain ⟨hS1, hS2, hS3, hS4⟩ := hSw; go_simp; (try with_reducible rfl))); (try simp only [Act.put, List.setIfInBounds_toArray, List.set_cons_zero, List.set_cons_succ])) | (refine wpSch_no rfl (fun _ _ _ h => h) (by rfl) ?_; (try simp only [Act.put, List.setIfInBounds_toArray, List.set_cons_zero, List.set_cons_succ]))))
        refine wpSch_nil ?_
        go_wp2
        go_ret
        exact ⟨rfl, R9.out.bel⟩
      · subst hk
        obtain rfl : I = 5 := by omega
        clear hI
        have HM' : Hid (Room w wr [modT g rx4]) := HM
        clear HM
        obtain ⟨P, A, hA1, hA2, hA⟩ := rec4a HL.out.1 HL.out.2
        have HA := Lib.hid hA; have HA1 := Lib.hid hA1; have HA2 := Lib.hid hA2
        clear hA hA1 hA2 hn hu wn1 wn2 hk5 hkn hn1
        go_wp2_with fail
        refine (HM'.out.modsta (v := #[.int .i64 2, .int .i64 2, .int .u64 10000000, .int .u64 26000, .int .u64 10000000, .int .u64 1000000, .int .u64 256, .int .u64 4, .bool true, .bool false]) (by kernel_rfl)).mono ?_
        rintro e w4 ⟨rfl, r4⟩
        have R4 := Lib.hid r4; clear r4 HM'
        go_wp2_with fail
        refine (R4.out.modupd (v := #[.int .i64 2, .int .i64 2, .int .u64 10000000, .int .u64 A, .int .u64 10000000, .int .u64 1000000, .int .u64 256, .int .u64 4, .bool true, .bool false]) HA.out (by kernel_rfl) (fit10 ⟨by decide, by decide⟩ ⟨by decide, by decide⟩ ⟨by decide, by decide⟩ ⟨by decide, by decide⟩ ⟨by decide, by decide⟩ ⟨by decide, by decide⟩ HLN.out ⟨by decide, by decide⟩) ⟨by decide, by decide⟩ (by decide)).mono ?_
        rintro e w5 ⟨rfl, r5⟩
        have R5 := Lib.hid (r5.box1 28 #[.int .i64 2, .int .i64 2, .int .u64 10000000, .int .u64 A, .int .u64 10000000, .int .u64 1000000, .int .u64 256, .int .u64 4, .bool true, .bool false]); clear r5 R4
        go_upto_region 13 with fail
        generalize hw6 : World.alloc w5 _ = w6 at *
        generalize w5.heap.size = ba at *
        clear hw6
        go_wp2_with fail
        refine (R5.out.modupd (v := #[.int .i64 2, .int .i64 2, .int .u64 10000000, .int .u64 26000, .int .u64 10000000, .int .u64 1000000, .int .u64 256, .int .u64 5, .bool true, .bool false]) (rec4b HA1.out HA2.out) (by kernel_rfl) (fit10 ⟨by decide, by decide⟩ ⟨by decide, by decide⟩ ⟨by decide, by decide⟩ ⟨by decide, by decide⟩ ⟨by decide, by decide⟩ ⟨by decide, by decide⟩ ⟨by decide, by decide⟩ ⟨by decide, by decide⟩) ⟨by decide, by decide⟩ (show (4 : Int) < 18446744073709551615 by decide)).mono ?_
        rintro e w7 ⟨rfl, r7⟩
        have R7 := Lib.hid (r7.box1 28 #[.int .i64 2, .int .i64 2, .int .u64 10000000, .int .u64 26000, .int .u64 10000000, .int .u64 1000000, .int .u64 256, .int .u64 5, .bool true, .bool false]); clear r7 R5
        go_upto_region 14 with fail
        generalize hw8 : World.alloc w7 _ = w8 at *
        generalize w7.heap.size = bb at *
        clear hw8
        have B1 := (show Whole w8 bb _ _ from R7.out.get1)
        have B2 := (show Whole w8 ba _ _ from R7.out.get2)
        have c0 : w8.cell? ⟨ba, 3, none⟩ = some (.int .u64 A) := B2.cell 3
        have c1 : w8.cell? ⟨bb, 3, none⟩ = some (.int .u64 26000) := B1.cell 3
        have c2 : w8.cell? ⟨bb, 4, none⟩ = some (.int .u64 10000000) := B1.cell 4
        have c3 : w8.cell? ⟨bb, 5, none⟩ = some (.int .u64 1000000) := B1.cell 5
        clear B1 B2
        have q0 : ¬ A < 10000 := by have := HA1.out; omega
        have q0' : 10000 ≤ A := HA1.out
        have q1 : ¬ 26000 < A := by have := HA2.out; omega
        have q1' : A ≤ 26000 := HA2.out
        refine wp_region_sch (fun W => W.cell? ⟨ba, 3, none⟩ = some (.int .u64 A) ∧ W.cell? ⟨bb, 3, none⟩ = some (.int .u64 26000) ∧ W.cell? ⟨bb, 4, none⟩ = some (.int .u64 10000000) ∧ W.cell? ⟨bb, 5, none⟩ = some (.int .u64 1000000)) [(true, 0), (true, 1), (true, 2), (true, 3), (true, 4), (true, 5), (true, 6), (true, 7), (true, 8), (true, 9), (true, 10), (true, 11), (true, 12), (true, 13), (true, 14), (true, 15), (true, 16), (true, 17), (true, 18), (true, 19), (true, 20), (true, 21), (false, 22), (true, 23), (true, 24), (true, 25), (true, 26), (true, 27), (false, 28), (true, 29), (true, 30), (true, 31)] (by kernel_rfl) (by kernel_rfl) (by kernel_rfl) (by kernel_rfl) ⟨c0, c1, c2, c3⟩ ?_
        (repeat (first | (refine wpSch_yes (v := ?_) rfl (fun _ _ _ h => h) (by rfl) ?_ ?_; rotate_left; (next => (intro w hSw; obtain ⟨hS1, hS2, hS3, hS4⟩ := hSw; go_simp; (try with_reducible rfl))); (try simp only [Act.put, List.setIfInBounds_toArray, List.set_cons_zero, List.set_cons_succ])) | (refine wpSch_no rfl (fun _ _ _ h => h) (by rfl) ?_; (try simp only [Act.put, List.setIfInBounds_toArray, List.set_cons_zero, List.set_cons_succ]))))
        refine wpSch_call rfl (by rfl) (fun K hK => ?_)
        go_simp
        refine (rwin_any _ _ _ _ _ (by decide) (by decide) (by decide) (by decide) (by decide) (by decide) (by decide) (by decide) (by decide) (by decide) _).mono ?_
        rintro e w' ⟨rfl, rfl⟩
        rw [show winV 10000000 1000000 739 2000 1000 = 34867 by kernel_rfl]
        refine hK.out _ _ ⟨c0, c1, c2, c3⟩ (fun hHeld => ?_)
        clear hK K hHeld
        (try simp only [Act.put, List.setIfInBounds_toArray, List.set_cons_zero, List.set_cons_succ])
        (repeat (first | (refine wpSch_yes (v := ?_) rfl (fun _ _ _ h => h) (by rfl) ?_ ?_; rotate_left; (next => (intro w hSw; obtain ⟨hS1, hS2, hS3, hS4⟩ := hSw; go_simp; (try with_reducible rfl))); (try simp only [Act.put, List.setIfInBounds_toArray, List.set_cons_zero, List.set_cons_succ])) | (refine wpSch_no rfl (fun _ _ _ h => h) (by rfl) ?_; (try simp only [Act.put, List.setIfInBounds_toArray, List.set_cons_zero, List.set_cons_succ]))))
        refine wpSch_not rfl (by rfl) ⟨c0, c1, c2, c3⟩ ?_
        (try simp only [Act.put, List.setIfInBounds_toArray, List.set_cons_zero, List.set_cons_succ])
        (repeat (first | (refine wpSch_yes (v := ?_) rfl (fun _ _ _ h => h) (by rfl) ?_ ?_; rotate_left; (next => (intro w hSw; obtain ⟨hS1, hS2, hS3, hS4⟩ := hSw; go_simp; (try with_reducible rfl))); (try simp only [Act.put, List.setIfInBounds_toArray, List.set_cons_zero, List.set_cons_succ])) | (refine wpSch_no rfl (fun _ _ _ h => h) (by rfl) ?_; (try simp only [Act.put, List.setIfInBounds_toArray, List.set_cons_zero, List.set_cons_succ]))))
        refine wpSch_nil ?_
        go_wp2
        go_ret
        exact ⟨rfl, R7.out.drew.bel⟩
      · subst hk
        obtain rfl : I = 6 := by omega
        clear hI
        have HM' : Hid (Room w wr [modT g rx5]) := HM
        clear HM
        obtain ⟨P, A, hA1, hA2, hA⟩ := rec5a HL.out.1 HL.out.2
        have HA := Lib.hid hA; have HA1 := Lib.hid hA1; have HA2 := Lib.hid hA2
        clear hA hA1 hA2 hn hu wn1 wn2 hk5 hkn hn1
        go_wp2_with fail
        refine (HM'.out.modsta (v := #[.int .i64 2, .int .i64 2, .int .u64 10000000, .int .u64 26000, .int .u64 10000000, .int .u64 1000000, .int .u64 256, .int .u64 5, .bool true, .bool false]) (by kernel_rfl)).mono ?_
        rintro e w4 ⟨rfl, r4⟩
        have R4 := Lib.hid r4; clear r4 HM'
        go_wp2_with fail
        refine (R4.out.modupd (v := #[.int .i64 2, .int .i64 3, .int .u64 10000000, .int .u64 A, .int .u64 10000000, .int .u64 1000000, .int .u64 256, .int .u64 5, .bool true, .bool false]) HA.out (by kernel_rfl) (fit10 ⟨by decide, by decide⟩ ⟨by decide, by decide⟩ ⟨by decide, by decide⟩ ⟨by decide, by decide⟩ ⟨by decide, by decide⟩ ⟨by decide, by decide⟩ HLN.out ⟨by decide, by decide⟩) ⟨by decide, by decide⟩ (by decide)).mono ?_
        rintro e w5 ⟨rfl, r5⟩
        have R5 := Lib.hid (r5.box1 28 #[.int .i64 2, .int .i64 3, .int .u64 10000000, .int .u64 A, .int .u64 10000000, .int .u64 1000000, .int .u64 256, .int .u64 5, .bool true, .bool false]); clear r5 R4
        go_upto_region 13 with fail
        generalize hw6 : World.alloc w5 _ = w6 at *
        generalize w5.heap.size = ba at *
        clear hw6
        go_wp2_with fail
        refine (R5.out.modupd (v := #[.int .i64 2, .int .i64 3, .int .u64 10000000, .int .u64 26000, .int .u64 10000000, .int .u64 1000000, .int .u64 256, .int .u64 6, .bool true, .bool false]) (rec5b HA1.out HA2.out) (by kernel_rfl) (fit10 ⟨by decide, by decide⟩ ⟨by decide, by decide⟩ ⟨by decide, by decide⟩ ⟨by decide, by decide⟩ ⟨by decide, by decide⟩ ⟨by decide, by decide⟩ ⟨by decide, by decide⟩ ⟨by decide, by decide⟩) ⟨by decide, by decide⟩ (show (5 : Int) < 18446744073709551615 by decide)).mono ?_
        rintro e w7 ⟨rfl, r7⟩
        have R7 := Lib.hid (r7.box1 28 #[.int .i64 2, .int .i64 3, .int .u64 10000000, .int .u64 26000, .int .u64 10000000, .int .u64 1000000, .int .u64 256, .int .u64 6, .bool true, .bool false]); clear r7 R5
        go_upto_region 14 with fail
        generalize hw8 : World.alloc w7 _ = w8 at *
        generalize w7.heap.size = bb at *
        clear hw8
        have B1 := (show Whole w8 bb _ _ from R7.out.get1)
        have B2 := (show Whole w8 ba _ _ from R7.out.get2)
        have c0 : w8.cell? ⟨ba, 3, none⟩ = some (.int .u64 A) := B2.cell 3
        have c1 : w8.cell? ⟨bb, 3, none⟩ = some (.int .u64 26000) := B1.cell 3
        have c2 : w8.cell? ⟨bb, 4, none⟩ = some (.int .u64 10000000) := B1.cell 4
        have c3 : w8.cell? ⟨bb, 5, none⟩ = some (.int .u64 1000000) := B1.cell 5
        clear B1 B2
        have q0 : ¬ A < 10000 := by have := HA1.out; omega
        have q0' : 10000 ≤ A := HA1.out
        have q1 : ¬ 26000 < A := by have := HA2.out; omega
        have q1' : A ≤ 26000 := HA2.out
        refine wp_region_sch (fun W => W.cell? ⟨ba, 3, none⟩ = some (.int .u64 A) ∧ W.cell? ⟨bb, 3, none⟩ = some (.int .u64 26000) ∧ W.cell? ⟨bb, 4, none⟩ = some (.int .u64 10000000) ∧ W.cell? ⟨bb, 5, none⟩ = some (.int .u64 1000000)) [(true, 0), (true, 1), (true, 2), (true, 3), (true, 4), (true, 5), (true, 6), (true, 7), (true, 8), (true, 9), (true, 10), (true, 11), (true, 12), (true, 13), (true, 14), (true, 15), (true, 16), (true, 17), (true, 18), (true, 19), (true, 20), (true, 21), (false, 22), (true, 23), (true, 24), (true, 25), (true, 26), (true, 27), (false, 28), (true, 29), (true, 30), (true, 31)] (by kernel_rfl) (by kernel_rfl) (by kernel_rfl) (by kernel_rfl) ⟨c0, c1, c2, c3⟩ ?_
        (repeat (first | (refine wpSch_yes (v := ?_) rfl (fun _ _ _ h => h) (by rfl) ?_ ?_; rotate_left; (next => (intro w hSw; obtain ⟨hS1, hS2, hS3, hS4⟩ := hSw; go_simp; (try with_reducible rfl))); (try simp only [Act.put, List.setIfInBounds_toArray, List.set_cons_zero, List.set_cons_succ])) | (refine wpSch_no rfl (fun _ _ _ h => h) (by rfl) ?_; (try simp only [Act.put, List.setIfInBounds_toArray, List.set_cons_zero, List.set_cons_succ]))))
        refine wpSch_call rfl (by rfl) (fun K hK => ?_)
        go_simp
        refine (rwin_any _ _ _ _ _ (by decide) (by decide) (by decide) (by decide) (by decide) (by decide) (by decide) (by decide) (by decide) (by decide) _).mono ?_
        rintro e w' ⟨rfl, rfl⟩
        rw [show winV 10000000 1000000 739 2000 1000 = 34867 by kernel_rfl]
        refine hK.out _ _ ⟨c0, c1, c2, c3⟩ (fun hHeld => ?_)
        clear hK K hHeld
        (try simp only [Act.put, List.setIfInBounds_toArray, List.set_cons_zero, List.set_cons_succ])
        (repeat (first | (refine wpSch_yes (v := ?_) rfl (fun _ _ _ h => h) (by rfl) ?_ ?_; rotate_left; (next => (intro w hSw; obtain ⟨hS1, hS2, hS3, hS4⟩ := hSw; go_simp; (try with_reducible rfl))); (try simp only [Act.put, List.setIfInBounds_toArray, List.set_cons_zero, List.set_cons_succ])) | (refine wpSch_no rfl (fun _ _ _ h => h) (by rfl) ?_; (try simp only [Act.put, List.setIfInBounds_toArray, List.set_cons_zero, List.set_cons_succ]))))
        refine wpSch_not rfl (by rfl) ⟨c0, c1, c2, c3⟩ ?_
        (try simp only [Act.put, List.setIfInBounds_toArray, List.set_cons_zero, List.set_cons_succ])
        (repeat (first | (refine wpSch_yes (v := ?_) rfl (fun _ _ _ h => h) (by rfl) ?_ ?_; rotate_left; (next => (intro w hSw; obtain ⟨hS1, hS2, hS3, hS4⟩ := hSw; go_simp; (try with_reducible rfl))); (try simp only [Act.put, List.setIfInBounds_toArray, List.set_cons_zero, List.set_cons_succ])) | (refine wpSch_no rfl (fun _ _ _ h => h) (by rfl) ?_; (try simp only [Act.put, List.setIfInBounds_toArray, List.set_cons_zero, List.set_cons_succ]))))
        refine wpSch_nil ?_
        go_wp2
        go_ret
        exact ⟨rfl, R7.out.drew.bel⟩

set_option maxRecDepth 100000 in
theorem lifted (os : Os) (started : os.Started) (H : Type) (enc : TypeId × Value → H) :
    ReturnsInHanded {} Try.checked os 7 .any (Rows.bbrRecoversSpec.pre6 enc Try.prog Try.f7 Rows.bbrRecoversRow.domain false) (Rows.bbrRecoversSpec.post enc Try.prog Try.f7 false true false false) := by
  refine returnsInHanded_of_change (C := Try.checked) own started (by kernel_rfl) Try.func7
    (ChangeSpec.witness6 (enc := enc) (C := Try.checked) false ⟨#[], #[.int .i64 0, .int .u64 0], []⟩ 8 (by kernel_rfl) (by kernel_rfl) (by kernel_rfl) (by kernel_rfl)) ?_
  intro W base args ds gs before hval0 hW hcnd _
  have hval : ∀ (j : Nat) t v, Try.f7.params[j]? = some t → args[j]? = some v → Value.okWide Try.prog W .any base t v := hval0
  have hW' := hW
  obtain ⟨p, q, hA0, hV, rfl, hfz, hnd⟩ := hW
  have hA : DataW.TrodAll enc Try.prog W 0 (fun _ => true) true Try.f7.params.toList args.toList ds p := hA0
  rw [Try.params7] at hA hval
  obtain ⟨v0, vs0, d0, ds0, p0, q0, hargs, rfl, rfl, h0, r0⟩ := trodAll_cons hA
  obtain ⟨v1, vs1, d1, ds1, p1, q1, rfl, rfl, rfl, h1, r1⟩ := trodAll_cons r0
  obtain ⟨rfl, rfl, rfl⟩ := trodAll_nil r1
  obtain rfl : args = #[v0, v1] := by cases args; simp_all
  obtain ⟨rfl, rfl⟩ := trodVars_none hV
  obtain ⟨a0, rfl, rfl, rfl, w0⟩ := open_int Try.underlying3 (hval 0 3 v0 rfl rfl) h0
  obtain ⟨a1, rfl, rfl, rfl, w1⟩ := open_int Try.underlying22 (hval 1 22 v1 rfl rfl) h1
  clear hA0 hval0
  simp only [List.append_nil] at hW'
  refine (walk a0 a1 w0 w1 W).mono fun e W' ⟨he, hg⟩ => ?_
  subst he
  exact ⟨_, rfl, _, _, _, [], _, [], hW', trodAll_mk1 (shut_bool Try.underlying4 _), (trodAll_cons_mk (shut_int Try.underlying3 w0) (trodAll_cons_mk (shut_int Try.underlying22 w1) trodAll_mk0)), rfl, hg.frame _, fun h => by cases h⟩

theorem over : Rows.bbrRecoversRow.holds Try.pinned (OpenSpec.ofChange Rows.bbrRecoversSpec) :=
  OpenClaim.holds_of_wide 7 Try.f7 rfl rfl rfl rfl rfl rfl rfl ⟨rfl, rfl, rfl, rfl, rfl⟩ rfl rfl rfl rfl rfl (by kernel_rfl) Try.func7 (by kernel_rfl)
    (of_decide_eq_true (by kernel_rfl)) (by unfold Func.isWrapper; first | (rw [if_pos (by decide +kernel)]; kernel_rfl) | (rw [if_neg (by decide +kernel)]; exact ⟨rfl, rfl⟩))
    (fun os started H enc _ => lifted os started H enc)

theorem proved : Rows.BbrRecoversSaid :=
  over
end Go.Proofs.Ytbimmadllfgmiaa.bbrRecovers
namespace Go.Proofs.Ytbimmadllfgmiaa
theorem bbrRecovers_holds : Rows.BbrRecoversSaid := bbrRecovers.proved
#print axioms bbrRecovers_holds
end Go.Proofs.Ytbimmadllfgmiaa
