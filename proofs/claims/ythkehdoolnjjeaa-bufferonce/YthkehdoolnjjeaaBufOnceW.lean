/-
  canterlaw21.BufferOnce, walked. Conditions: the lists lie in memory as slices do.
-/
import Derived.Test.YthkehdoolnjjeaaBufPartsW
import Derived.Test.YthkehdoolnjjeaaSched
namespace Go.Proofs.Ythkehdoolnjjeaa
open Go.RowKit
set_option maxRecDepth 100000
set_option linter.unusedSimpArgs false
set_option linter.unusedVariables false

set_option maxHeartbeats 4000000 in
theorem once_walk (a0 : Int) (a : Option Addr) (cap : Nat) (zs : List Int) (ta : Option Addr) (tcap : Nat) (ts : List Int) (w : World) (hzl : zs.length ≤ 9223372036854775807) (hrd : Rd .i64 w a zs) (htl : ts.length ≤ 9223372036854775807) (htd : Rd .i64 w ta ts) :
    Calls Try.prog 4 #[.int .i64 a0, .slice a zs.length cap, .slice ta ts.length tcap] w fun e w' => e = .returned (.bool true) ∧ Below w.heap.size w w' := by
  obtain ⟨n, N, n1, n2, n3, n4, n5, n6⟩ := num_mod a0 10000 1 (by decide) (by decide) (by decide)
  have hN : 1 ≤ N ∧ N ≤ 10000 := by omega
  obtain ⟨hN1, hN2⟩ := hN
  have HZL := Lib.hid hzl; have HRD := Lib.hid hrd; have HTL := Lib.hid htl; have HTD := Lib.hid htd
  clear n4 n5 n6 hzl hrd htl htd
  go_enter Try.func4, Try.ntmps4
  go_upto_region 2 with fail
  simp only [n1, n2, n3]
  clear n1 n2 n3
  have hnew : newB N = ⟨N, 0, 0, 0⟩ := by unfold newB roomB; rw [show max 0 (min N 1073741824) = N by omega]
  have HNEW := Lib.hid hnew
  clear hnew
  go_wp2_with fail
  refine ((Room.begin w).bunew N).mono ?_
  rintro e w1 ⟨rfl, hr⟩
  rw [HNEW.out] at hr
  have R1 := Lib.hid hr; clear hr HNEW
  go_wp2_with fail
  refine R1.out.awakeu.mono ?_
  rintro e w3 ⟨rfl, hr⟩
  have R5 := Lib.hid hr; clear hr R1
  go_upto_region 7 with fail
  generalize w.heap.size = gx at *
  go_loopw [8, 9] (fun tv iv wR => ∃ (j : Nat) (b t W : Int), j ≤ zs.length ∧ j ≤ 60 ∧ tv = .int .u64 t ∧ iv = .int .i64 j ∧ 0 ≤ b ∧ b ≤ t ∧ t ≤ W ∧ W - b ≤ N ∧ W ≤ 3000 * j ∧ Room w wR [bufT gx ⟨N, b, t, W⟩]) (fun _ iv _ => 60 - (intOf iv).toNat)
  case atStart => exact ⟨0, 0, 0, 0, by omega, by omega, rfl, rfl, by omega, by omega, by omega, by omega, by omega, R5.out⟩
  case round =>
    obtain ⟨j, b, t, W, hj1, hj2, rfl, rfl, hb0, hbt, htW, hWN, hWj, hr⟩ := hrel
    have R := Lib.hid hr
    have ht0 : 0 ≤ t := by omega
    have htS : t ≤ 180000 := by omega
    clear hr R5
    by_cases hlt : j < zs.length ∧ j < 60
    · have hi1 : (j : Int) < (zs.length : Int) := by omega
      have hi2 : (j : Int) < 60 := by omega
      obtain ⟨bb, off, ea, _, cz⟩ := (HRD.out.below R.out.bel) j hlt.1
      subst ea
      obtain ⟨v, hv⟩ : ∃ v, zs.getD j 0 = v := ⟨_, rfl⟩
      rw [hv] at cz
      obtain ⟨m, M, m1, m2, m3, m4, m5, m6⟩ := num_mod v 3000 1 (by decide) (by decide) (by decide)
      have HM : Hid (0 ≤ m ∧ m < 3000) := Lib.hid ⟨m5, m6⟩
      clear hv m3 m4 m5 m6 hlt
      go_wp2_with fail
      try simp only [m1, m2]
      clear m1 m2 cz
      obtain ⟨W2, hW2⟩ : ∃ W2, wrX ⟨N, b, t, W⟩ m = ⟨N, b, t, W2⟩ ∧ W ≤ W2 ∧ W2 - b ≤ N ∧ W2 ≤ W + 3000 := by
        unfold wrX
        dsimp only
        by_cases hc : m < 1 ∨ N - (W - b) < m
        · rw [if_pos hc]; exact ⟨W, rfl, by omega, by omega, by omega⟩
        · rw [if_neg hc]; have := HM.out; exact ⟨W + m, rfl, by omega, by omega, by omega⟩
      obtain ⟨hx2, hw1, hw2, hw3⟩ := hW2
      have HX2 := Lib.hid hx2
      clear hx2
      refine (R.out.buwrite m (by have := HM.out; omega) (by dsimp only; omega) (v := wrE ⟨N, b, t, W⟩ m) (y := ⟨N, b, t, W2⟩) rfl HX2.out).mono ?_
      rintro e w6 ⟨rfl, hr⟩
      have R6 := Lib.hid hr; clear hr R HX2
      go_wp2_with fail
      refine (R6.out.buheld (v := W2 - b) rfl).mono ?_
      rintro e w7 ⟨rfl, hr⟩
      have R7 := Lib.hid hr; clear hr R6
      have hhn : ¬ N < W2 - b := by omega
      by_cases htk : j < ts.length
      · have hi3 : (j : Int) < (ts.length : Int) := by omega
        obtain ⟨b3, off3, ea, _, cz⟩ := (HTD.out.below R7.out.bel) j htk
        subst ea
        obtain ⟨v, hv⟩ : ∃ v, ts.getD j 0 = v := ⟨_, rfl⟩
        rw [hv] at cz
        obtain ⟨m3, M3, m1, m2, _, _, m5, m6⟩ := num_mod v 3000 1 (by decide) (by decide) (by decide)
        have HM3 : Hid (0 ≤ m3 ∧ m3 < 3000) := Lib.hid ⟨m5, m6⟩
        clear hv m5 m6 htk
        go_wp2_with fail
        try simp only [m1, m2]
        clear m1 m2 cz hhn
        by_cases hK : m3 < 1 ∨ W2 = t
        · have T := Lib.hid (tk_none (x := ⟨N, b, t, W2⟩) (m := m3) hK)
          refine (R7.out.butake m3 (by have := HM3.out; omega) T.out.1 T.out.2.1 T.out.2.2.1 T.out.2.2.2).mono ?_
          rintro e w8 ⟨rfl, hr⟩
          have R8 := Lib.hid ((hr.alloc (.cells #[.int .u64 0, .int .u64 0] 33))); clear hr R7 T
          go_upto_region 14 with fail
          generalize World.alloc w8 _ = w9 at *
          refine wp_region_sch (fun _ => True) [(true, 0), (true, 1), (true, 2), (true, 3), (true, 4), (true, 5), (true, 6), (true, 7), (true, 8), (true, 9), (true, 10), (true, 11), (true, 12), (true, 13), (true, 14), (true, 15), (false, 16), (true, 17), (true, 18), (true, 19)] (by kernel_rfl) (by kernel_rfl) (by kernel_rfl) (by kernel_rfl) trivial ?_
          have R9 := Lib.hid (show Room w w9.drew [bufT gx ⟨N, b, t, W2⟩] from R8.out.drew)
          clear R8
          generalize w9.drew = wd at *
          (repeat (first | (refine wpSch_no rfl (fun _ _ _ h => h) (by rfl) ?_; (try simp only [Act.put, List.setIfInBounds_toArray, List.set_cons_zero, List.set_cons_succ])) | (refine wpSch_yes (v := ?_) rfl (fun _ _ _ h => h) (by rfl) ?_ ?_; rotate_left; (next => (intro w hSw; go_simp; (try with_reducible rfl))); (try simp only [Act.put, List.setIfInBounds_toArray, List.set_cons_zero, List.set_cons_succ]))))
          refine wpSch_not rfl (by rfl) trivial ?_
          (try simp only [Act.put, List.setIfInBounds_toArray, List.set_cons_zero, List.set_cons_succ])
          (repeat (first | (refine wpSch_no rfl (fun _ _ _ h => h) (by rfl) ?_; (try simp only [Act.put, List.setIfInBounds_toArray, List.set_cons_zero, List.set_cons_succ])) | (refine wpSch_yes (v := ?_) rfl (fun _ _ _ h => h) (by rfl) ?_ ?_; rotate_left; (next => (intro w hSw; go_simp; (try with_reducible rfl))); (try simp only [Act.put, List.setIfInBounds_toArray, List.set_cons_zero, List.set_cons_succ]))))
          refine wpSch_nil ?_
          go_wp2
          go_roundw
          case rel => exact ⟨j + 1, b, t, W2, by omega, by omega, rfl, by go_num, hb0, hbt, by omega, by omega, by omega, R9.out⟩
          case measure => simp [intOf]; omega
        · obtain ⟨K, hKK⟩ : ∃ K, min m3 (W2 - t) = K := ⟨_, rfl⟩
          have hK0 : 0 < K := by omega
          have hK1 : t + K ≤ W2 := by omega
          have T := Lib.hid (tk_some (x := ⟨N, b, t, W2⟩) (by omega) hKK hK0)
          have hne : (t != t) = false := by simp
          have hle : ¬ t + K ≤ t := by omega
          have hgt : ¬ W2 < t + K := by omega
          have hW2 : W2 ≤ 200000 := by omega
          clear hK hKK
          refine (R7.out.butake m3 (by have := HM3.out; omega) T.out.1 T.out.2.1 T.out.2.2.1 T.out.2.2.2).mono ?_
          rintro e w8 ⟨rfl, hr⟩
          dsimp only at hr ⊢
          have R8 := Lib.hid (hr.box1 33 #[.int .u64 t, .int .u64 (t + K)]); clear hr R7 T
          go_upto_region 14 with fail
          generalize hRB : w8.heap.size = RB at *
          generalize World.alloc w8 _ = w9 at *
          clear hRB
          refine wp_region_sch (fun W => W.cell? ⟨RB, 0, none⟩ = some (.int .u64 t) ∧ W.cell? ⟨RB, 1, none⟩ = some (.int .u64 (t + K))) [(true, 0), (true, 1), (true, 2), (true, 3), (true, 4), (true, 5), (true, 6), (true, 7), (true, 8), (true, 9), (true, 10), (true, 11), (true, 12), (true, 13), (true, 14), (true, 15), (false, 16), (true, 17), (true, 18), (true, 19)] (by kernel_rfl) (by kernel_rfl) (by kernel_rfl) (by kernel_rfl) ⟨Whole.cell R8.out.get1 0, Whole.cell R8.out.get1 1⟩ ?_
          have R9 := Lib.hid R8.out.drew
          clear R8
          generalize w9.drew = wd at *
          (repeat (refine wpSch_yes (v := ?_) rfl (fun _ _ _ h => h) (by rfl) ?_ ?_; rotate_left; (next => (intro w hSw; (try dsimp only at hSw); obtain ⟨hS1, hS2⟩ := hSw; go_simp; (try with_reducible rfl))); (try simp only [Act.put, List.setIfInBounds_toArray, List.set_cons_zero, List.set_cons_succ])))
          refine wpSch_call rfl (by rfl) (fun K' hK' => ?_); go_simp
          refine (R9.out.buwritten (v := W2) rfl).mono ?_
          rintro e we ⟨rfl, rfl⟩
          refine hK'.out _ _ ⟨Whole.cell R9.out.get1 0, Whole.cell R9.out.get1 1⟩ (fun hHeld => ?_)
          clear hK' K' hHeld
          (try simp only [Act.put, List.setIfInBounds_toArray, List.set_cons_zero, List.set_cons_succ])
          (repeat (refine wpSch_yes (v := ?_) rfl (fun _ _ _ h => h) (by rfl) ?_ ?_; rotate_left; (next => (intro w hSw; (try dsimp only at hSw); obtain ⟨hS1, hS2⟩ := hSw; go_simp; (try with_reducible rfl))); (try simp only [Act.put, List.setIfInBounds_toArray, List.set_cons_zero, List.set_cons_succ])))
          refine wpSch_nil ?_
          have c1 : wd.cell? ⟨RB, 1, none⟩ = some (.int .u64 (t + K)) := Whole.cell R9.out.get1 1
          clear hne hle hgt
          go_wp2_with fail
          refine (R9.out.buacked (t + K + 1) (by omega) (v := 11) (y := ⟨N, b, t + K, W2⟩) (by unfold akE; exact if_pos (by dsimp only; omega)) (by unfold akX; exact if_pos (by dsimp only; omega))).mono ?_
          rintro e wa ⟨rfl, hr⟩
          have RA := Lib.hid hr; clear hr R9 c1
          go_wp2_with fail
          refine (RA.out.buacked (t + K) (by omega) (v := 0) (y := ⟨N, t + K, t + K, W2⟩) (by unfold akE; exact if_neg (by dsimp only; omega)) (by unfold akX; dsimp only; rw [if_neg (by omega), show max b (t + K) = t + K by omega])).mono ?_
          rintro e wb ⟨rfl, hr⟩
          have RB' := Lib.hid (hr.less (M := [bufT gx ⟨N, t + K, t + K, W2⟩]) (by simp)); clear hr RA
          go_wp2
          go_roundw
          case rel => exact ⟨j + 1, t + K, t + K, W2, by omega, by omega, rfl, by go_num, by omega, by omega, by omega, by omega, by omega, RB'.out⟩
          case measure => simp [intOf]; omega
      · have hi3 : ¬ (j : Int) < (ts.length : Int) := by omega
        clear htk
        go_wp2
        go_roundw
        case rel => exact ⟨j + 1, b, t, W2, by omega, by omega, rfl, by go_num, hb0, hbt, by omega, by omega, by omega, R7.out⟩
        case measure => simp [intOf]; omega
    · have hlt2 : ¬ (j : Int) < (zs.length : Int) ∨ ((j : Int) < (zs.length : Int) ∧ ¬ (j : Int) < 60) := by omega
      clear hlt
      rcases hlt2 with h | ⟨h, h2⟩
      · skip
        go_wp2_with fail
        refine (butake_nil wr).mono ?_
        rintro e w6 ⟨rfl, k6⟩
        have R6 := Lib.hid ((R.out.kept k6).alloc (.cells #[.int .u64 0, .int .u64 0] 33)); clear k6 R
        go_upto_region 22 with fail
        generalize World.alloc w6 _ = w7 at *
        go_wp2_with fail
        refine (R6.out.buwritten (v := W) rfl).mono ?_
        rintro e w8 ⟨rfl, rfl⟩
        go_wp2_with fail
        refine (R6.out.buunsent (v := W - t) rfl).mono ?_
        rintro e w8 ⟨rfl, hr⟩
        have R8 := Lib.hid hr; clear hr R6
        have hwt : W - (W - t) = t := by omega
        have hww : IntKind.u64.wrap t = t := by rw [IntKind.wrap_u64]; omega
        go_wp2_with fail
        try rw [hwt]
        refine (buwrite_nil 1 w8).mono ?_
        rintro e w9 ⟨rfl, rfl⟩
        go_wp2_with fail
        refine (buacked_nil 0 w8).mono ?_
        rintro e w9 ⟨rfl, rfl⟩
        go_wp2_with fail
        refine (buunsent_nil w8).mono ?_
        rintro e w9 ⟨rfl, rfl⟩
        go_wp2_with fail
        refine (buheld_nil w8).mono ?_
        rintro e w9 ⟨rfl, rfl⟩
        go_wp2_with fail
        refine (buwritten_nil w8).mono ?_
        rintro e w9 ⟨rfl, rfl⟩
        go_wp2
        go_ret
        exact ⟨rfl, R8.out.bel⟩
      · skip
        go_wp2_with fail
        refine (butake_nil wr).mono ?_
        rintro e w6 ⟨rfl, k6⟩
        have R6 := Lib.hid ((R.out.kept k6).alloc (.cells #[.int .u64 0, .int .u64 0] 33)); clear k6 R
        go_upto_region 22 with fail
        generalize World.alloc w6 _ = w7 at *
        go_wp2_with fail
        refine (R6.out.buwritten (v := W) rfl).mono ?_
        rintro e w8 ⟨rfl, rfl⟩
        go_wp2_with fail
        refine (R6.out.buunsent (v := W - t) rfl).mono ?_
        rintro e w8 ⟨rfl, hr⟩
        have R8 := Lib.hid hr; clear hr R6
        have hwt : W - (W - t) = t := by omega
        have hww : IntKind.u64.wrap t = t := by rw [IntKind.wrap_u64]; omega
        go_wp2_with fail
        try rw [hwt]
        refine (buwrite_nil 1 w8).mono ?_
        rintro e w9 ⟨rfl, rfl⟩
        go_wp2_with fail
        refine (buacked_nil 0 w8).mono ?_
        rintro e w9 ⟨rfl, rfl⟩
        go_wp2_with fail
        refine (buunsent_nil w8).mono ?_
        rintro e w9 ⟨rfl, rfl⟩
        go_wp2_with fail
        refine (buheld_nil w8).mono ?_
        rintro e w9 ⟨rfl, rfl⟩
        go_wp2_with fail
        refine (buwritten_nil w8).mono ?_
        rintro e w9 ⟨rfl, rfl⟩
        go_wp2
        go_ret
        exact ⟨rfl, R8.out.bel⟩
end Go.Proofs.Ythkehdoolnjjeaa
