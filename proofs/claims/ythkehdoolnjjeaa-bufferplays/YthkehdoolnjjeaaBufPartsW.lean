/-
  canterlaw21.BufferParts, walked. Conditions: the list lies in memory as slices do.
-/
import Derived.Test.YthkehdoolnjjeaaBufAwake
namespace Go.Proofs.Ythkehdoolnjjeaa
open Go.RowKit
set_option maxRecDepth 100000
set_option linter.unusedSimpArgs false
set_option linter.unusedVariables false

/-- What a Take answers while something is left. -/
theorem tk_some {x : Bst} {m K : Int} (h : 1 ≤ m) (hk : min m (x.w - x.t) = K) (h0 : 0 < K) : tkB x m = true ∧ tkF x m = x.t ∧ tkT x m = x.t + K ∧ tkX x m = { x with t := x.t + K } := by
  have e : tkK x m = K := by unfold tkK; rw [if_neg (by omega), hk]
  unfold tkB tkF tkT tkX
  rw [e]
  exact ⟨by simp [h0], if_pos h0, if_pos h0, rfl⟩
theorem tk_none {x : Bst} {m : Int} (hk : m < 1 ∨ x.w = x.t) : tkB x m = false ∧ tkF x m = 0 ∧ tkT x m = 0 ∧ tkX x m = x := by
  have e : tkK x m = 0 := by unfold tkK; split <;> omega
  unfold tkB tkF tkT tkX
  rw [e]
  exact ⟨rfl, rfl, rfl, by rw [Int.add_zero]⟩
set_option maxHeartbeats 4000000 in
theorem parts_walk (a0 : Int) (a : Option Addr) (cap : Nat) (zs : List Int) (w : World) (hzl : zs.length ≤ 9223372036854775807) (hrd : Rd .i64 w a zs) :
    Calls Try.prog 6 #[.int .i64 a0, .slice a zs.length cap] w fun e w' => e = .returned (.bool true) ∧ Below w.heap.size w w' := by
  obtain ⟨n, N, n1, n2, n3, n4, n5, n6⟩ := num_mod a0 5000 1 (by decide) (by decide) (by decide)
  have hN : 1 ≤ N ∧ N ≤ 5000 := by omega
  obtain ⟨hN1, hN2⟩ := hN
  have HN := Lib.hid (And.intro hN1 hN2); have HZL := Lib.hid hzl; have HRD := Lib.hid hrd
  clear n4 n5 n6 hzl hrd
  go_enter Try.func6, Try.ntmps6
  go_upto_region 2 with fail
  simp only [n1, n2, n3]
  clear n1 n2 n3
  have hnew : newB N = ⟨N, 0, 0, 0⟩ := by unfold newB roomB; rw [show max 0 (min N 1073741824) = N by omega]
  have HNEW := Lib.hid hnew
  clear hnew
  go_wp2_with fail
  refine ((Room.begin w).bunew N).mono ?_
  rintro e w1 ⟨rfl, hr⟩
  rw [HNEW.out] at hr
  have R1 := Lib.hid hr; clear hr
  go_wp2_with fail
  refine (R1.out.bunew N).mono ?_
  rintro e w2 ⟨rfl, hr⟩
  rw [HNEW.out] at hr
  have R2 := Lib.hid (hr.perm (List.Perm.swap _ _ _)); clear hr R1 HNEW
  go_wp2_with fail
  refine R2.out.awakeu.mono ?_
  rintro e w3 ⟨rfl, hr⟩
  have R3 := Lib.hid hr; clear hr R2
  go_wp2_with fail
  refine (R3.out.buwrite N (by omega) (by dsimp only; omega) (v := 0) (y := ⟨N, 0, 0, N⟩) (by unfold wrE; dsimp only; rw [if_neg (by omega), if_neg (by omega)]) (by unfold wrX; dsimp only; rw [if_neg (by omega), Int.zero_add])).mono ?_
  rintro e w4 ⟨rfl, hr⟩
  have R4 := Lib.hid hr; clear hr R3
  go_wp2_with fail
  refine (R4.out.buwrite1 N (by omega) (by dsimp only; omega) (v := 0) (y := ⟨N, 0, 0, N⟩) (by unfold wrE; dsimp only; rw [if_neg (by omega), if_neg (by omega)]) (by unfold wrX; dsimp only; rw [if_neg (by omega), Int.zero_add])).mono ?_
  rintro e w5 ⟨rfl, hr⟩
  have R5 := Lib.hid hr; clear hr R4
  go_upto_region 7 with fail
  generalize w.heap.size = gx at *
  generalize w1.heap.size = gy at *
  go_loopw [7, 8] (fun tv iv wR => ∃ (j : Nat) (t : Int), j ≤ zs.length ∧ j ≤ 40 ∧ tv = .int .u64 t ∧ iv = .int .i64 j ∧ 0 ≤ t ∧ t ≤ N ∧ Room w wR [bufT gx ⟨N, 0, t, N⟩, bufT gy ⟨N, 0, 0, N⟩]) (fun _ iv _ => 40 - (intOf iv).toNat)
  case atStart => exact ⟨0, 0, by omega, by omega, rfl, rfl, by omega, by omega, R5.out⟩
  case round =>
    obtain ⟨j, t, hj1, hj2, rfl, rfl, ht0, ht1, hr⟩ := hrel
    have R := Lib.hid hr
    clear hr R5
    by_cases hlt : j < zs.length ∧ j < 40
    · have hi1 : (j : Int) < (zs.length : Int) := by omega
      have hi2 : (j : Int) < 40 := by omega
      obtain ⟨b, off, ea, _, cz⟩ := (HRD.out.below R.out.bel) j hlt.1
      subst ea
      obtain ⟨v, hv⟩ : ∃ v, zs.getD j 0 = v := ⟨_, rfl⟩
      rw [hv] at cz
      obtain ⟨m, M, m1, m2, m3, m4, m5, m6⟩ := num_mod v 500 1 (by decide) (by decide) (by decide)
      have HM : Hid (1 ≤ M ∧ M ≤ 500) := Lib.hid (by omega)
      clear hv m4 m5 m6 hlt
      go_wp2_with fail
      try simp only [m1, m2, m3]
      clear m1 m2 m3 cz
      by_cases hlt : t < N
      · obtain ⟨K, hK⟩ : ∃ K, min M (N - t) = K := ⟨_, rfl⟩
        have hK0 : 0 < K := by rw [← hK]; have := HM.out; omega
        have HK : Hid (K ≤ N - t) := Lib.hid (by omega)
        have T := Lib.hid (tk_some (x := ⟨N, 0, t, N⟩) HM.out.1 hK hK0)
        clear hK
        refine (R.out.butake M (by have := HM.out; omega) T.out.1 T.out.2.1 T.out.2.2.1 T.out.2.2.2).mono ?_
        rintro e w6 ⟨rfl, hr⟩
        have R6 := Lib.hid (hr.box2 33 #[.int .u64 t, .int .u64 (t + K)]); clear hr R T
        dsimp only at R6 ⊢
        have hne : (t != t) = false := by simp
        go_wp2
        have RZ := Lib.hid (R6.out.less (M := [bufT gx ⟨N, 0, t + K, N⟩, bufT gy ⟨N, 0, 0, N⟩]) (by simp))
        clear R6
        go_roundw
        case rel => exact ⟨j + 1, t + K, by omega, by omega, rfl, by go_num, by omega, by have := HK.out; omega, RZ.out⟩
        case measure => simp [intOf]; omega
      · obtain rfl : t = N := by omega
        have T := Lib.hid (tk_none (x := ⟨t, 0, t, t⟩) (m := M) (.inr rfl))
        refine (R.out.butake M (by have := HM.out; omega) T.out.1 T.out.2.1 T.out.2.2.1 T.out.2.2.2).mono ?_
        rintro e w6 ⟨rfl, hr⟩
        have R6 := Lib.hid ((hr.box2 33 #[.int .u64 0, .int .u64 0]).less (M := [bufT gx ⟨t, 0, t, t⟩, bufT gy ⟨t, 0, 0, t⟩]) (by simp)); clear hr R T
        go_wp2
        go_roundw
        case rel => exact ⟨j + 1, t, by omega, by omega, rfl, by go_num, by omega, by omega, R6.out⟩
        case measure => simp [intOf]; omega
    · have hlt2 : ¬ (j : Int) < (zs.length : Int) ∨ ((j : Int) < (zs.length : Int) ∧ ¬ (j : Int) < 40) := by omega
      clear hlt
      rcases hlt2 with h | ⟨h, h2⟩
      · go_upto_region 14 with fail
        by_cases hlt : t < N
        · have T := Lib.hid (tk_some (x := ⟨N, 0, t, N⟩) (m := N) (K := N - t) hN1 (by dsimp only; omega) (by omega))
          go_wp2_with fail
          refine (R.out.butake N (by omega) T.out.1 T.out.2.1 T.out.2.2.1 T.out.2.2.2).mono ?_
          rintro e w6 ⟨rfl, hr⟩
          dsimp only at hr ⊢
          rw [show t + (N - t) = N by omega] at hr ⊢
          have R7 := Lib.hid (hr.box2 33 #[.int .u64 t, .int .u64 N]); clear hr R T
          go_upto_region 15 with fail
          generalize hRB : w6.heap.size = RB at *
          generalize World.alloc w6 _ = w6a at *
          clear hRB
          have hw1 : wrap64 (N + 5) = N + 5 := by unfold wrap64; omega
          have T2 := Lib.hid (tk_some (x := ⟨N, 0, 0, N⟩) (m := N + 5) (K := N) (by omega) (by dsimp only; omega) (by omega))
          have T3 := Lib.hid (tk_none (x := ⟨N, 0, N, N⟩) (m := 1) (.inr rfl))
          go_wp2_with fail
          refine (R7.out.butake1 (N + 5) (by omega) T2.out.1 T2.out.2.1 T2.out.2.2.1 T2.out.2.2.2).mono ?_
          rintro e w7 ⟨rfl, hr⟩
          dsimp only at hr ⊢
          try rw [Int.zero_add] at hr
          try rw [Int.zero_add]
          have R8 := Lib.hid (hr.box3 33 #[.int .u64 0, .int .u64 N]); clear hr R7 T2 hw1
          go_upto_region 16 with fail
          generalize hWB : w7.heap.size = WB at *
          generalize World.alloc w7 _ = w7a at *
          clear hWB
          go_wp2_with fail
          refine (R8.out.butake1 1 (by decide) T3.out.1 T3.out.2.1 T3.out.2.2.1 T3.out.2.2.2).mono ?_
          rintro e w8 ⟨rfl, hr⟩
          have R9 := Lib.hid (hr.alloc (.cells #[.int .u64 0, .int .u64 0] 33)); clear hr R8 T3
          go_upto_region 17 with fail
          generalize World.alloc w8 _ = w8a at *
          have d0 : w8a.cell? ⟨RB, 0, none⟩ = some (.int .u64 t) := Whole.cell R9.out.get2 0
          have d1 : w8a.cell? ⟨RB, 1, none⟩ = some (.int .u64 N) := Whole.cell R9.out.get2 1
          have e0 : w8a.cell? ⟨WB, 0, none⟩ = some (.int .u64 0) := Whole.cell R9.out.get3 0
          have e1 : w8a.cell? ⟨WB, 1, none⟩ = some (.int .u64 N) := Whole.cell R9.out.get3 1
          go_wp2_with fail
          refine (R9.out.buunsent1 (v := 0) (by dsimp only; omega)).mono ?_
          rintro e w9 ⟨rfl, hr⟩
          have RZ := Lib.hid hr
          clear hr R9 d0 d1 e0 e1
          go_wp2
          go_ret
          exact ⟨rfl, RZ.out.bel⟩
        · obtain rfl : t = N := by omega
          have T := Lib.hid (tk_none (x := ⟨t, 0, t, t⟩) (m := t) (.inr rfl))
          go_wp2_with fail
          refine (R.out.butake t (by omega) T.out.1 T.out.2.1 T.out.2.2.1 T.out.2.2.2).mono ?_
          rintro e w6 ⟨rfl, hr⟩
          have R7 := Lib.hid (hr.box2 33 #[.int .u64 0, .int .u64 0]); clear hr R T
          go_upto_region 15 with fail
          generalize hRB : w6.heap.size = RB at *
          generalize World.alloc w6 _ = w6a at *
          clear hRB
          have hw1 : wrap64 (t + 5) = t + 5 := by unfold wrap64; omega
          have T2 := Lib.hid (tk_some (x := ⟨t, 0, 0, t⟩) (m := t + 5) (K := t) (by omega) (by dsimp only; omega) (by omega))
          have T3 := Lib.hid (tk_none (x := ⟨t, 0, t, t⟩) (m := 1) (.inr rfl))
          go_wp2_with fail
          refine (R7.out.butake1 (t + 5) (by omega) T2.out.1 T2.out.2.1 T2.out.2.2.1 T2.out.2.2.2).mono ?_
          rintro e w7 ⟨rfl, hr⟩
          dsimp only at hr ⊢
          try rw [Int.zero_add] at hr
          try rw [Int.zero_add]
          have R8 := Lib.hid (hr.box3 33 #[.int .u64 0, .int .u64 t]); clear hr R7 T2 hw1
          go_upto_region 16 with fail
          generalize hWB : w7.heap.size = WB at *
          generalize World.alloc w7 _ = w7a at *
          clear hWB
          go_wp2_with fail
          refine (R8.out.butake1 1 (by decide) T3.out.1 T3.out.2.1 T3.out.2.2.1 T3.out.2.2.2).mono ?_
          rintro e w8 ⟨rfl, hr⟩
          have R9 := Lib.hid (hr.alloc (.cells #[.int .u64 0, .int .u64 0] 33)); clear hr R8 T3
          go_upto_region 17 with fail
          generalize World.alloc w8 _ = w8a at *
          have d0 : w8a.cell? ⟨RB, 0, none⟩ = some (.int .u64 0) := Whole.cell R9.out.get2 0
          have d1 : w8a.cell? ⟨RB, 1, none⟩ = some (.int .u64 0) := Whole.cell R9.out.get2 1
          have e0 : w8a.cell? ⟨WB, 0, none⟩ = some (.int .u64 0) := Whole.cell R9.out.get3 0
          have e1 : w8a.cell? ⟨WB, 1, none⟩ = some (.int .u64 t) := Whole.cell R9.out.get3 1
          go_wp2_with fail
          refine (R9.out.buunsent1 (v := 0) (by dsimp only; omega)).mono ?_
          rintro e w9 ⟨rfl, hr⟩
          have RZ := Lib.hid hr
          clear hr R9 d0 d1 e0 e1
          go_wp2
          go_ret
          exact ⟨rfl, RZ.out.bel⟩
      · go_upto_region 14 with fail
        by_cases hlt : t < N
        · have T := Lib.hid (tk_some (x := ⟨N, 0, t, N⟩) (m := N) (K := N - t) hN1 (by dsimp only; omega) (by omega))
          go_wp2_with fail
          refine (R.out.butake N (by omega) T.out.1 T.out.2.1 T.out.2.2.1 T.out.2.2.2).mono ?_
          rintro e w6 ⟨rfl, hr⟩
          dsimp only at hr ⊢
          rw [show t + (N - t) = N by omega] at hr ⊢
          have R7 := Lib.hid (hr.box2 33 #[.int .u64 t, .int .u64 N]); clear hr R T
          go_upto_region 15 with fail
          generalize hRB : w6.heap.size = RB at *
          generalize World.alloc w6 _ = w6a at *
          clear hRB
          have hw1 : wrap64 (N + 5) = N + 5 := by unfold wrap64; omega
          have T2 := Lib.hid (tk_some (x := ⟨N, 0, 0, N⟩) (m := N + 5) (K := N) (by omega) (by dsimp only; omega) (by omega))
          have T3 := Lib.hid (tk_none (x := ⟨N, 0, N, N⟩) (m := 1) (.inr rfl))
          go_wp2_with fail
          refine (R7.out.butake1 (N + 5) (by omega) T2.out.1 T2.out.2.1 T2.out.2.2.1 T2.out.2.2.2).mono ?_
          rintro e w7 ⟨rfl, hr⟩
          dsimp only at hr ⊢
          try rw [Int.zero_add] at hr
          try rw [Int.zero_add]
          have R8 := Lib.hid (hr.box3 33 #[.int .u64 0, .int .u64 N]); clear hr R7 T2 hw1
          go_upto_region 16 with fail
          generalize hWB : w7.heap.size = WB at *
          generalize World.alloc w7 _ = w7a at *
          clear hWB
          go_wp2_with fail
          refine (R8.out.butake1 1 (by decide) T3.out.1 T3.out.2.1 T3.out.2.2.1 T3.out.2.2.2).mono ?_
          rintro e w8 ⟨rfl, hr⟩
          have R9 := Lib.hid (hr.alloc (.cells #[.int .u64 0, .int .u64 0] 33)); clear hr R8 T3
          go_upto_region 17 with fail
          generalize World.alloc w8 _ = w8a at *
          have d0 : w8a.cell? ⟨RB, 0, none⟩ = some (.int .u64 t) := Whole.cell R9.out.get2 0
          have d1 : w8a.cell? ⟨RB, 1, none⟩ = some (.int .u64 N) := Whole.cell R9.out.get2 1
          have e0 : w8a.cell? ⟨WB, 0, none⟩ = some (.int .u64 0) := Whole.cell R9.out.get3 0
          have e1 : w8a.cell? ⟨WB, 1, none⟩ = some (.int .u64 N) := Whole.cell R9.out.get3 1
          go_wp2_with fail
          refine (R9.out.buunsent1 (v := 0) (by dsimp only; omega)).mono ?_
          rintro e w9 ⟨rfl, hr⟩
          have RZ := Lib.hid hr
          clear hr R9 d0 d1 e0 e1
          go_wp2
          go_ret
          exact ⟨rfl, RZ.out.bel⟩
        · obtain rfl : t = N := by omega
          have T := Lib.hid (tk_none (x := ⟨t, 0, t, t⟩) (m := t) (.inr rfl))
          go_wp2_with fail
          refine (R.out.butake t (by omega) T.out.1 T.out.2.1 T.out.2.2.1 T.out.2.2.2).mono ?_
          rintro e w6 ⟨rfl, hr⟩
          have R7 := Lib.hid (hr.box2 33 #[.int .u64 0, .int .u64 0]); clear hr R T
          go_upto_region 15 with fail
          generalize hRB : w6.heap.size = RB at *
          generalize World.alloc w6 _ = w6a at *
          clear hRB
          have hw1 : wrap64 (t + 5) = t + 5 := by unfold wrap64; omega
          have T2 := Lib.hid (tk_some (x := ⟨t, 0, 0, t⟩) (m := t + 5) (K := t) (by omega) (by dsimp only; omega) (by omega))
          have T3 := Lib.hid (tk_none (x := ⟨t, 0, t, t⟩) (m := 1) (.inr rfl))
          go_wp2_with fail
          refine (R7.out.butake1 (t + 5) (by omega) T2.out.1 T2.out.2.1 T2.out.2.2.1 T2.out.2.2.2).mono ?_
          rintro e w7 ⟨rfl, hr⟩
          dsimp only at hr ⊢
          try rw [Int.zero_add] at hr
          try rw [Int.zero_add]
          have R8 := Lib.hid (hr.box3 33 #[.int .u64 0, .int .u64 t]); clear hr R7 T2 hw1
          go_upto_region 16 with fail
          generalize hWB : w7.heap.size = WB at *
          generalize World.alloc w7 _ = w7a at *
          clear hWB
          go_wp2_with fail
          refine (R8.out.butake1 1 (by decide) T3.out.1 T3.out.2.1 T3.out.2.2.1 T3.out.2.2.2).mono ?_
          rintro e w8 ⟨rfl, hr⟩
          have R9 := Lib.hid (hr.alloc (.cells #[.int .u64 0, .int .u64 0] 33)); clear hr R8 T3
          go_upto_region 17 with fail
          generalize World.alloc w8 _ = w8a at *
          have d0 : w8a.cell? ⟨RB, 0, none⟩ = some (.int .u64 0) := Whole.cell R9.out.get2 0
          have d1 : w8a.cell? ⟨RB, 1, none⟩ = some (.int .u64 0) := Whole.cell R9.out.get2 1
          have e0 : w8a.cell? ⟨WB, 0, none⟩ = some (.int .u64 0) := Whole.cell R9.out.get3 0
          have e1 : w8a.cell? ⟨WB, 1, none⟩ = some (.int .u64 t) := Whole.cell R9.out.get3 1
          go_wp2_with fail
          refine (R9.out.buunsent1 (v := 0) (by dsimp only; omega)).mono ?_
          rintro e w9 ⟨rfl, hr⟩
          have RZ := Lib.hid hr
          clear hr R9 d0 d1 e0 e1
          go_wp2
          go_ret
          exact ⟨rfl, RZ.out.bel⟩
end Go.Proofs.Ythkehdoolnjjeaa
