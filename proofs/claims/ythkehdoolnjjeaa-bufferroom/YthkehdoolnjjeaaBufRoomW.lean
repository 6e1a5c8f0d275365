/-
  canterlaw21.BufferRoom, walked. Conditions: none.
-/
import Derived.Test.YthkehdoolnjjeaaBufAwake
namespace Go.Proofs.Ythkehdoolnjjeaa
open Go.RowKit
set_option maxRecDepth 100000
set_option linter.unusedSimpArgs false
set_option linter.unusedVariables false

set_option maxHeartbeats 1000000 in
theorem room_walk (a0 a1 a2 : Int) (w : World) :
    Calls Try.prog 5 #[.int .i64 a0, .int .i64 a1, .int .i64 a2] w fun e w' => e = .returned (.bool true) ∧ Below w.heap.size w w' := by
  obtain ⟨n, N, n1, n2, n3, n4, n5, n6⟩ := num_mod a0 5000 2 (by decide) (by decide) (by decide)
  obtain ⟨a, A, a1', a2', a3, a4, a5, a6⟩ := num_mod a1 (N - 1) 1 (by omega) (by omega) (by decide)
  obtain ⟨b, B, b1, b2, b3, b4, b5, b6⟩ := num_mod a2 N 1 (by omega) (by omega) (by decide)
  have hN : 2 ≤ N ∧ N ≤ 5001 := by omega
  have hA : 1 ≤ A ∧ A ≤ N - 1 := by omega
  have hB : 1 ≤ B ∧ B ≤ N := by omega
  have w1 : wrap64 (N - 1) = N - 1 := by unfold wrap64; omega
  have w2 : IntKind.u64.wrap (N - 1) = N - 1 := by rw [IntKind.wrap_u64]; omega
  have w3 : IntKind.u64.wrap N = N := by rw [IntKind.wrap_u64]; omega
  clear n4 n5 n6 a4 a5 a6 b4 b5 b6
  go_enter Try.func5, Try.ntmps5
  go_upto_region 2 with fail
  simp only [n1, n2, n3]
  clear n1 n2 n3
  go_upto_region 3 with fail
  simp only [a1', a2', a3]
  clear a1' a2' a3
  go_upto_region 4 with fail
  simp only [b1, b2, b3]
  clear b1 b2 b3 w1 w2 w3
  go_wp2_with fail
  refine ((Room.begin w).bunew N).mono ?_
  rintro e w1 ⟨rfl, hr⟩
  rw [show newB N = ⟨N, 0, 0, 0⟩ by unfold newB roomB; rw [show max 0 (min N 1073741824) = N by omega]] at hr
  have R1 := Lib.hid hr; clear hr
  go_wp2_with fail
  refine R1.out.awakeu.mono ?_
  rintro e w2 ⟨rfl, hr⟩
  have R2 := Lib.hid hr; clear hr R1
  go_wp2_with fail
  refine (R2.out.buwrite A (by omega) (by dsimp only; omega) (v := 0) (y := ⟨N, 0, 0, A⟩) (by unfold wrE; dsimp only; rw [if_neg (by omega), if_neg (by omega)]) (by unfold wrX; dsimp only; rw [if_neg (by omega), Int.zero_add])).mono ?_
  rintro e w3 ⟨rfl, hr⟩
  have R3 := Lib.hid hr; clear hr R2
  have hAm : wrap64 (A + B) = A + B := by unfold wrap64; omega
  by_cases hAB : N < A + B
  · go_wp2_with fail
    refine (R3.out.buwrite B (by omega) (by dsimp only; omega) (v := 5) (y := ⟨N, 0, 0, A⟩) (by unfold wrE; dsimp only; rw [if_neg (by omega), if_pos (by omega)]) (by unfold wrX; dsimp only; rw [if_pos (by omega)])).mono ?_
    rintro e w4 ⟨rfl, hr⟩
    have R4 := Lib.hid hr; clear hr R3
    have hk : tkK ⟨N, 0, 0, A⟩ A = A := by unfold tkK; dsimp only; rw [if_neg (by omega)]; omega
    have T1 : tkB ⟨N, 0, 0, A⟩ A = true := by unfold tkB; rw [hk]; simp; omega
    have T2 : tkF ⟨N, 0, 0, A⟩ A = 0 := by unfold tkF; rw [hk, if_pos (by omega)]
    have T3 : tkT ⟨N, 0, 0, A⟩ A = A := by unfold tkT; rw [hk, if_pos (by omega)]; simp
    have T4 : tkX ⟨N, 0, 0, A⟩ A = ⟨N, 0, A, A⟩ := by unfold tkX; rw [hk]; simp
    have T := Lib.hid (And.intro T1 (And.intro T2 (And.intro T3 T4)))
    clear hk T1 T2 T3 T4
    go_wp2_with fail
    refine (R4.out.butake A (by omega) T.out.1 T.out.2.1 T.out.2.2.1 T.out.2.2.2).mono ?_
    rintro e w5 ⟨rfl, hr⟩
    have R5 := Lib.hid hr; clear hr R4
    go_wp2_with fail
    refine (R5.out.buacked A (by omega) (v := 0) (y := ⟨N, A, A, A⟩) (by unfold akE; dsimp only; rw [if_neg (by omega)]) (by unfold akX; dsimp only; rw [if_neg (by omega), show max 0 A = A by omega])).mono ?_
    rintro e w6 ⟨rfl, hr⟩
    have R6 := Lib.hid hr; clear hr R5
    go_wp2_with fail
    refine (R6.out.buwrite 0 (by decide) (by dsimp only; omega) (v := 1) (y := ⟨N, A, A, A⟩) rfl (by unfold wrX; rw [if_pos (.inl (by decide))])).mono ?_
    rintro e w7 ⟨rfl, hr⟩
    have R7 := Lib.hid hr; clear hr R6
    go_wp2_with fail
    refine (R7.out.buwrite (-B) (by omega) (by dsimp only; omega) (v := 1) (y := ⟨N, A, A, A⟩) (by unfold wrE; rw [if_pos (by omega)]) (by unfold wrX; rw [if_pos (.inl (by omega))])).mono ?_
    rintro e w8 ⟨rfl, hr⟩
    have R8 := Lib.hid hr; clear hr R7
    go_wp2_with fail
    refine (R8.out.buwrite B (by omega) (by dsimp only; omega) (v := 0) (y := ⟨N, A, A, A + B⟩) (by unfold wrE; dsimp only; rw [if_neg (by omega), if_neg (by omega)]) (by unfold wrX; dsimp only; rw [if_neg (by omega)])).mono ?_
    rintro e w9 ⟨rfl, hr⟩
    have R9 := Lib.hid hr; clear hr R8
    go_wp2_with fail
    refine (R9.out.buheld (v := B) (by dsimp only; omega)).mono ?_
    rintro e wa ⟨rfl, hr⟩
    have RA := Lib.hid hr; clear hr R9
    go_wp2
    go_ret
    exact ⟨rfl, RA.out.bel⟩
  · go_wp2_with fail
    refine (R3.out.buwrite B (by omega) (by dsimp only; omega) (v := 0) (y := ⟨N, 0, 0, A + B⟩) (by unfold wrE; dsimp only; rw [if_neg (by omega), if_neg (by omega)]) (by unfold wrX; dsimp only; rw [if_neg (by omega)])).mono ?_
    rintro e w4 ⟨rfl, hr⟩
    have R4 := Lib.hid hr; clear hr R3
    have hk : tkK ⟨N, 0, 0, A + B⟩ A = A := by unfold tkK; dsimp only; rw [if_neg (by omega)]; omega
    have T1 : tkB ⟨N, 0, 0, A + B⟩ A = true := by unfold tkB; rw [hk]; simp; omega
    have T2 : tkF ⟨N, 0, 0, A + B⟩ A = 0 := by unfold tkF; rw [hk, if_pos (by omega)]
    have T3 : tkT ⟨N, 0, 0, A + B⟩ A = A := by unfold tkT; rw [hk, if_pos (by omega)]; simp
    have T4 : tkX ⟨N, 0, 0, A + B⟩ A = ⟨N, 0, A, A + B⟩ := by unfold tkX; rw [hk]; simp
    have T := Lib.hid (And.intro T1 (And.intro T2 (And.intro T3 T4)))
    clear hk T1 T2 T3 T4
    go_wp2_with fail
    refine (R4.out.butake A (by omega) T.out.1 T.out.2.1 T.out.2.2.1 T.out.2.2.2).mono ?_
    rintro e w5 ⟨rfl, hr⟩
    have R5 := Lib.hid hr; clear hr R4
    go_wp2_with fail
    refine (R5.out.buacked A (by omega) (v := 0) (y := ⟨N, A, A, A + B⟩) (by unfold akE; dsimp only; rw [if_neg (by omega)]) (by unfold akX; dsimp only; rw [if_neg (by omega), show max 0 A = A by omega])).mono ?_
    rintro e w6 ⟨rfl, hr⟩
    have R6 := Lib.hid hr; clear hr R5
    go_wp2_with fail
    refine (R6.out.buwrite 0 (by decide) (by dsimp only; omega) (v := 1) (y := ⟨N, A, A, A + B⟩) rfl (by unfold wrX; rw [if_pos (.inl (by decide))])).mono ?_
    rintro e w7 ⟨rfl, hr⟩
    have R7 := Lib.hid hr; clear hr R6
    go_wp2_with fail
    refine (R7.out.buwrite (-B) (by omega) (by dsimp only; omega) (v := 1) (y := ⟨N, A, A, A + B⟩) (by unfold wrE; rw [if_pos (by omega)]) (by unfold wrX; rw [if_pos (.inl (by omega))])).mono ?_
    rintro e w8 ⟨rfl, hr⟩
    have R8 := Lib.hid hr; clear hr R7
    go_wp2_with fail
    refine (R8.out.buheld (v := B) (by dsimp only; omega)).mono ?_
    rintro e wa ⟨rfl, hr⟩
    have RA := Lib.hid hr; clear hr R8
    go_wp2
    go_ret
    exact ⟨rfl, RA.out.bel⟩
end Go.Proofs.Ythkehdoolnjjeaa
