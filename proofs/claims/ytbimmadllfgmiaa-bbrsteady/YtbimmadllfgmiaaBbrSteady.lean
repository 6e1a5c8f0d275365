/-
  Proved: canterlaw17.BbrSteady answers true at every three numbers, and leaves its arguments as they were. Conditions: none.
-/
import Derived.Test.YtbimmadllfgmiaaRows
import Derived.WalkKit
import Derived.ProofKit
import Derived.OpenShut
import Derived.ShutString
import Derived.Test.YtbimmadllfgmiaaAwakeM
import Derived.Test.YtbimmadllfgmiaaBbrStd
import Derived.Test.YtbimmadllfgmiaaRefTgt
import Derived.OwnWalk
namespace Go.Proofs.Ytbimmadllfgmiaa.bbrSteady
open Go.ChangeShapes Go.WideShapes Go.ChangeAt Go.RowKit
open Go.ChangeMaps (open_string shut_string)
set_option linter.unusedVariables false

theorem own : ownKnob Try.prog.godebug = none := by kernel_rfl



set_option maxHeartbeats 8000000 in
set_option maxRecDepth 100000 in
theorem walk (a0 : Int) (a1 : Int) (a2 : Int) (w0 : (Lit.int .i64 a0).wf = true) (w1 : (Lit.int .u64 a1).wf = true) (w2 : (Lit.int .u64 a2).wf = true) (w : World) :
    Calls Try.prog 5 #[.int .i64 a0, .int .u64 a1, .int .u64 a2] w fun e w' => e = .returned (.bool true) ∧ Below w.heap.size w w' := by
  obtain ⟨v0, v1⟩ := bounds_u64 w1
  obtain ⟨f0, f1⟩ := bounds_u64 w2
  clear w0 w1 w2
  obtain ⟨u, hu⟩ : ∃ u : Nat, IntKind.u64.wrap a0 = (u : Int) := ⟨(IntKind.u64.wrap a0).toNat, by rw [IntKind.wrap_u64]; omega⟩
  obtain ⟨n, hn⟩ : ∃ n : Nat, 40 + (u : Int) % 100 = (n : Int) := ⟨40 + u % 100, by omega⟩
  have hn1 : 40 ≤ n ∧ n ≤ 139 := by omega
  have wn1 : IntKind.i64.wrap (40 + (u : Int) % 100) = (n : Int) := by rw [IntKind.wrap_i64]; omega
  have wn2 : IntKind.i64.wrap ((u : Int) % 100) = (u : Int) % 100 := by rw [IntKind.wrap_i64]; omega
  obtain ⟨P, hP⟩ : ∃ P, 1000000 + a1 % 100000000 = P := ⟨_, rfl⟩
  obtain ⟨r, hr⟩ : ∃ r, 10000000 + a2 % 90000000 = r := ⟨_, rfl⟩
  have hp1 : 1000000 ≤ P ∧ P ≤ 101000000 := by omega
  have hr1 : 10000000 ≤ r ∧ r ≤ 100000000 := by omega
  have HPN := Lib.hid hp1
  have HRN := Lib.hid hr1
  clear hp1 hr1
  go_enter Try.func5, Try.ntmps5
  go_wp2_with fail
  refine ((Room.begin w).modnew ⟨by decide, by decide⟩).mono ?_
  rintro e w3 ⟨g, rfl, r1⟩
  rw [show clampS 1000 = 1000 by decide] at r1
  have R1 := Lib.hid r1; clear r1
  go_wp2_with fail
  refine R1.out.awakem.mono ?_
  rintro e w4 ⟨rfl, r2⟩
  have R2 := Lib.hid r2; clear r2 R1
  go_wp2_with fail
  obtain ⟨T, hT⟩ : ∃ T, mulDivV P r 1000000000 = T := ⟨_, rfl⟩
  have hT1 : 10000 ≤ T ∧ T ≤ 10100000 := by
    have hp := HPN.out; have hr := HRN.out
    have h1 : 1000000 * 10000000 ≤ P * r := Int.mul_le_mul hp.1 hr.1 (by decide) (by omega)
    have h2 : P * r ≤ 101000000 * 100000000 := Int.mul_le_mul hp.2 hr.2 (by omega) (by decide)
    rw [← hT]
    unfold mulDivV
    generalize P * r = Q at *
    rw [if_neg (by omega), if_neg (by decide)]
    split <;> omega
  obtain ⟨V, hV⟩ : ∃ V, mulDivV T 1000000000 r = V := ⟨_, rfl⟩
  have hV1 : 4 ≤ V ∧ V ≤ 10000000000 := by
    have hr := HRN.out
    rw [← hV]
    unfold mulDivV
    rw [if_neg (by omega), if_neg (by omega)]
    have hq1 : 4 ≤ T * 1000000000 / r := by
      rw [Int.le_ediv_iff_mul_le (by omega)]; omega
    have hq2 : T * 1000000000 / r ≤ 10000000000 - 1 + 1 := by
      have : T * 1000000000 / r < 10000000001 := by
        rw [Int.ediv_lt_iff_lt_mul (by omega)]
        have : 10000000001 * 10000000 ≤ 10000000001 * r := Int.mul_le_mul_of_nonneg_left hr.1 (by decide)
        omega
      omega
    generalize T * 1000000000 / r = Q at *
    split <;> omega
  have HT := Lib.hid hT1
  have HV := Lib.hid hV
  have HV1 := Lib.hid hV1
  refine (rmuldiv_any _ _ _ (by have := HPN.out; omega) (by have := HPN.out; omega) (by have := HRN.out; omega) (by have := HRN.out; omega) (by decide) (by decide) _).mono ?_
  rintro e w' ⟨rfl, rfl⟩
  rw [hT]
  have HTT := Lib.hid hT
  clear hT hT1 hV hV1 hP hr
  have R3 := Lib.hid (R2.out.box1 28 #[.int .i64 0, .int .i64 0, .int .u64 0, .int .u64 0, .int .u64 0, .int .u64 0, .int .u64 0, .int .u64 0, .bool false, .bool false])
  clear R2
  go_upto_region 8 with fail
  generalize hw5 : World.alloc w4 _ = w5 at *
  generalize w4.heap.size = bx at *
  clear hw5
  go_wp2
  go_loopg [10] 139 (fun j i wr => ∃ (k : Nat) (I D S : Int) (x : Mdl) (cs : Array Value), k + j = 139 ∧ k ≤ n ∧ i = .int .i64 I ∧ I = (k : Int) + 1 ∧ D = (k : Int) * T ∧ S = (k : Int) * r ∧ Stdy T r V k D S x ∧ ((k = 0 ∧ cs = #[.int .i64 0, .int .i64 0, .int .u64 0, .int .u64 0, .int .u64 0, .int .u64 0, .int .u64 0, .int .u64 0, .bool false, .bool false]) ∨ (0 < k ∧ cs = staC x)) ∧ Room w wr [modT g x, blkT bx 28 cs])
  case atStart => exact ⟨0, 1, 0, 0, _, _, by omega, by omega, rfl, rfl, by simp, by simp, std_new (by have := HV1.out; omega), .inl ⟨rfl, rfl⟩, R3.out⟩
  case round =>
    obtain ⟨k, I, D, S, x, cs, hk, hkn, rfl, hI, hD, hS, hx, hcs, hRm⟩ := hrel
    have HM := Lib.hid hRm; clear hRm R3
    have HX := Lib.hid hx; clear hx
    by_cases hlt : k < n
    · have hc : I ≤ (n : Int) := by omega
      have ht := HT.out
      have hrr := HRN.out
      have e1 : I * r = S + r := by rw [hI, hS, Int.add_mul]; omega
      have e2 : I * T = D + T := by rw [hI, hD, Int.add_mul]; omega
      have e3 : (I - 1) * T = D := by rw [hI, hD, show (k : Int) + 1 - 1 = k by omega]
      have hk139 : (k : Int) ≤ 139 := by omega
      have hD0 : 0 ≤ D ∧ D ≤ 139 * 10100000 := by
        rw [hD]; exact ⟨Int.mul_nonneg (by omega) (by omega), Int.mul_le_mul hk139 ht.2 (by omega) (by decide)⟩
      have hS0 : 0 ≤ S ∧ S ≤ 139 * 100000000 := by
        rw [hS]; exact ⟨Int.mul_nonneg (by omega) (by omega), Int.mul_le_mul hk139 hrr.2 (by omega) (by decide)⟩
      have w1' : IntKind.u64.wrap (S + r) = S + r := by rw [IntKind.wrap_u64]; omega
      have w2' : IntKind.u64.wrap (D + T) = D + T := by rw [IntKind.wrap_u64]; omega
      have w3' : IntKind.u64.wrap D = D := by rw [IntKind.wrap_u64]; omega
      have w4' : IntKind.u64.wrap I = I := by rw [IntKind.wrap_u64]; omega
      have w5' : IntKind.u64.wrap (I - 1) = I - 1 := by rw [IntKind.wrap_u64]; omega
      have w6' : IntKind.i64.wrap (I - 1) = I - 1 := by rw [IntKind.wrap_i64]; omega
      have w7' : IntKind.i64.wrap (I + 1) = I + 1 := by rw [IntKind.wrap_i64]; omega
      obtain ⟨y, hy⟩ : ∃ y, updM x ⟨S + r, D + T, D, r, r, T, 0, T, false⟩ 2000 = y := ⟨_, rfl⟩
      have HE := Lib.hid hy
      have HY : Hid (Stdy T r V (k + 1) (D + T) (S + r) y) := Lib.hid (by
        rw [← hy]
        exact std_step HX.out (by omega) (by omega) (by omega) hrr.2 HV.out HV1.out.1 HV1.out.2 hD0.1 (by omega) hS0.1 (by omega) (fun h => by rw [hS, h]; simp) (by omega))
      have HSF : Hid (Spl.Fit ⟨S + r, D + T, D, r, r, T, 0, T, false⟩) := Lib.hid ⟨⟨by show 0 ≤ S + r; omega, by show S + r ≤ _; omega⟩, ⟨by show 0 ≤ D + T; omega, by show D + T ≤ _; omega⟩, ⟨hD0.1, by show D ≤ _; omega⟩, ⟨by show 0 ≤ r; omega, by show r ≤ _; omega⟩, ⟨by show 0 ≤ r; omega, by show r ≤ _; omega⟩, ⟨by show 0 ≤ T; omega, by show T ≤ _; omega⟩, num00, ⟨by show 0 ≤ T; omega, by show T ≤ _; omega⟩⟩
      have HC : Hid (x.r.c < 18446744073709551615) := Lib.hid (by rw [HX.out.rr]; show (k : Int) < _; omega)
      have HQ : Hid (D + T = ((k + 1 : Nat) : Int) * T ∧ S + r = ((k + 1 : Nat) : Int) * r) := Lib.hid ⟨by rw [hD]; push_cast; rw [Int.add_mul]; omega, by rw [hS]; push_cast; rw [Int.add_mul]; omega⟩
      have HI := Lib.hid hI
      obtain ⟨o0, o1, o2, o3, o4, o5, o6, o7, o8, o9, ho⟩ : ∃ o0 o1 o2 o3 o4 o5 o6 o7 o8 o9, cs = #[o0, o1, o2, o3, o4, o5, o6, o7, o8, o9] := by
        rcases hcs with ⟨_, h⟩ | ⟨_, h⟩
        · exact ⟨_, _, _, _, _, _, _, _, _, _, h⟩
        · exact ⟨_, _, _, _, _, _, _, _, _, _, h⟩
      subst ho
      clear hy hcs hD hS hI ht hrr hk139 hD0 hS0
      go_wp2_with fail
      refine (HM.out.modupd (s := ⟨S + r, D + T, D, r, r, T, 0, T, false⟩) HE.out rfl HSF.out ⟨by decide, by decide⟩ HC.out).mono ?_
      rintro e w6 ⟨rfl, r6⟩
      have R6 := Lib.hid r6; clear r6 HM
      obtain ⟨⟨p0, q0⟩, ⟨p1, q1⟩, ⟨p2, q2⟩, ⟨p3, q3⟩, ⟨p4, q4⟩, ⟨p5, q5⟩, ⟨p6, q6⟩, ⟨p7, q7⟩, ⟨p8, q8⟩, ⟨p9, q9⟩, pw, pk⟩ := (show Whole w6 bx 28 #[o0, o1, o2, o3, o4, o5, o6, o7, o8, o9] from R6.out.get1).fill10 (.int .i64 y.m) (.int .i64 y.c.p) (.int .u64 y.t) (.int .u64 y.w) (.int .u64 (bwM y)) (.int .u64 y.q.b) (.int .u64 (gainM y)) (.int .u64 y.r.c) (.bool (fullP y.p)) (.bool y.o.u)
      have R7 := Lib.hid (R6.out.step1 (t' := blkT bx 28 (staC y)) pw pk own_same)
      clear pw pk R6 e1 e2 e3
      go_wp2
      go_roundg (gk - 1)
      case measure => omega
      case rel => exact ⟨k + 1, I + 1, D + T, S + r, y, staC y, by omega, by omega, by go_num, by have := HI.out; push_cast; omega, HQ.out.1, HQ.out.2, HY.out, .inr ⟨by omega, rfl⟩, R7.out⟩
    · obtain rfl : k = n := by omega
      have hc : ¬ I ≤ (k : Int) := by omega
      rcases hcs with ⟨h0, _⟩ | ⟨h0, hcs⟩
      · omega
      subst hcs
      have hX := HX.out
      have hbw : bwM x = V := by unfold bwM; rw [hX.o, ← hX.b1 h0]; rfl
      have hq := hX.q1 h0
      have hp := hX.p3 (by omega)
      have hB := (show Whole wr bx 28 (staC x) from HM.out.get1)
      have c0 : wr.cell? ⟨bx, 0, none⟩ = some (.int .i64 x.m) := hB.cell 0
      have c2 : wr.cell? ⟨bx, 2, none⟩ = some (.int .u64 x.t) := hB.cell 2
      have c3 : wr.cell? ⟨bx, 3, none⟩ = some (.int .u64 x.w) := hB.cell 3
      have c4 : wr.cell? ⟨bx, 4, none⟩ = some (.int .u64 V) := by rw [hB.cell 4]; show some (Value.int .u64 (bwM x)) = _; rw [hbw]
      have c5 : wr.cell? ⟨bx, 5, none⟩ = some (.int .u64 r) := by rw [hB.cell 5]; show some (Value.int .u64 x.q.b) = _; rw [hq]
      have c6 : wr.cell? ⟨bx, 6, none⟩ = some (.int .u64 (gainM x)) := hB.cell 6
      have c7 : wr.cell? ⟨bx, 7, none⟩ = some (.int .u64 (k : Int)) := by rw [hB.cell 7]; show some (Value.int .u64 x.r.c) = _; rw [hX.rr]
      have c8 : wr.cell? ⟨bx, 8, none⟩ = some (.bool true) := by rw [hB.cell 8]; show some (Value.bool (fullP x.p)) = _; rw [show fullP x.p = true by simp [fullP, hp]]
      have c9 : wr.cell? ⟨bx, 9, none⟩ = some (.bool false) := by rw [hB.cell 9]; show some (Value.bool x.o.u) = _; rw [hX.o]
      have HTQ : Hid (x.t = rateM x) := Lib.hid (hX.t (by omega))
      have HWQ : Hid (x.m = 2 → x.w ≤ winV V r 512 2000 1000) := Lib.hid (hX.w (by omega))
      have HRT : Hid (rateM x = maxI (rateV V (gainM x)) 1) := Lib.hid (by unfold rateM; rw [hbw])
      have HGN : Hid (Num (gainM x)) := Lib.hid gainM_num
      have hwk : IntKind.u64.wrap (k : Int) = (k : Int) := by rw [IntKind.wrap_u64]; omega
      have qv : (V != V) = false := by simp
      have qr : (r != r) = false := by simp
      have qk : ((k : Int) != (k : Int)) = false := by simp
      clear hX hbw hq hp hB hI hD hS
      go_wp2_with fail
      refine (rmuldiv_any _ _ _ (by have := HT.out; omega) (by have := HT.out; omega) (by decide) (by decide) (by have := HRN.out; omega) (by have := HRN.out; omega) _).mono ?_
      rintro e w' ⟨rfl, rfl⟩
      rw [HV.out]
      go_upto_region 16 with fail
      obtain ⟨G, hG⟩ : ∃ G, gainM x = G := ⟨_, rfl⟩
      rw [hG] at c6
      have HG := Lib.hid hG
      obtain ⟨t, htt⟩ : ∃ t, x.t = t := ⟨_, rfl⟩
      rw [htt] at c2
      obtain ⟨R, hR⟩ : ∃ R, rateV V G = R := ⟨_, rfl⟩
      obtain ⟨W, hW⟩ : ∃ W, winV V r 512 2000 1000 = W := ⟨_, rfl⟩
      have HRR := Lib.hid hR
      have HWW := Lib.hid hW
      have htr : t = maxI R 1 := by rw [← htt, HTQ.out, HRT.out, hG, hR]
      by_cases h2 : x.m = 2
      · have hm2 : (x.m != 2) = false := by simp [h2]
        have hww : x.w ≤ W := by rw [← hW]; exact HWQ.out h2
        have hww' : decide (x.w ≤ W) = true := by simp [hww]
        clear h2 hG htt hR hW
        rcases Int.lt_trichotomy R 1 with hl | hl | hl
        · obtain rfl : t = 1 := by rw [htr]; unfold maxI; rw [if_pos hl]
          have hn' : ¬ 1 < R := by omega
          clear htr
          refine wp_region_sch (fun W => W.cell? ⟨bx, 0, none⟩ = some (.int .i64 x.m) ∧ W.cell? ⟨bx, 3, none⟩ = some (.int .u64 x.w) ∧ W.cell? ⟨bx, 2, none⟩ = some (.int .u64 _) ∧ W.cell? ⟨bx, 6, none⟩ = some (.int .u64 G)) [(true, 0), (true, 1), (true, 2), (true, 3), (true, 4), (true, 5), (true, 6), (true, 7), (false, 8), (true, 9), (true, 10), (true, 11), (true, 12), (true, 13), (true, 14), (true, 15), (false, 16), (true, 17), (true, 18), (true, 19), (true, 20), (true, 21)] (by kernel_rfl) (by kernel_rfl) (by kernel_rfl) (by kernel_rfl) ⟨c0, c3, c2, c6⟩ ?_
          (repeat (first | (refine wpSch_yes (v := ?_) rfl (fun _ _ _ h => h) (by rfl) ?_ ?_; rotate_left; (next => (intro w hSw; obtain ⟨hS1, hS2, hS3, hS4⟩ := hSw; go_simp; (try with_reducible rfl))); (try simp only [Act.put, List.setIfInBounds_toArray, List.set_cons_zero, List.set_cons_succ])) | (refine wpSch_no rfl (fun _ _ _ h => h) (by rfl) ?_; (try simp only [Act.put, List.setIfInBounds_toArray, List.set_cons_zero, List.set_cons_succ]))))
          refine wpSch_call rfl (by rfl) (fun K hK => ?_)
          go_simp
          refine (rwin_any _ _ _ _ _ (by have := HV1.out; omega) (by have := HV1.out; omega) (by have := HRN.out; omega) (by have := HRN.out; omega) (by decide) (by decide) (by decide) (by decide) (by decide) (by decide) _).mono ?_
          rintro e w' ⟨rfl, rfl⟩
          rw [HWW.out]
          refine hK.out _ _ ⟨c0, c3, c2, c6⟩ (fun hHeld => ?_)
          clear hK K hHeld
          (try simp only [Act.put, List.setIfInBounds_toArray, List.set_cons_zero, List.set_cons_succ])
          (repeat (first | (refine wpSch_yes (v := ?_) rfl (fun _ _ _ h => h) (by rfl) ?_ ?_; rotate_left; (next => (intro w hSw; obtain ⟨hS1, hS2, hS3, hS4⟩ := hSw; go_simp; (try with_reducible rfl))); (try simp only [Act.put, List.setIfInBounds_toArray, List.set_cons_zero, List.set_cons_succ])) | (refine wpSch_no rfl (fun _ _ _ h => h) (by rfl) ?_; (try simp only [Act.put, List.setIfInBounds_toArray, List.set_cons_zero, List.set_cons_succ]))))
          refine wpSch_call rfl (by rfl) (fun K hK => ?_)
          go_simp
          refine (rrate_any _ _ (by have := HV1.out; omega) (by have := HV1.out; omega) (by have := HGN.out.1; rw [HG.out] at this; exact this) (by have := HGN.out.2; rw [HG.out] at this; exact this) _).mono ?_
          rintro e w' ⟨rfl, rfl⟩
          rw [HRR.out]
          refine hK.out _ _ ⟨c0, c3, c2, c6⟩ (fun hHeld => ?_)
          clear hK K hHeld
          (try simp only [Act.put, List.setIfInBounds_toArray, List.set_cons_zero, List.set_cons_succ])
          (repeat (first | (refine wpSch_yes (v := ?_) rfl (fun _ _ _ h => h) (by rfl) ?_ ?_; rotate_left; (next => (intro w hSw; obtain ⟨hS1, hS2, hS3, hS4⟩ := hSw; go_simp; (try with_reducible rfl))); (try simp only [Act.put, List.setIfInBounds_toArray, List.set_cons_zero, List.set_cons_succ])) | (refine wpSch_no rfl (fun _ _ _ h => h) (by rfl) ?_; (try simp only [Act.put, List.setIfInBounds_toArray, List.set_cons_zero, List.set_cons_succ]))))
          refine wpSch_nil ?_
          go_wp2
          go_ret
          exact ⟨rfl, HM.out.drew.bel⟩
        · subst hl
          obtain rfl : t = 1 := by rw [htr]; decide
          clear htr
          refine wp_region_sch (fun W => W.cell? ⟨bx, 0, none⟩ = some (.int .i64 x.m) ∧ W.cell? ⟨bx, 3, none⟩ = some (.int .u64 x.w) ∧ W.cell? ⟨bx, 2, none⟩ = some (.int .u64 _) ∧ W.cell? ⟨bx, 6, none⟩ = some (.int .u64 G)) [(true, 0), (true, 1), (true, 2), (true, 3), (true, 4), (true, 5), (true, 6), (true, 7), (false, 8), (true, 9), (true, 10), (true, 11), (true, 12), (true, 13), (true, 14), (true, 15), (false, 16), (true, 17), (true, 18), (true, 19), (true, 20), (true, 21)] (by kernel_rfl) (by kernel_rfl) (by kernel_rfl) (by kernel_rfl) ⟨c0, c3, c2, c6⟩ ?_
          (repeat (first | (refine wpSch_yes (v := ?_) rfl (fun _ _ _ h => h) (by rfl) ?_ ?_; rotate_left; (next => (intro w hSw; obtain ⟨hS1, hS2, hS3, hS4⟩ := hSw; go_simp; (try with_reducible rfl))); (try simp only [Act.put, List.setIfInBounds_toArray, List.set_cons_zero, List.set_cons_succ])) | (refine wpSch_no rfl (fun _ _ _ h => h) (by rfl) ?_; (try simp only [Act.put, List.setIfInBounds_toArray, List.set_cons_zero, List.set_cons_succ]))))
          refine wpSch_call rfl (by rfl) (fun K hK => ?_)
          go_simp
          refine (rwin_any _ _ _ _ _ (by have := HV1.out; omega) (by have := HV1.out; omega) (by have := HRN.out; omega) (by have := HRN.out; omega) (by decide) (by decide) (by decide) (by decide) (by decide) (by decide) _).mono ?_
          rintro e w' ⟨rfl, rfl⟩
          rw [HWW.out]
          refine hK.out _ _ ⟨c0, c3, c2, c6⟩ (fun hHeld => ?_)
          clear hK K hHeld
          (try simp only [Act.put, List.setIfInBounds_toArray, List.set_cons_zero, List.set_cons_succ])
          (repeat (first | (refine wpSch_yes (v := ?_) rfl (fun _ _ _ h => h) (by rfl) ?_ ?_; rotate_left; (next => (intro w hSw; obtain ⟨hS1, hS2, hS3, hS4⟩ := hSw; go_simp; (try with_reducible rfl))); (try simp only [Act.put, List.setIfInBounds_toArray, List.set_cons_zero, List.set_cons_succ])) | (refine wpSch_no rfl (fun _ _ _ h => h) (by rfl) ?_; (try simp only [Act.put, List.setIfInBounds_toArray, List.set_cons_zero, List.set_cons_succ]))))
          refine wpSch_call rfl (by rfl) (fun K hK => ?_)
          go_simp
          refine (rrate_any _ _ (by have := HV1.out; omega) (by have := HV1.out; omega) (by have := HGN.out.1; rw [HG.out] at this; exact this) (by have := HGN.out.2; rw [HG.out] at this; exact this) _).mono ?_
          rintro e w' ⟨rfl, rfl⟩
          rw [HRR.out]
          refine hK.out _ _ ⟨c0, c3, c2, c6⟩ (fun hHeld => ?_)
          clear hK K hHeld
          (try simp only [Act.put, List.setIfInBounds_toArray, List.set_cons_zero, List.set_cons_succ])
          (repeat (first | (refine wpSch_yes (v := ?_) rfl (fun _ _ _ h => h) (by rfl) ?_ ?_; rotate_left; (next => (intro w hSw; obtain ⟨hS1, hS2, hS3, hS4⟩ := hSw; go_simp; (try with_reducible rfl))); (try simp only [Act.put, List.setIfInBounds_toArray, List.set_cons_zero, List.set_cons_succ])) | (refine wpSch_no rfl (fun _ _ _ h => h) (by rfl) ?_; (try simp only [Act.put, List.setIfInBounds_toArray, List.set_cons_zero, List.set_cons_succ]))))
          refine wpSch_nil ?_
          go_wp2
          go_ret
          exact ⟨rfl, HM.out.drew.bel⟩
        · obtain rfl : t = R := by rw [htr]; unfold maxI; rw [if_neg (by omega)]
          have hn' : ¬ t < 1 := by omega
          have qt : (t == t) = true := by simp
          clear htr
          refine wp_region_sch (fun W => W.cell? ⟨bx, 0, none⟩ = some (.int .i64 x.m) ∧ W.cell? ⟨bx, 3, none⟩ = some (.int .u64 x.w) ∧ W.cell? ⟨bx, 2, none⟩ = some (.int .u64 _) ∧ W.cell? ⟨bx, 6, none⟩ = some (.int .u64 G)) [(true, 0), (true, 1), (true, 2), (true, 3), (true, 4), (true, 5), (true, 6), (true, 7), (false, 8), (true, 9), (true, 10), (true, 11), (true, 12), (true, 13), (true, 14), (true, 15), (false, 16), (true, 17), (true, 18), (true, 19), (true, 20), (true, 21)] (by kernel_rfl) (by kernel_rfl) (by kernel_rfl) (by kernel_rfl) ⟨c0, c3, c2, c6⟩ ?_
          (repeat (first | (refine wpSch_yes (v := ?_) rfl (fun _ _ _ h => h) (by rfl) ?_ ?_; rotate_left; (next => (intro w hSw; obtain ⟨hS1, hS2, hS3, hS4⟩ := hSw; go_simp; (try with_reducible rfl))); (try simp only [Act.put, List.setIfInBounds_toArray, List.set_cons_zero, List.set_cons_succ])) | (refine wpSch_no rfl (fun _ _ _ h => h) (by rfl) ?_; (try simp only [Act.put, List.setIfInBounds_toArray, List.set_cons_zero, List.set_cons_succ]))))
          refine wpSch_call rfl (by rfl) (fun K hK => ?_)
          go_simp
          refine (rwin_any _ _ _ _ _ (by have := HV1.out; omega) (by have := HV1.out; omega) (by have := HRN.out; omega) (by have := HRN.out; omega) (by decide) (by decide) (by decide) (by decide) (by decide) (by decide) _).mono ?_
          rintro e w' ⟨rfl, rfl⟩
          rw [HWW.out]
          refine hK.out _ _ ⟨c0, c3, c2, c6⟩ (fun hHeld => ?_)
          clear hK K hHeld
          (try simp only [Act.put, List.setIfInBounds_toArray, List.set_cons_zero, List.set_cons_succ])
          (repeat (first | (refine wpSch_yes (v := ?_) rfl (fun _ _ _ h => h) (by rfl) ?_ ?_; rotate_left; (next => (intro w hSw; obtain ⟨hS1, hS2, hS3, hS4⟩ := hSw; go_simp; (try with_reducible rfl))); (try simp only [Act.put, List.setIfInBounds_toArray, List.set_cons_zero, List.set_cons_succ])) | (refine wpSch_no rfl (fun _ _ _ h => h) (by rfl) ?_; (try simp only [Act.put, List.setIfInBounds_toArray, List.set_cons_zero, List.set_cons_succ]))))
          refine wpSch_call rfl (by rfl) (fun K hK => ?_)
          go_simp
          refine (rrate_any _ _ (by have := HV1.out; omega) (by have := HV1.out; omega) (by have := HGN.out.1; rw [HG.out] at this; exact this) (by have := HGN.out.2; rw [HG.out] at this; exact this) _).mono ?_
          rintro e w' ⟨rfl, rfl⟩
          rw [HRR.out]
          refine hK.out _ _ ⟨c0, c3, c2, c6⟩ (fun hHeld => ?_)
          clear hK K hHeld
          (try simp only [Act.put, List.setIfInBounds_toArray, List.set_cons_zero, List.set_cons_succ])
          (repeat (first | (refine wpSch_yes (v := ?_) rfl (fun _ _ _ h => h) (by rfl) ?_ ?_; rotate_left; (next => (intro w hSw; obtain ⟨hS1, hS2, hS3, hS4⟩ := hSw; go_simp; (try with_reducible rfl))); (try simp only [Act.put, List.setIfInBounds_toArray, List.set_cons_zero, List.set_cons_succ])) | (refine wpSch_no rfl (fun _ _ _ h => h) (by rfl) ?_; (try simp only [Act.put, List.setIfInBounds_toArray, List.set_cons_zero, List.set_cons_succ]))))
          refine wpSch_nil ?_
          go_wp2
          go_ret
          exact ⟨rfl, HM.out.drew.bel⟩
      · have hm2 : (x.m != 2) = true := by simp [h2]
        clear h2 hG htt hR hW htr
        refine wp_region_sch (fun W => W.cell? ⟨bx, 0, none⟩ = some (.int .i64 x.m) ∧ W.cell? ⟨bx, 3, none⟩ = some (.int .u64 x.w) ∧ W.cell? ⟨bx, 2, none⟩ = some (.int .u64 t) ∧ W.cell? ⟨bx, 6, none⟩ = some (.int .u64 G)) [(true, 0), (true, 1), (true, 2), (true, 3), (true, 4), (true, 5), (true, 6), (true, 7), (false, 8), (true, 9), (true, 10), (true, 11), (true, 12), (true, 13), (true, 14), (true, 15), (false, 16), (true, 17), (true, 18), (true, 19), (true, 20), (true, 21)] (by kernel_rfl) (by kernel_rfl) (by kernel_rfl) (by kernel_rfl) ⟨c0, c3, c2, c6⟩ ?_
        (repeat (first | (refine wpSch_yes (v := ?_) rfl (fun _ _ _ h => h) (by rfl) ?_ ?_; rotate_left; (next => (intro w hSw; obtain ⟨hS1, hS2, hS3, hS4⟩ := hSw; go_simp; (try with_reducible rfl))); (try simp only [Act.put, List.setIfInBounds_toArray, List.set_cons_zero, List.set_cons_succ])) | (refine wpSch_no rfl (fun _ _ _ h => h) (by rfl) ?_; (try simp only [Act.put, List.setIfInBounds_toArray, List.set_cons_zero, List.set_cons_succ]))))
        refine wpSch_not rfl (by rfl) ⟨c0, c3, c2, c6⟩ ?_
        (try simp only [Act.put, List.setIfInBounds_toArray, List.set_cons_zero, List.set_cons_succ])
        (repeat (first | (refine wpSch_yes (v := ?_) rfl (fun _ _ _ h => h) (by rfl) ?_ ?_; rotate_left; (next => (intro w hSw; obtain ⟨hS1, hS2, hS3, hS4⟩ := hSw; go_simp; (try with_reducible rfl))); (try simp only [Act.put, List.setIfInBounds_toArray, List.set_cons_zero, List.set_cons_succ])) | (refine wpSch_no rfl (fun _ _ _ h => h) (by rfl) ?_; (try simp only [Act.put, List.setIfInBounds_toArray, List.set_cons_zero, List.set_cons_succ]))))
        refine wpSch_not rfl (by rfl) ⟨c0, c3, c2, c6⟩ ?_
        (try simp only [Act.put, List.setIfInBounds_toArray, List.set_cons_zero, List.set_cons_succ])
        (repeat (first | (refine wpSch_yes (v := ?_) rfl (fun _ _ _ h => h) (by rfl) ?_ ?_; rotate_left; (next => (intro w hSw; obtain ⟨hS1, hS2, hS3, hS4⟩ := hSw; go_simp; (try with_reducible rfl))); (try simp only [Act.put, List.setIfInBounds_toArray, List.set_cons_zero, List.set_cons_succ])) | (refine wpSch_no rfl (fun _ _ _ h => h) (by rfl) ?_; (try simp only [Act.put, List.setIfInBounds_toArray, List.set_cons_zero, List.set_cons_succ]))))
        refine wpSch_nil ?_
        go_wp2
        go_ret
        exact ⟨rfl, HM.out.drew.bel⟩

set_option maxRecDepth 100000 in
theorem lifted (os : Os) (started : os.Started) (H : Type) (enc : TypeId × Value → H) :
    ReturnsInHanded {} Try.checked os 5 .any (Rows.bbrSteadySpec.pre6 enc Try.prog Try.f5 Rows.bbrSteadyRow.domain false) (Rows.bbrSteadySpec.post enc Try.prog Try.f5 false true false false) := by
  refine returnsInHanded_of_change (C := Try.checked) own started (by kernel_rfl) Try.func5
    (ChangeSpec.witness6 (enc := enc) (C := Try.checked) false ⟨#[], #[.int .i64 0, .int .u64 0, .int .u64 0], []⟩ 8 (by kernel_rfl) (by kernel_rfl) (by kernel_rfl) (by kernel_rfl)) ?_
  intro W base args ds gs before hval0 hW hcnd _
  have hval : ∀ (j : Nat) t v, Try.f5.params[j]? = some t → args[j]? = some v → Value.okWide Try.prog W .any base t v := hval0
  have hW' := hW
  obtain ⟨p, q, hA0, hV, rfl, hfz, hnd⟩ := hW
  have hA : DataW.TrodAll enc Try.prog W 0 (fun _ => true) true Try.f5.params.toList args.toList ds p := hA0
  rw [Try.params5] at hA hval
  obtain ⟨v0, vs0, d0, ds0, p0, q0, hargs, rfl, rfl, h0, r0⟩ := trodAll_cons hA
  obtain ⟨v1, vs1, d1, ds1, p1, q1, rfl, rfl, rfl, h1, r1⟩ := trodAll_cons r0
  obtain ⟨v2, vs2, d2, ds2, p2, q2, rfl, rfl, rfl, h2, r2⟩ := trodAll_cons r1
  obtain ⟨rfl, rfl, rfl⟩ := trodAll_nil r2
  obtain rfl : args = #[v0, v1, v2] := by cases args; simp_all
  obtain ⟨rfl, rfl⟩ := trodVars_none hV
  obtain ⟨a0, rfl, rfl, rfl, w0⟩ := open_int Try.underlying3 (hval 0 3 v0 rfl rfl) h0
  obtain ⟨a1, rfl, rfl, rfl, w1⟩ := open_int Try.underlying22 (hval 1 22 v1 rfl rfl) h1
  obtain ⟨a2, rfl, rfl, rfl, w2⟩ := open_int Try.underlying22 (hval 2 22 v2 rfl rfl) h2
  clear hA0 hval0
  simp only [List.append_nil] at hW'
  refine (walk a0 a1 a2 w0 w1 w2 W).mono fun e W' ⟨he, hg⟩ => ?_
  subst he
  exact ⟨_, rfl, _, _, _, [], _, [], hW', trodAll_mk1 (shut_bool Try.underlying4 _), (trodAll_cons_mk (shut_int Try.underlying3 w0) (trodAll_cons_mk (shut_int Try.underlying22 w1) (trodAll_cons_mk (shut_int Try.underlying22 w2) trodAll_mk0))), rfl, hg.frame _, fun h => by cases h⟩

theorem over : Rows.bbrSteadyRow.holds Try.pinned (OpenSpec.ofChange Rows.bbrSteadySpec) :=
  OpenClaim.holds_of_wide 5 Try.f5 rfl rfl rfl rfl rfl rfl rfl ⟨rfl, rfl, rfl, rfl, rfl⟩ rfl rfl rfl rfl rfl (by kernel_rfl) Try.func5 (by kernel_rfl)
    (of_decide_eq_true (by kernel_rfl)) (by unfold Func.isWrapper; first | (rw [if_pos (by decide +kernel)]; kernel_rfl) | (rw [if_neg (by decide +kernel)]; exact ⟨rfl, rfl⟩))
    (fun os started H enc _ => lifted os started H enc)

theorem proved : Rows.BbrSteadySaid :=
  over
end Go.Proofs.Ytbimmadllfgmiaa.bbrSteady
namespace Go.Proofs.Ytbimmadllfgmiaa
theorem bbrSteady_holds : Rows.BbrSteadySaid := bbrSteady.proved
#print axioms bbrSteady_holds
end Go.Proofs.Ytbimmadllfgmiaa
