/-
  canterlaw20.FqLimits, walked. Conditions: numbers are of their kind.
-/
import Derived.Test.YtnljjdfajmjdjaaJ34
import Derived.Test.YtnljjdfajmjdjaaJ31
import Derived.LoopTactic
namespace Go.Proofs.Ytnljjdfajmjdjaa
open Go.RowKit
set_option maxRecDepth 100000
set_option linter.unusedSimpArgs false
set_option linter.unusedVariables false

def limC (l w h : Int) (d : Bool) : Cf := ⟨3000, 15000, l, w, h, 0, d, 100000, 1000⟩
theorem lim_okC {l w h : Int} {d : Bool} (hl : 1 ≤ l ∧ l ≤ 30) (hw : 1 ≤ w ∧ w ≤ 30) (hh : 0 ≤ h ∧ h < 1099511627776) : (limC l w h d).Ok :=
  ⟨plain_ok.hq, plain_ok.hf, ⟨hl.1, by show l ≤ 512; omega⟩, ⟨hw.1, by show w ≤ 512; omega⟩, ⟨hh.1, by show h ≤ 4611686018427387904; omega⟩, ⟨Int.le_refl 0, (by decide : (0 : Int) ≤ 18446744073709551615)⟩, plain_ok.hk, plain_ok.hm⟩
/-- What is too far ahead. -/
theorem lim_far {l w h : Int} (hl : 1 ≤ l ∧ l ≤ 30) (hw : 1 ≤ w ∧ w ≤ 30) (hh : 0 ≤ h ∧ h < 1099511627776) :
    enqE ⟨0, 0, 1, 8 + h, false⟩ = 0 ∧ (enqV (newQ (limC l w h true)) ⟨0, 0, 1, 8 + h, false⟩ 7 = 4 ∧ (enqQ (newQ (limC l w h true)) ⟨0, 0, 1, 8 + h, false⟩ 7).T 0 = false ∧ lenQ (enqQ (newQ (limC l w h true)) ⟨0, 0, 1, 8 + h, false⟩ 7) = 0) ∧
      enqV (newQ (limC l w h false)) ⟨0, 0, 1, 8 + h, false⟩ 7 = 0 ∧ Solo (enqQ (newQ (limC l w h false)) ⟨0, 0, 1, 8 + h, false⟩ 7) 0 ⟨0, 15000, 1, 0, 0, [⟨0, 0, 1, 7 + h, false⟩]⟩ := by
  have he : enqE ⟨0, 0, 1, 8 + h, false⟩ = 0 := by
    unfold enqE; dsimp only; rw [if_neg (by omega), if_neg (by omega)]
  have hadd : addS 7 h = 7 + h := by unfold addS; rw [if_pos (by omega)]
  have hB : ∀ d, Bare (newQ (limC l w h d)) := fun d => bare_new (lim_okC hl hw hh)
  have hf : ∀ d, fateQ (newQ (limC l w h d)) ⟨0, 0, 1, 8 + h, false⟩ 7 = if d = true then 4 else 0 := fun d => by
    unfold fateQ
    rw [(hB d).len, if_neg (show ¬ (newQ (limC l w h d)).c.l ≤ ((0 : Nat) : Int) from (show ¬ l ≤ ((0 : Nat) : Int) by omega)), if_neg (show ¬ (newQ (limC l w h d)).c.w ≤ ((((newQ (limC l w h d)).F (⟨0, 0, 1, 8 + h, false⟩ : Sg).s.toNat).q.length : Nat) : Int) from (show ¬ w ≤ ((0 : Nat) : Int) by omega))]
    show (if addS 7 h < 8 + h ∧ d = true then (4 : Int) else 0) = _
    rw [hadd]
    cases d
    · rw [if_neg (fun e => by cases e.2), if_neg (by decide)]
    · rw [if_pos ⟨by omega, rfl⟩, if_pos rfl]
  have hc0 : ∀ d, fateQ (collQ (newQ (limC l w h d)) 7) ⟨0, 0, 1, 8 + h, false⟩ 7 = if d = true then 4 else 0 := fun d => by
    rw [← hf d]
    rfl
  refine ⟨he, ⟨?_, ?_, ?_⟩, ?_, ?_⟩
  · rw [(enqIn he).1, hc0]; rfl
  · rw [(enqIn he).2, hc0]; rfl
  · rw [(enqIn he).2, hc0]; rfl
  · rw [(enqIn he).1, hc0]; rfl
  · have h1 := (hB false).enq (k := 0) rfl (show InQ (newQ (limC l w h false)) ⟨0, 0, 1, 8 + h, false⟩ 7 from ⟨he, by rw [hf]; rfl⟩)
    have hs : segF (newQ (limC l w h false)) ⟨0, 0, 1, 8 + h, false⟩ 7 = ⟨0, 0, 1, 7 + h, false⟩ := by
      show (⟨0, 0, 1, min (8 + h) (addS 7 h), false⟩ : Sg) = _
      rw [hadd, show min (8 + h) (7 + h) = 7 + h by omega]
    rw [hs] at h1
    exact h1
theorem u7 : U64 7 := ⟨by decide, by decide⟩
set_option maxRecDepth 100000 in
set_option maxHeartbeats 1000000 in
theorem limits_walk (a0 a1 a2 : Int) (dr : Bool) (a2l : 0 ≤ a2) (a2h : a2 ≤ 18446744073709551615) (w : World) :
    Calls Try.prog 6 #[.int .i64 a0, .int .i64 a1, .int .u64 a2, .bool dr] w fun e w' => e = .returned (.bool true) ∧ Below w.heap.size w w' := by
  obtain ⟨n0, li, m1, m2, m3, m4, m5, m6⟩ := mod_num a0 30 (by decide) (by decide)
  obtain ⟨n1, fl, p1, p2, p3, p4, p5, p6⟩ := mod_num a1 30 (by decide) (by decide)
  obtain ⟨fr, hfr⟩ : ∃ fr, a2 % 1099511627776 = fr := ⟨_, rfl⟩
  have hft : a2.tmod 1099511627776 = fr := by rw [Int.tmod_eq_emod_of_nonneg a2l]; exact hfr
  have HLI : Hid (1 ≤ li ∧ li ≤ 30) := Lib.hid ⟨by omega, by omega⟩
  have HFL : Hid (1 ≤ fl ∧ fl ≤ 30) := Lib.hid ⟨by omega, by omega⟩
  have HFR : Hid (0 ≤ fr ∧ fr < 1099511627776) := Lib.hid ⟨by omega, by omega⟩
  have HC := Lib.hid (lim_okC (d := dr) HLI.out HFL.out HFR.out)
  clear a2l a2h hfr m4 m5 m6 p4 p5 p6
  go_enter Try.func6, Try.ntmps6
  go_wp2_with fail
  refine (plain_any w).mono ?_
  rintro e w1 ⟨rfl, k1⟩
  have R1 := Lib.hid (((Room.begin w).kept k1).box 24 #[.int .i64 3000, .int .i64 15000, .int .i64 li, .int .i64 fl, .int .u64 fr, .int .u64 0, .bool dr, .int .i64 100000, .int .i64 1000])
  clear k1
  go_upto_region 4 with fail
  simp only [m1, m2, m3, p1, p2, p3, hft]
  clear hft m1 m2 m3 p1 p2 p3
  go_wp2_with fail
  refine (R1.out.fqnew (limC li fl fr dr) HC.out).mono ?_
  rintro e w2 ⟨g, own, rfl, hr2⟩
  have R2 := Lib.hid hr2
  clear hr2 R1
  go_wp2_with fail
  refine (awakef_any w2).mono ?_
  rintro e w3 ⟨rfl, k3⟩
  have R3 := Lib.hid (R2.out.kept k3)
  clear k3 R2
  go_upto_region 8 with fail
  go_loopw [12] (fun i wr => ∃ (k : Nat) (own' : Nat → Prop) (x : Qm), k ≤ 40 ∧ i = .int .i64 k ∧ LimI x (limC li fl fr dr) k ∧ Room w wr (fqT g own' x :: blkT w1.heap.size 24 #[.int .i64 3000, .int .i64 15000, .int .i64 li, .int .i64 fl, .int .u64 fr, .int .u64 0, .bool dr, .int .i64 100000, .int .i64 1000] :: [])) (fun i _ => 40 - (intOf i).toNat)
  case atStart => exact ⟨0, own, _, by omega, rfl, lim_new HC.out, R3.out⟩
  case round =>
    obtain ⟨k, own', x, hk, rfl, hl, hr⟩ := hrel
    have HL := Lib.hid hl; have R := Lib.hid hr
    clear hl hr
    by_cases hlt : k < 40
    · have hi1 : (k : Int) < 40 := by omega
      obtain ⟨z, hz⟩ : ∃ z : Int, z = ((k % 2 : Nat) : Int) := ⟨_, rfl⟩
      obtain ⟨q, hq⟩ : ∃ q : Int, q = ((k / 2 : Nat) : Int) := ⟨_, rfl⟩
      have HZ := Lib.hid hz; have HQQ := Lib.hid hq
      obtain ⟨he, hv, hl'⟩ := HL.out.step (s := ⟨z, 0, 1, 0, false⟩) u7 hz rfl u0 rfl
      have HE := Lib.hid he; have HL' := Lib.hid hl'
      rw [← hq] at hv
      obtain ⟨V, hV⟩ : ∃ V, enqV x ⟨z, 0, 1, 0, false⟩ 7 = V := ⟨_, rfl⟩
      have HV := Lib.hid hV
      rw [hV] at hv
      have HVV : Hid (V = if li ≤ min (k : Int) (2 * fl) then 2 else if fl ≤ q then 3 else 0) := Lib.hid hv
      have hqb : 0 ≤ q ∧ q ≤ 20 := by omega
      have hflb := HFL.out
      clear he hv hl' hz hq hV
      go_wp2_with fail
      rw [show (k : Int) % 2 = z by have := HZ.out; omega]
      refine (R.out.fqenq ⟨z, 0, 1, 0, false⟩ 7 u7 u0 u0).mono ?_
      rintro e w5 ⟨rfl, own5, hr5⟩
      have R5 := Lib.hid hr5
      rw [HE.out, HV.out]
      clear hr5 R
      have q2 : w5.cell? ⟨w1.heap.size, 2, none⟩ = some (.int .i64 li) := Whole.cell R5.out.get1 2
      have q3 : w5.cell? ⟨w1.heap.size, 3, none⟩ = some (.int .i64 fl) := Whole.cell R5.out.get1 3
      go_upto_region 12 with fail
      try rw [show (k : Int) / 2 = q by have := HQQ.out; omega]
      have hvv := HVV.out
      rcases Int.lt_trichotomy (k : Int) (2 * fl) with hm | hm | hm
      · have hm2 : ¬ 2 * fl < (k : Int) := by omega
        rw [show min (k : Int) (2 * fl) = (k : Int) by omega] at hvv
        by_cases hb : li ≤ (k : Int)
        · rw [if_pos hb] at hvv
          subst hvv
          clear HV HVV
          go_wp2
          go_roundw
          case rel => exact ⟨k + 1, own5, _, by omega, by go_num, HL'.out, R5.out⟩
          case measure => simp [intOf]; omega
        · rw [if_neg hb] at hvv
          by_cases hc : fl ≤ q
          · rw [if_pos hc] at hvv
            subst hvv
            clear HV HVV
            go_wp2
            go_roundw
            case rel => exact ⟨k + 1, own5, _, by omega, by go_num, HL'.out, R5.out⟩
            case measure => simp [intOf]; omega
          · rw [if_neg hc] at hvv
            subst hvv
            clear HV HVV
            go_wp2
            go_roundw
            case rel => exact ⟨k + 1, own5, _, by omega, by go_num, HL'.out, R5.out⟩
            case measure => simp [intOf]; omega
      · have hm2 : ¬ 2 * fl < (k : Int) := by omega
        have hm3 : ¬ (k : Int) < 2 * fl := by omega
        rw [show min (k : Int) (2 * fl) = (k : Int) by omega] at hvv
        have hm' := Lib.hid hm
        clear hm
        by_cases hb : li ≤ (k : Int)
        · rw [if_pos hb] at hvv
          subst hvv
          clear HV HVV
          go_wp2
          go_roundw
          case rel => exact ⟨k + 1, own5, _, by omega, by go_num, HL'.out, R5.out⟩
          case measure => simp [intOf]; omega
        · rw [if_neg hb] at hvv
          by_cases hc : fl ≤ q
          · rw [if_pos hc] at hvv
            subst hvv
            clear HV HVV
            go_wp2
            go_roundw
            case rel => exact ⟨k + 1, own5, _, by omega, by go_num, HL'.out, R5.out⟩
            case measure => simp [intOf]; omega
          · rw [if_neg hc] at hvv
            subst hvv
            clear HV HVV
            go_wp2
            go_roundw
            case rel => exact ⟨k + 1, own5, _, by omega, by go_num, HL'.out, R5.out⟩
            case measure => simp [intOf]; omega
      · have hm2 : ¬ (k : Int) < 2 * fl := by omega
        rw [show min (k : Int) (2 * fl) = 2 * fl by omega] at hvv
        by_cases hb : li ≤ 2 * fl
        · rw [if_pos hb] at hvv
          subst hvv
          clear HV HVV
          go_wp2
          go_roundw
          case rel => exact ⟨k + 1, own5, _, by omega, by go_num, HL'.out, R5.out⟩
          case measure => simp [intOf]; omega
        · rw [if_neg hb] at hvv
          by_cases hc : fl ≤ q
          · rw [if_pos hc] at hvv
            subst hvv
            clear HV HVV
            go_wp2
            go_roundw
            case rel => exact ⟨k + 1, own5, _, by omega, by go_num, HL'.out, R5.out⟩
            case measure => simp [intOf]; omega
          · rw [if_neg hc] at hvv
            subst hvv
            clear HV HVV
            go_wp2
            go_roundw
            case rel => exact ⟨k + 1, own5, _, by omega, by go_num, HL'.out, R5.out⟩
            case measure => simp [intOf]; omega
    · obtain rfl : k = 40 := by omega
      clear hlt hk HL
      have b0 : wr.cell? ⟨w1.heap.size, 0, none⟩ = some (.int .i64 3000) := Whole.cell R.out.get1 0
      have b1 : wr.cell? ⟨w1.heap.size, 1, none⟩ = some (.int .i64 15000) := Whole.cell R.out.get1 1
      have b2 : wr.cell? ⟨w1.heap.size, 2, none⟩ = some (.int .i64 li) := Whole.cell R.out.get1 2
      have b3 : wr.cell? ⟨w1.heap.size, 3, none⟩ = some (.int .i64 fl) := Whole.cell R.out.get1 3
      have b4 : wr.cell? ⟨w1.heap.size, 4, none⟩ = some (.int .u64 fr) := Whole.cell R.out.get1 4
      have b5 : wr.cell? ⟨w1.heap.size, 5, none⟩ = some (.int .u64 0) := Whole.cell R.out.get1 5
      have b6 : wr.cell? ⟨w1.heap.size, 6, none⟩ = some (.bool dr) := Whole.cell R.out.get1 6
      have b7 : wr.cell? ⟨w1.heap.size, 7, none⟩ = some (.int .i64 100000) := Whole.cell R.out.get1 7
      have b8 : wr.cell? ⟨w1.heap.size, 8, none⟩ = some (.int .i64 1000) := Whole.cell R.out.get1 8
      go_wp2_with fail
      refine (R.out.fqnew (limC li fl fr dr) HC.out).mono ?_
      rintro e w5 ⟨g2, own2, rfl, hr5⟩
      have R5 := Lib.hid hr5
      clear hr5 b0 b1 b2 b3 b4 b5 b6 b7 b8 R R3
      have q4 : w5.cell? ⟨w1.heap.size, 4, none⟩ = some (.int .u64 fr) := Whole.cell R5.out.get2 4
      have hw8 : IntKind.u64.wrap (8 + fr) = 8 + fr := by rw [IntKind.wrap_u64]; have := HFR.out; omega
      have hw7 : IntKind.u64.wrap (7 + fr) = 7 + fr := by rw [IntKind.wrap_u64]; have := HFR.out; omega
      have HFAR := Lib.hid (lim_far HLI.out HFL.out HFR.out)
      go_wp2_with fail
      try rw [hw8]
      refine (R5.out.fqenq ⟨0, 0, 1, 8 + fr, false⟩ 7 u7 u0 ⟨by have := HFR.out; dsimp only; omega, by have := HFR.out; dsimp only; omega⟩).mono ?_
      rintro e w6 ⟨rfl, own6, hr6⟩
      rw [HFAR.out.1]
      have R6 := Lib.hid hr6
      clear hr6 R5 q4 hw8
      cases dr with
      | true =>
        rw [HFAR.out.2.1.1]
        go_wp2_with fail
        refine (R6.out.fqflow_no 0 (fun h => by have h1 := h.2; rw [show (0 : Int).toNat = 0 from rfl, HFAR.out.2.1.2.1] at h1; cases h1)).mono ?_
        rintro e w7 ⟨rfl, hr7⟩
        have R7 := Lib.hid (hr7.box1 44 #[.int .i64 0, .int .i64 0, .int .i64 0, .int .u64 0, .int .u64 0, .slice none 0 0])
        clear hr7 R6
        dsimp only [Fl.v, Fl.zero]
        go_wp2_with fail
        refine R7.out.fqlen.mono ?_
        rintro e w8 ⟨rfl, hr8⟩
        rw [HFAR.out.2.1.2.2]
        have R8 := Lib.hid hr8
        clear hr8 R7
        go_wp2
        go_ret
        exact ⟨rfl, R8.out.bel⟩
      | false =>
        rw [HFAR.out.2.2.1]
        have HSO := Lib.hid HFAR.out.2.2.2
        go_wp2_with fail
        refine (R6.out.fqflow_yes (i := 0) (by decide) HSO.out.T).mono ?_
        rintro e w7 ⟨V, rfl, hr7⟩
        obtain ⟨va, vc, rfl⟩ := sgs_shape hr7.get1
        rw [HSO.out.F] at hr7 ⊢
        have R7 := Lib.hid (hr7.box1 44 #[.int .i64 0, .int .i64 15000, .int .i64 1, .int .u64 0, .int .u64 0, .slice va 1 vc])
        clear hr7 R6
        dsimp only [Fl.v, List.length_cons, List.length_nil]
        go_upto_region 24 with fail
        generalize World.alloc w7 _ = w8 at *
        obtain ⟨sb, hsb, c0, c1, c2, c3, c4⟩ := sgs_get (i := 0) (x := ⟨0, 0, 1, 7 + fr, false⟩) (show (sgsT 34 (.slice va 1 vc) [⟨0, 0, 1, 7 + fr, false⟩]).at_ w8 from R7.out.get2) rfl rfl
        subst hsb
        replace c3 : w8.drew.cell? ⟨sb, 3, none⟩ = some (.int .u64 (7 + fr)) := c3
        have d5 : w8.drew.cell? ⟨w7.heap.size, 5, none⟩ = some (.slice (some ⟨sb, 0, none⟩) 1 vc) := Whole.cell R7.out.get1 5
        have d4 : w8.drew.cell? ⟨w1.heap.size, 4, none⟩ = some (.int .u64 fr) := Whole.cell (R7.out.nth 4 (t := blkT w1.heap.size 24 #[.int .i64 3000, .int .i64 15000, .int .i64 li, .int .i64 fl, .int .u64 fr, .int .u64 0, .bool false, .int .i64 100000, .int .i64 1000]) rfl) 4
        clear c0 c1 c2 c4
        refine wp_region_sch (fun W => W.cell? ⟨w7.heap.size, 5, none⟩ = some (.slice (some ⟨sb, 0, none⟩) 1 vc) ∧ W.cell? ⟨sb, 3, none⟩ = some (.int .u64 (7 + fr)) ∧ W.cell? ⟨w1.heap.size, 4, none⟩ = some (.int .u64 fr)) [(true, 0), (true, 1), (true, 2), (true, 3), (true, 4), (true, 5), (true, 6), (true, 7), (true, 8), (true, 9), (true, 10), (true, 11), (true, 12), (true, 13), (true, 14), (true, 15), (true, 16), (true, 17), (true, 18), (true, 19), (true, 20), (true, 21), (true, 22)] (by kernel_rfl) (by kernel_rfl) (by kernel_rfl) (by kernel_rfl) ⟨d5, c3, d4⟩ ?_
        have R8 := Lib.hid R7.out.drew
        clear d5 c3 d4 R7
        generalize World.drew w8 = w9 at *
        (repeat (refine wpSch_yes (v := ?_) rfl (fun _ _ _ h => h) (by rfl) ?_ ?_; rotate_left; (next => (intro w hSw; (try dsimp only at hSw); obtain ⟨hS1, hS2, hS3⟩ := hSw; go_simp; (try with_reducible rfl))); (try simp only [Act.put, List.setIfInBounds_toArray, List.set_cons_zero, List.set_cons_succ])))
        refine wpSch_nil ?_
        go_wp2
        go_ret
        exact ⟨rfl, R8.out.bel⟩
end Go.Proofs.Ytnljjdfajmjdjaa
