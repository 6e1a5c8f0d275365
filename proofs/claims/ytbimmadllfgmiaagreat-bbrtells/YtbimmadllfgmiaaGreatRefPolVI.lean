/-
  The document's own policer (canterref08.Policer): Update leaves what package policer's does. Conditions: the sample's numbers are of 64 bits.
-/
import Derived.Test.YtbimmadllfgmiaaGreatPart
import Derived.Test.YtbimmadllfgmiaaGreatRefPolUI
set_option linter.unusedVariables false
set_option linter.unusedSimpArgs false
namespace Go.Proofs.YtbimmadllfgmiaaGreat
open Go.RowKit
set_option maxRecDepth 100000
variable {Fm : Fr} {oo : Nat}
/-- A Policer of canterref08 behind its round. -/
theorem rpol_round {w : World} {g : Nat} {y : Pol} {N : Int} (h : RPolW Fm oo w g y N) : RPolW Fm oo (w.setCell ⟨g, oo + 3, none⟩ (.int .i64 (N + 1))) g y (N + 1) := Part.put h 3 (.int .i64 (N + 1))
set_option maxHeartbeats 4000000 in
set_option maxRecDepth 100000 in
theorem rpupd_any (g : Nat) (x : Pol) (st : Bool) (s : Spl) (w : World) (h : RPolAt Fm oo w g x) (hs : s.Fit) :
    Calls Tryz.prog 41 #[.pointer (some ⟨g, oo, none⟩), .bool st, s.v] w fun e w' => (∃ v, e = .returned v) ∧ RPolAt Fm oo w' g (updPol x st s) ∧ Keep (fun k => k = g) w w' := by
  have HF := Lib.hid (h.fit.upd (st := st) hs)
  obtain ⟨hfit, N, hW, hN⟩ := h
  obtain ⟨O, hO⟩ : ∃ O, satAdd x.o s.o = O := ⟨_, rfl⟩
  have CA := Lib.hid (radd_any x.o s.o hfit.nums.o.1 hfit.nums.o.2 hs.o.1 hs.o.2); rw [hO] at CA
  have HY : Hid (losPol x s = ⟨x.u, x.m, x.n, x.d, x.l, x.b, x.r, O⟩) := Lib.hid (by rw [← hO]; rfl)
  have HSF := Lib.hid hs
  have HYN : Hid ((⟨x.u, x.m, x.n, x.d, x.l, x.b, x.r, O⟩ : Pol).Nums) := Lib.hid (HY.out ▸ hfit.nums.los hs)
  have HYR : Hid ((⟨x.u, x.m, x.n, x.d, x.l, x.b, x.r, O⟩ : Pol).r = x.r) := Lib.hid rfl
  have HR : Hid (0 ≤ x.r ∧ x.r ≤ 47) := Lib.hid ⟨hfit.r0, hfit.r1⟩
  have HND : Hid ((⟨x.u, x.m, x.n, x.d, x.l, x.b, x.r, O⟩ : Pol).u = true ∨ (⟨x.u, x.m, x.n, x.d, x.l, x.b, x.r, O⟩ : Pol).m = true → N = (⟨x.u, x.m, x.n, x.d, x.l, x.b, x.r, O⟩ : Pol).r) := Lib.hid hN
  have HU : Hid (∀ y, losPol x s = y → updPol x st s = if y.u = true then outPol (rndPol y st) else if y.m = false then (if 0 < s.o then begPol y s else y) else if s.l = true then forPol y else samPol (rndPol y st) s) := Lib.hid (fun y e => by subst e; rfl)
  have HSM := Lib.hid (Whole.new w 34 s.c)
  have HG1 := Lib.hid (Part.alloc hW (.cells s.c 34))
  have HK := Lib.hid ((Keep.refl (fun k => k = g) w).alloc (.cells s.c 34))
  have HBG : Hid (¬ w.heap.size = g) := Lib.hid (Nat.ne_of_gt (Part.lt hW))
  clear hfit hW hN hs hO
  go_enter Tryz.func41, Tryz.ntmps41
  go_upto_region 1 with fail
  generalize hw1 : World.alloc w _ = w1 at *
  generalize w.heap.size = B at *
  clear hw1
  have HG2 : Hid (RPolW Fm oo (w1.setCell ⟨g, oo + 4, none⟩ (.int .u64 O)).drew g ⟨x.u, x.m, x.n, x.d, x.l, x.b, x.r, O⟩ N) := Lib.hid (HG1.out.put 4 (.int .u64 O)).drew
  have HS3 := Lib.hid (HSM.out.far (p := ⟨g, oo + 4, none⟩) HBG.out (.int .u64 O)).drew
  have HK2 := Lib.hid (HK.out.setCell (p := ⟨g, oo + 4, none⟩) (.inl rfl) (.int .u64 O)).drew
  have e4 : w1.cell? ⟨g, oo + 4, none⟩ = some (.int .u64 x.o) := HG1.out.cell 4
  have f4 := HG1.out.free 4
  refine wp_region_late (fun W => W.cell? ⟨g, oo + 4, none⟩ = some (.int .u64 x.o) ∧ W.cell? ⟨B, 6, none⟩ = some (.int .u64 s.o)) [10] (.yes 0 (.yes 1 (.yes 2 (.yes 3 (.yes 4 (.yes 5 (.yes 6 (.one 7 (.yes 8 (.yes 9 (.one 10 .nil))))))))))) (by kernel_rfl) (by kernel_rfl) (by kernel_rfl) (by kernel_rfl) ⟨HG1.out.drew.cell 4, HSM.out.drew.cell 6⟩ ?_
  (repeat (refine wpSchL_yes (v := ?_) rfl (fun _ _ _ h => h) (by rfl) ?_ ?_; rotate_left; (next => (intro w hSw; (try dsimp only at hSw); obtain ⟨hS1, hS2⟩ := hSw; go_simp; (try with_reducible rfl))); (try simp only [Act.put, List.setIfInBounds_toArray, List.set_cons_zero, List.set_cons_succ])))
  refine wpSchL_one ?_
  refine wpOneL_call rfl (by rfl) (fun K hK => ?_)
  go_simp
  refine (CA.out _).mono ?_
  rintro e w' ⟨rfl, rfl⟩
  refine hK.out _ _ ?_ (fun hHeld => ?_)
  · exact fun _ => ⟨HG1.out.drew.cell 4, HSM.out.drew.cell 6⟩
  clear hK K hHeld
  (try simp only [Act.put, List.setIfInBounds_toArray, List.set_cons_zero, List.set_cons_succ])
  (repeat (refine wpSchL_yes (v := ?_) rfl (fun _ _ _ h => h) (by rfl) ?_ ?_; rotate_left; (next => (intro w hSw; (try dsimp only at hSw); obtain ⟨hS1, hS2⟩ := hSw; go_simp; (try with_reducible rfl))); (try simp only [Act.put, List.setIfInBounds_toArray, List.set_cons_zero, List.set_cons_succ])))
  refine wpSchL_one ?_
  refine wpOneL_call rfl (by rfl) (fun K hK => ?_)
  go_simp
  refine hK.out _ _ ?_ (fun hHeld => ?_)
  · exact fun h => absurd h (by decide)
  clear hK K hHeld
  (try simp only [Act.put, List.setIfInBounds_toArray, List.set_cons_zero, List.set_cons_succ])
  refine wpSchL_nil ?_
  clear e4 f4 HG1 HSM HK CA
  generalize World.drew _ = w3 at *
  generalize hy : (⟨x.u, x.m, x.n, x.d, x.l, x.b, x.r, O⟩ : Pol) = y at *
  replace HR : Hid (0 ≤ y.r ∧ y.r ≤ 47) := Lib.hid (by rw [← hy]; exact HR.out)
  clear hy HYR
  have HUP := Lib.hid (HU.out y HY.out)
  clear HU HY
  have cu : w3.cell? ⟨g, oo, none⟩ = some (.bool y.u) := Part.cell0 HG2.out
  have cm : w3.cell? ⟨g, oo + 1, none⟩ = some (.bool y.m) := Part.cell HG2.out 1
  have cn : w3.cell? ⟨g, oo + 3, none⟩ = some (.int .i64 N) := Part.cell HG2.out 3
  have fn := Part.free HG2.out 3
  cases hu : y.u
  · rw [hu] at cu
    cases hm : y.m
    · rw [hm] at cm
      by_cases ho : 0 < s.o
      · have HE : Hid (updPol x st s = begPol y s) := Lib.hid (by rw [HUP.out]; simp [hu, hm, ho])
        have d0 : w3.cell? ⟨B, 0, none⟩ = some (.int .u64 s.n) := HS3.out.cell0
        have d1 : w3.cell? ⟨B, 1, none⟩ = some (.int .u64 s.d) := HS3.out.cell 1
        have d2 : w3.cell? ⟨B, 2, none⟩ = some (.int .u64 s.p) := HS3.out.cell 2
        have d3 : w3.cell? ⟨B, 3, none⟩ = some (.int .u64 s.i) := HS3.out.cell 3
        have d4 : w3.cell? ⟨B, 4, none⟩ = some (.int .u64 s.r) := HS3.out.cell 4
        have d5 : w3.cell? ⟨B, 5, none⟩ = some (.int .u64 s.a) := HS3.out.cell 5
        have d6 : w3.cell? ⟨B, 6, none⟩ = some (.int .u64 s.o) := HS3.out.cell 6
        have d7 : w3.cell? ⟨B, 7, none⟩ = some (.int .u64 s.f) := HS3.out.cell 7
        have d8 : w3.cell? ⟨B, 8, none⟩ = some (.bool s.l) := HS3.out.cell 8
        go_wp2_with fail
        refine (rpbegin_any g y s N _ HG2.out).mono ?_
        rintro e w5 ⟨⟨_, rfl⟩, h5, k5⟩
        have H5 := Lib.hid h5; have K5 := Lib.hid (HK2.out.trans k5)
        clear h5 k5 d0 d1 d2 d3 d4 d5 d6 d7 d8 cu cm cn fn
        go_wp2
        refine bodyPost_ret (results_none rfl _ _ _) rfl ?_
        exact ⟨⟨_, rfl⟩, ⟨HF.out, 0, by rw [HE.out]; exact H5.out, fun _ => by rw [HE.out]; rfl⟩, K5.out⟩
      · have HE : Hid (updPol x st s = y) := Lib.hid (by rw [HUP.out]; simp [hu, hm, ho])
        have hq : decide (0 < s.o) = false := by simp [ho]
        have d6 : w3.cell? ⟨B, 6, none⟩ = some (.int .u64 s.o) := HS3.out.cell 6
        go_wp2
        refine bodyPost_ret (results_none rfl _ _ _) rfl ?_
        exact ⟨⟨_, rfl⟩, ⟨HF.out, N, by rw [HE.out]; exact HG2.out, by rw [HE.out]; exact HND.out⟩, HK2.out⟩
    · rw [hm] at cm
      have HNR : Hid (N = y.r) := Lib.hid (HND.out (.inr hm))
      have d8 : w3.cell? ⟨B, 8, none⟩ = some (.bool s.l) := HS3.out.cell 8
      cases hl : s.l
      · rw [hl] at d8
        obtain ⟨M, hM⟩ : ∃ M, (if st = true then N + 1 else N) = M := ⟨_, rfl⟩
        have HMR : Hid (M = (rndPol y st).r) := Lib.hid (by rw [← hM, HNR.out]; rfl)
        have hNw : IntKind.i64.wrap (N + 1) = N + 1 := by
          obtain ⟨q1, q2⟩ := HR.out
          have := HNR.out
          rw [IntKind.wrap_i64]; omega
        go_upto_if 56 with fail
        go_cut [0] (fun s0 wx => s0 = .pointer (some ⟨g, oo, none⟩) ∧ RPolW Fm oo wx g y M ∧ Whole wx B 34 s.c ∧ Keep (fun k => k = g) w wx)
        case first =>
          cases st
          · obtain rfl : N = M := hM
            go_wp2
            go_meet
            exact ⟨rfl, HG2.out, HS3.out, HK2.out⟩
          · obtain rfl : N + 1 = M := hM
            go_wp2
            go_meet
            exact ⟨rfl, rpol_round HG2.out, HS3.out.far (p := ⟨g, oo + 3, none⟩) HBG.out _, HK2.out.setCell (p := ⟨g, oo + 3, none⟩) (.inl rfl) _⟩
        case rest =>
          obtain ⟨rfl, hG4, hS4, hK4⟩ := hcut
          clear HG2 HS3 HK2 cu cm cn fn d8 hM hNw
          have HG4 := Lib.hid hG4; have HS3 := Lib.hid hS4; have HK4 := Lib.hid hK4
          clear hG4 hS4 hK4
          generalize wc = w3 at *
          have HE0 : Hid (updPol x st s = samPol (rndPol y st) s) := Lib.hid (by rw [HUP.out]; simp [hu, hm, hl])
          generalize hz : rndPol y st = z at *
          have HG5 : Hid (RPolW Fm oo w3 g z M) := Lib.hid (by rw [← hz]; exact HG4.out)
          have HZN : Hid z.Nums := Lib.hid (hz ▸ HYN.out.rnd)
          have HX : Hid (z.u = false) := Lib.hid (hz ▸ hu)
          clear hz HG4
          have cn : w3.cell? ⟨g, oo + 3, none⟩ = some (.int .i64 M) := Part.cell HG5.out 3
          by_cases h16 : 16 < M
          · have HE : Hid (updPol x st s = forPol z) := Lib.hid (by rw [HE0.out]; simp [samPol, ← HMR.out, h16])
            go_wp2_with fail
            refine (rpstop_any g z M _ HG5.out).mono ?_
            rintro e w5 ⟨⟨_, rfl⟩, h5, k5⟩
            have H5 := Lib.hid h5; have K5 := Lib.hid (HK4.out.trans k5)
            clear h5 k5 cn
            go_wp2
            go_end0
            exact ⟨⟨_, rfl⟩, ⟨HF.out, M, by rw [HE.out]; exact H5.out, fun q => by rw [HE.out] at q; exact absurd q (by simp [forPol, HX.out])⟩, K5.out⟩
          · have q16 : decide (16 < M) = false := by simp [h16]
            by_cases h4 : 4 ≤ M
            · have d6 : w3.cell? ⟨B, 6, none⟩ = some (.int .u64 s.o) := HS3.out.cell 6
              by_cases ho : 0 < s.o
              · have HE : Hid (updPol x st s = endPol z s) := Lib.hid (by rw [HE0.out]; simp [samPol, ← HMR.out, h16, h4, ho])
                clear hl
                clear d6
                have d0 : w3.cell? ⟨B, 0, none⟩ = some (.int .u64 s.n) := HS3.out.cell0
                have d1 : w3.cell? ⟨B, 1, none⟩ = some (.int .u64 s.d) := HS3.out.cell 1
                have d2 : w3.cell? ⟨B, 2, none⟩ = some (.int .u64 s.p) := HS3.out.cell 2
                have d3 : w3.cell? ⟨B, 3, none⟩ = some (.int .u64 s.i) := HS3.out.cell 3
                have d4 : w3.cell? ⟨B, 4, none⟩ = some (.int .u64 s.r) := HS3.out.cell 4
                have d5 : w3.cell? ⟨B, 5, none⟩ = some (.int .u64 s.a) := HS3.out.cell 5
                have d6 : w3.cell? ⟨B, 6, none⟩ = some (.int .u64 s.o) := HS3.out.cell 6
                have d7 : w3.cell? ⟨B, 7, none⟩ = some (.int .u64 s.f) := HS3.out.cell 7
                have d8 : w3.cell? ⟨B, 8, none⟩ = some (.bool s.l) := HS3.out.cell 8
                go_wp2_with fail
                refine (rplook_any g z s M _ HG5.out HZN.out HSF.out).mono ?_
                rintro e w5 ⟨⟨_, rfl⟩, ⟨N', h5, n5⟩, k5⟩
                have H5 := Lib.hid h5; have N5 := Lib.hid (n5 HMR.out); have K5 := Lib.hid (HK4.out.trans k5)
                clear h5 n5 k5 cn d0 d1 d2 d3 d4 d5 d6 d7 d8
                go_wp2
                go_end0
                exact ⟨⟨_, rfl⟩, ⟨HF.out, N', by rw [HE.out]; exact H5.out, fun _ => by rw [HE.out]; exact N5.out⟩, K5.out⟩
              · have HE : Hid (updPol x st s = z) := Lib.hid (by rw [HE0.out]; simp [samPol, ← HMR.out, h16, ho])
                have hq : decide (0 < s.o) = false := by simp [ho]
                go_wp2
                go_end0
                exact ⟨⟨_, rfl⟩, ⟨HF.out, M, by rw [HE.out]; exact HG5.out, fun _ => by rw [HE.out]; exact HMR.out⟩, HK4.out⟩
            · have HE : Hid (updPol x st s = z) := Lib.hid (by rw [HE0.out]; simp [samPol, ← HMR.out, h16, h4])
              have hq : decide (4 ≤ M) = false := by simp [h4]
              go_wp2
              go_end0
              exact ⟨⟨_, rfl⟩, ⟨HF.out, M, by rw [HE.out]; exact HG5.out, fun _ => by rw [HE.out]; exact HMR.out⟩, HK4.out⟩
      · rw [hl] at d8
        have HE : Hid (updPol x st s = forPol y) := Lib.hid (by rw [HUP.out]; simp [hu, hm, hl])
        have HX : Hid (y.u = false) := Lib.hid hu
        go_wp2_with fail
        refine (rpstop_any g y N _ HG2.out).mono ?_
        rintro e w5 ⟨⟨_, rfl⟩, h5, k5⟩
        have H5 := Lib.hid h5; have K5 := Lib.hid (HK2.out.trans k5)
        clear h5 k5 cu cm cn fn d8
        go_wp2
        refine bodyPost_ret (results_none rfl _ _ _) rfl ?_
        exact ⟨⟨_, rfl⟩, ⟨HF.out, N, by rw [HE.out]; exact H5.out, fun q => by rw [HE.out] at q; exact absurd q (by simp [forPol, HX.out])⟩, K5.out⟩
  · rw [hu] at cu
    have HNR : Hid (N = y.r) := Lib.hid (HND.out (.inl hu))
    obtain ⟨M, hM⟩ : ∃ M, (if st = true then N + 1 else N) = M := ⟨_, rfl⟩
    have HMR : Hid (M = (rndPol y st).r ∧ M ≤ 48) := Lib.hid ⟨by rw [← hM, HNR.out]; rfl, by have := HR.out.2; have := HNR.out; rw [← hM]; split <;> omega⟩
    have hNw : IntKind.i64.wrap (N + 1) = N + 1 := by
      obtain ⟨q1, q2⟩ := HR.out
      have := HNR.out
      rw [IntKind.wrap_i64]; omega
    go_upto_if 20 with fail
    go_cut [0] (fun s0 wx => s0 = .pointer (some ⟨g, oo, none⟩) ∧ RPolW Fm oo wx g y M ∧ Keep (fun k => k = g) w wx)
    case first =>
      cases st
      · obtain rfl : N = M := hM
        go_wp2
        go_meet
        exact ⟨rfl, HG2.out, HK2.out⟩
      · obtain rfl : N + 1 = M := hM
        go_wp2
        go_meet
        exact ⟨rfl, rpol_round HG2.out, HK2.out.setCell (p := ⟨g, oo + 3, none⟩) (.inl rfl) _⟩
    case rest =>
      obtain ⟨rfl, hG4, hK4⟩ := hcut
      clear HG2 HS3 HK2 cu cm cn fn hM hNw
      have HG4 := Lib.hid hG4; have HK4 := Lib.hid hK4
      clear hG4 hK4
      generalize wc = w3 at *
      have HE0 : Hid (updPol x st s = outPol (rndPol y st)) := Lib.hid (by rw [HUP.out]; simp [hu])
      generalize hz : rndPol y st = z at *
      have HG5 : Hid (RPolW Fm oo w3 g z M) := Lib.hid (by rw [← hz]; exact HG4.out)
      clear hz HG4
      have cn : w3.cell? ⟨g, oo + 3, none⟩ = some (.int .i64 M) := Part.cell HG5.out 3
      by_cases h48 : 48 ≤ M
      · have HE : Hid (updPol x st s = ⟨false, false, z.n, z.d, z.l, 0, 0, z.o⟩) := Lib.hid (by
          have h1 := HMR.out.1; have h2 := HMR.out.2
          have : z.r = 48 := by omega
          rw [HE0.out]; simp [outPol, this])
        have c0 : w3.cell? ⟨g, oo, none⟩ = some (.bool z.u) := Part.cell0 HG5.out
        have f0 := Part.free0 HG5.out
        have P0 := Part.put0 HG5.out (.bool false)
        have c3 : (w3.setCell ⟨g, oo, none⟩ (.bool false)).cell? ⟨g, oo + 3, none⟩ = some (.int .i64 M) := P0.cell 3
        have f3 := P0.free 3
        have P3 : Hid (RPolW Fm oo ((w3.setCell ⟨g, oo, none⟩ (.bool false)).setCell ⟨g, oo + 3, none⟩ (.int .i64 0)) g ⟨false, z.m, z.n, z.d, z.l, z.b, z.r, z.o⟩ 0) := Lib.hid (P0.put 3 (.int .i64 0))
        have K3 := Lib.hid ((HK4.out.setCell (p := ⟨g, oo, none⟩) (.inl rfl) (.bool false)).setCell (p := ⟨g, oo + 3, none⟩) (.inl rfl) (.int .i64 0))
        clear P0
        go_wp2_with fail
        refine (rpstop_any g ⟨false, z.m, z.n, z.d, z.l, z.b, z.r, z.o⟩ 0 _ P3.out).mono ?_
        rintro e w5 ⟨⟨_, rfl⟩, h5, k5⟩
        have H5 := Lib.hid h5; have K5 := Lib.hid (K3.out.trans k5)
        clear h5 k5 cn c0 f0 c3 f3 P3 K3
        go_wp2
        refine bodyPost_ret (results_none rfl _ _ _) rfl ?_
        exact ⟨⟨_, rfl⟩, ⟨HF.out, 0, by rw [HE.out]; exact H5.out, fun _ => by rw [HE.out]⟩, K5.out⟩
      · have HE : Hid (updPol x st s = z) := Lib.hid (by
          have h1 := HMR.out.1
          have : z.r ≠ 48 := by omega
          rw [HE0.out]; simp [outPol, this])
        have q48 : decide (48 ≤ M) = false := by simp [h48]
        go_wp2
        refine bodyPost_ret (results_none rfl _ _ _) rfl ?_
        exact ⟨⟨_, rfl⟩, ⟨HF.out, M, by rw [HE.out]; exact HG5.out, fun _ => by rw [HE.out]; exact HMR.out.1⟩, HK4.out⟩

end Go.Proofs.YtbimmadllfgmiaaGreat
