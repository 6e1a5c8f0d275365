/-
  The document's own policer (canterref08.Policer): Update leaves what package policer's does. Conditions: the sample's numbers are of 64 bits.
  The document's own window (canterref08.Win): NewWin, Reset, beats, set, shift, and canterref01.Sub: what they answer and leave. Conditions: the window lies in memory as NewWin makes it; the numbers are of their kind.
-/
import Derived.Test.YtcjgpkjhfbamfaaGreatJ01
import Derived.Test.YtcjgpkjhfbamfaaGreatJ18
import Derived.Test.YtcjgpkjhfbamfaaGreatJ02
import Derived.Test.YtcjgpkjhfbamfaaGreatChecked
import Derived.WalkSpells
import Derived.WalkLawsBesides
import Derived.LoopTactic
import Derived.Deep.QuietTactic
import Derived.Deep.DeepCutAuto
import Derived.Deep.Draws
import Derived.BigQuiet
set_option linter.unusedVariables false
set_option linter.unusedSimpArgs false
namespace Go.Proofs.YtcjgpkjhfbamfaaGreat
open Go.RowKit
set_option maxRecDepth 100000
variable {Fm : Fr} {oo : Nat}
/-- A Policer of canterref08 behind its round. -/
theorem rpol_round {w : World} {g : Nat} {y : Pol} {N : Int} (h : RPolW Fm oo w g y N) : RPolW Fm oo (w.setCell ⟨g, oo + 3, none⟩ (.int .i64 (N + 1))) g y (N + 1) := Part.put h 3 (.int .i64 (N + 1))
set_option maxHeartbeats 4000000 in
set_option maxRecDepth 100000 in
theorem rpupd_any (g : Nat) (x : Pol) (st : Bool) (s : Spl) (w : World) (h : RPolAt Fm oo w g x) (hs : s.Fit) :
    Calls Tryz.prog 41 #[.pointer (some ⟨g, oo, none⟩), .bool st, s.v] w fun e w' => (∃ v, e = .returned v) ∧ RPolAt Fm oo w' g (updPol x st s) ∧ Keep (fun k => k = g) w w' := by
  have HF := Lib.hid (h.fit.upd (st := st) hs)
  obtain ⟨hfit, N, hW, hN⟩ := h
  obtain ⟨O, hO⟩ : ∃ O, satAdd x.o s.o = O := ⟨_, rfl⟩
  have CA := Lib.hid (radd_any x.o s.o hfit.nums.o.1 hfit.nums.o.2 hs.o.1 hs.o.2); rw [hO] at CA
  have HY : Hid (losPol x s = ⟨x.u, x.m, x.n, x.d, x.l, x.b, x.r, O⟩) := Lib.hid (by rw [← hO]; rfl)
  have HSF := Lib.hid hs
  have HYN : Hid ((⟨x.u, x.m, x.n, x.d, x.l, x.b, x.r, O⟩ : Pol).Nums) := Lib.hid (HY.out ▸ hfit.nums.los hs)
  have HYR : Hid ((⟨x.u, x.m, x.n, x.d, x.l, x.b, x.r, O⟩ : Pol).r = x.r) := Lib.hid rfl
  have HR : Hid (0 ≤ x.r ∧ x.r ≤ 47) := Lib.hid ⟨hfit.r0, hfit.r1⟩
  have HND : Hid ((⟨x.u, x.m, x.n, x.d, x.l, x.b, x.r, O⟩ : Pol).u = true ∨ (⟨x.u, x.m, x.n, x.d, x.l, x.b, x.r, O⟩ : Pol).m = true → N = (⟨x.u, x.m, x.n, x.d, x.l, x.b, x.r, O⟩ : Pol).r) := Lib.hid hN
  have HU : Hid (∀ y, losPol x s = y → updPol x st s = if y.u = true then outPol (rndPol y st) else if y.m = false then (if 0 < s.o then begPol y s else y) else if s.l = true then forPol y else samPol (rndPol y st) s) := Lib.hid (fun y e => by subst e; rfl)
  have HSM := Lib.hid (Whole.new w 34 s.c)
  have HG1 := Lib.hid (Part.alloc hW (.cells s.c 34))
  have HK := Lib.hid ((Keep.refl (fun k => k = g) w).alloc (.cells s.c 34))
  have HBG : Hid (¬ w.heap.size = g) := Lib.hid (Nat.ne_of_gt (Part.lt hW))
  clear hfit hW hN hs hO
  go_enter Tryz.func41, Tryz.ntmps41
  go_upto_region 1 with fail
  generalize hw1 : World.alloc w _ = w1 at *
  generalize w.heap.size = B at *
  clear hw1
  have HG2 : Hid (RPolW Fm oo (w1.setCell ⟨g, oo + 4, none⟩ (.int .u64 O)).drew g ⟨x.u, x.m, x.n, x.d, x.l, x.b, x.r, O⟩ N) := Lib.hid (HG1.out.put 4 (.int .u64 O)).drew
  have HS3 := Lib.hid (HSM.out.far (p := ⟨g, oo + 4, none⟩) HBG.out (.int .u64 O)).drew
  have HK2 := Lib.hid (HK.out.setCell (p := ⟨g, oo + 4, none⟩) (.inl rfl) (.int .u64 O)).drew
  have e4 : w1.cell? ⟨g, oo + 4, none⟩ = some (.int .u64 x.o) := HG1.out.cell 4
  have f4 := HG1.out.free 4
  refine wp_region_late (fun W => W.cell? ⟨g, oo + 4, none⟩ = some (.int .u64 x.o) ∧ W.cell? ⟨B, 6, none⟩ = some (.int .u64 s.o)) [10] (.yes 0 (.yes 1 (.yes 2 (.yes 3 (.yes 4 (.yes 5 (.yes 6 (.one 7 (.yes 8 (.yes 9 (.one 10 .nil))))))))))) (by kernel_rfl) (by kernel_rfl) (by kernel_rfl) (by kernel_rfl) ⟨HG1.out.drew.cell 4, HSM.out.drew.cell 6⟩ ?_
  (repeat (refine wpSchL_yes (v := ?_) rfl (fun _ _ _ h => h) (by rfl) ?_ ?_; rotate_left; (next => (intro w hSw; (try dsimp only at hSw); obtain ⟨hS1, hS2⟩ := hSw; go_simp; (try with_reducible rfl))); (try simp only [Act.put, List.setIfInBounds_toArray, List.set_cons_zero, List.set_cons_succ])))
  refine wpSchL_one ?_
  refine wpOneL_call rfl (by rfl) (fun K hK => ?_)
  go_simp
  refine (CA.out _).mono ?_
  rintro e w' ⟨rfl, rfl⟩
  refine hK.out _ _ ?_ (fun hHeld => ?_)
  · exact fun _ => ⟨HG1.out.drew.cell 4, HSM.out.drew.cell 6⟩
  clear hK K hHeld
  (try simp only [Act.put, List.setIfInBounds_toArray, List.set_cons_zero, List.set_cons_succ])
  (repeat (refine wpSchL_yes (v := ?_) rfl (fun _ _ _ h => h) (by rfl) ?_ ?_; rotate_left; (next => (intro w hSw; (try dsimp only at hSw); obtain ⟨hS1, hS2⟩ := hSw; go_simp; (try with_reducible rfl))); (try simp only [Act.put, List.setIfInBounds_toArray, List.set_cons_zero, List.set_cons_succ])))
  refine wpSchL_one ?_
  refine wpOneL_call rfl (by rfl) (fun K hK => ?_)
  go_simp
  refine hK.out _ _ ?_ (fun hHeld => ?_)
  · exact fun h => absurd h (by decide)
  clear hK K hHeld
  (try simp only [Act.put, List.setIfInBounds_toArray, List.set_cons_zero, List.set_cons_succ])
  refine wpSchL_nil ?_
  clear e4 f4 HG1 HSM HK CA
  generalize World.drew _ = w3 at *
  generalize hy : (⟨x.u, x.m, x.n, x.d, x.l, x.b, x.r, O⟩ : Pol) = y at *
  replace HR : Hid (0 ≤ y.r ∧ y.r ≤ 47) := Lib.hid (by rw [← hy]; exact HR.out)
  clear hy HYR
  have HUP := Lib.hid (HU.out y HY.out)
  clear HU HY
  have cu : w3.cell? ⟨g, oo, none⟩ = some (.bool y.u) := Part.cell0 HG2.out
  have cm : w3.cell? ⟨g, oo + 1, none⟩ = some (.bool y.m) := Part.cell HG2.out 1
  have cn : w3.cell? ⟨g, oo + 3, none⟩ = some (.int .i64 N) := Part.cell HG2.out 3
  have fn := Part.free HG2.out 3
  cases hu : y.u
  · rw [hu] at cu
    cases hm : y.m
    · rw [hm] at cm
      by_cases ho : 0 < s.o
      · have HE : Hid (updPol x st s = begPol y s) := Lib.hid (by rw [HUP.out]; simp [hu, hm, ho])
        have d0 : w3.cell? ⟨B, 0, none⟩ = some (.int .u64 s.n) := HS3.out.cell0
        have d1 : w3.cell? ⟨B, 1, none⟩ = some (.int .u64 s.d) := HS3.out.cell 1
        have d2 : w3.cell? ⟨B, 2, none⟩ = some (.int .u64 s.p) := HS3.out.cell 2
        have d3 : w3.cell? ⟨B, 3, none⟩ = some (.int .u64 s.i) := HS3.out.cell 3
        have d4 : w3.cell? ⟨B, 4, none⟩ = some (.int .u64 s.r) := HS3.out.cell 4
        have d5 : w3.cell? ⟨B, 5, none⟩ = some (.int .u64 s.a) := HS3.out.cell 5
        have d6 : w3.cell? ⟨B, 6, none⟩ = some (.int .u64 s.o) := HS3.out.cell 6
        have d7 : w3.cell? ⟨B, 7, none⟩ = some (.int .u64 s.f) := HS3.out.cell 7
        have d8 : w3.cell? ⟨B, 8, none⟩ = some (.bool s.l) := HS3.out.cell 8
        go_wp2_with fail
        refine (rpbegin_any g y s N _ HG2.out).mono ?_
        rintro e w5 ⟨⟨_, rfl⟩, h5, k5⟩
        have H5 := Lib.hid h5; have K5 := Lib.hid (HK2.out.trans k5)
        clear h5 k5 d0 d1 d2 d3 d4 d5 d6 d7 d8 cu cm cn fn
        go_wp2
        refine bodyPost_ret (results_none rfl _ _ _) rfl ?_
        exact ⟨⟨_, rfl⟩, ⟨HF.out, 0, by rw [HE.out]; exact H5.out, fun _ => by rw [HE.out]; rfl⟩, K5.out⟩
      · have HE : Hid (updPol x st s = y) := Lib.hid (by rw [HUP.out]; simp [hu, hm, ho])
        have hq : decide (0 < s.o) = false := by simp [ho]
        have d6 : w3.cell? ⟨B, 6, none⟩ = some (.int .u64 s.o) := HS3.out.cell 6
        go_wp2
        refine bodyPost_ret (results_none rfl _ _ _) rfl ?_
        exact ⟨⟨_, rfl⟩, ⟨HF.out, N, by rw [HE.out]; exact HG2.out, by rw [HE.out]; exact HND.out⟩, HK2.out⟩
    · rw [hm] at cm
      have HNR : Hid (N = y.r) := Lib.hid (HND.out (.inr hm))
      have d8 : w3.cell? ⟨B, 8, none⟩ = some (.bool s.l) := HS3.out.cell 8
      cases hl : s.l
      · rw [hl] at d8
        obtain ⟨M, hM⟩ : ∃ M, (if st = true then N + 1 else N) = M := ⟨_, rfl⟩
        have HMR : Hid (M = (rndPol y st).r) := Lib.hid (by rw [← hM, HNR.out]; rfl)
        have hNw : IntKind.i64.wrap (N + 1) = N + 1 := by
          obtain ⟨q1, q2⟩ := HR.out
          have := HNR.out
          rw [IntKind.wrap_i64]; omega
        go_upto_if 56 with fail
        go_cut [0] (fun s0 wx => s0 = .pointer (some ⟨g, oo, none⟩) ∧ RPolW Fm oo wx g y M ∧ Whole wx B 34 s.c ∧ Keep (fun k => k = g) w wx)
        case first =>
          cases st
          · obtain rfl : N = M := hM
            go_wp2
            go_meet
            exact ⟨rfl, HG2.out, HS3.out, HK2.out⟩
          · obtain rfl : N + 1 = M := hM
            go_wp2
            go_meet
            exact ⟨rfl, rpol_round HG2.out, HS3.out.far (p := ⟨g, oo + 3, none⟩) HBG.out _, HK2.out.setCell (p := ⟨g, oo + 3, none⟩) (.inl rfl) _⟩
        case rest =>
          obtain ⟨rfl, hG4, hS4, hK4⟩ := hcut
          clear HG2 HS3 HK2 cu cm cn fn d8 hM hNw
          have HG4 := Lib.hid hG4; have HS3 := Lib.hid hS4; have HK4 := Lib.hid hK4
          clear hG4 hS4 hK4
          generalize wc = w3 at *
          have HE0 : Hid (updPol x st s = samPol (rndPol y st) s) := Lib.hid (by rw [HUP.out]; simp [hu, hm, hl])
          generalize hz : rndPol y st = z at *
          have HG5 : Hid (RPolW Fm oo w3 g z M) := Lib.hid (by rw [← hz]; exact HG4.out)
          have HZN : Hid z.Nums := Lib.hid (hz ▸ HYN.out.rnd)
          have HX : Hid (z.u = false) := Lib.hid (hz ▸ hu)
          clear hz HG4
          have cn : w3.cell? ⟨g, oo + 3, none⟩ = some (.int .i64 M) := Part.cell HG5.out 3
          by_cases h16 : 16 < M
          · have HE : Hid (updPol x st s = forPol z) := Lib.hid (by rw [HE0.out]; simp [samPol, ← HMR.out, h16])
            go_wp2_with fail
            refine (rpstop_any g z M _ HG5.out).mono ?_
            rintro e w5 ⟨⟨_, rfl⟩, h5, k5⟩
            have H5 := Lib.hid h5; have K5 := Lib.hid (HK4.out.trans k5)
            clear h5 k5 cn
            go_wp2
            go_end0
            exact ⟨⟨_, rfl⟩, ⟨HF.out, M, by rw [HE.out]; exact H5.out, fun q => by rw [HE.out] at q; exact absurd q (by simp [forPol, HX.out])⟩, K5.out⟩
          · have q16 : decide (16 < M) = false := by simp [h16]
            by_cases h4 : 4 ≤ M
            · have d6 : w3.cell? ⟨B, 6, none⟩ = some (.int .u64 s.o) := HS3.out.cell 6
              by_cases ho : 0 < s.o
              · have HE : Hid (updPol x st s = endPol z s) := Lib.hid (by rw [HE0.out]; simp [samPol, ← HMR.out, h16, h4, ho])
                clear hl
                clear d6
                have d0 : w3.cell? ⟨B, 0, none⟩ = some (.int .u64 s.n) := HS3.out.cell0
                have d1 : w3.cell? ⟨B, 1, none⟩ = some (.int .u64 s.d) := HS3.out.cell 1
                have d2 : w3.cell? ⟨B, 2, none⟩ = some (.int .u64 s.p) := HS3.out.cell 2
                have d3 : w3.cell? ⟨B, 3, none⟩ = some (.int .u64 s.i) := HS3.out.cell 3
                have d4 : w3.cell? ⟨B, 4, none⟩ = some (.int .u64 s.r) := HS3.out.cell 4
                have d5 : w3.cell? ⟨B, 5, none⟩ = some (.int .u64 s.a) := HS3.out.cell 5
                have d6 : w3.cell? ⟨B, 6, none⟩ = some (.int .u64 s.o) := HS3.out.cell 6
                have d7 : w3.cell? ⟨B, 7, none⟩ = some (.int .u64 s.f) := HS3.out.cell 7
                have d8 : w3.cell? ⟨B, 8, none⟩ = some (.bool s.l) := HS3.out.cell 8
                go_wp2_with fail
                refine (rplook_any g z s M _ HG5.out HZN.out HSF.out).mono ?_
                rintro e w5 ⟨⟨_, rfl⟩, ⟨N', h5, n5⟩, k5⟩
                have H5 := Lib.hid h5; have N5 := Lib.hid (n5 HMR.out); have K5 := Lib.hid (HK4.out.trans k5)
                clear h5 n5 k5 cn d0 d1 d2 d3 d4 d5 d6 d7 d8
                go_wp2
                go_end0
                exact ⟨⟨_, rfl⟩, ⟨HF.out, N', by rw [HE.out]; exact H5.out, fun _ => by rw [HE.out]; exact N5.out⟩, K5.out⟩
              · have HE : Hid (updPol x st s = z) := Lib.hid (by rw [HE0.out]; simp [samPol, ← HMR.out, h16, ho])
                have hq : decide (0 < s.o) = false := by simp [ho]
                go_wp2
                go_end0
                exact ⟨⟨_, rfl⟩, ⟨HF.out, M, by rw [HE.out]; exact HG5.out, fun _ => by rw [HE.out]; exact HMR.out⟩, HK4.out⟩
            · have HE : Hid (updPol x st s = z) := Lib.hid (by rw [HE0.out]; simp [samPol, ← HMR.out, h16, h4])
              have hq : decide (4 ≤ M) = false := by simp [h4]
              go_wp2
              go_end0
              exact ⟨⟨_, rfl⟩, ⟨HF.out, M, by rw [HE.out]; exact HG5.out, fun _ => by rw [HE.out]; exact HMR.out⟩, HK4.out⟩
      · rw [hl] at d8
        have HE : Hid (updPol x st s = forPol y) := Lib.hid (by rw [HUP.out]; simp [hu, hm, hl])
        have HX : Hid (y.u = false) := Lib.hid hu
        go_wp2_with fail
        refine (rpstop_any g y N _ HG2.out).mono ?_
        rintro e w5 ⟨⟨_, rfl⟩, h5, k5⟩
        have H5 := Lib.hid h5; have K5 := Lib.hid (HK2.out.trans k5)
        clear h5 k5 cu cm cn fn d8
        go_wp2
        refine bodyPost_ret (results_none rfl _ _ _) rfl ?_
        exact ⟨⟨_, rfl⟩, ⟨HF.out, N, by rw [HE.out]; exact H5.out, fun q => by rw [HE.out] at q; exact absurd q (by simp [forPol, HX.out])⟩, K5.out⟩
  · rw [hu] at cu
    have HNR : Hid (N = y.r) := Lib.hid (HND.out (.inl hu))
    obtain ⟨M, hM⟩ : ∃ M, (if st = true then N + 1 else N) = M := ⟨_, rfl⟩
    have HMR : Hid (M = (rndPol y st).r ∧ M ≤ 48) := Lib.hid ⟨by rw [← hM, HNR.out]; rfl, by have := HR.out.2; have := HNR.out; rw [← hM]; split <;> omega⟩
    have hNw : IntKind.i64.wrap (N + 1) = N + 1 := by
      obtain ⟨q1, q2⟩ := HR.out
      have := HNR.out
      rw [IntKind.wrap_i64]; omega
    go_upto_if 20 with fail
    go_cut [0] (fun s0 wx => s0 = .pointer (some ⟨g, oo, none⟩) ∧ RPolW Fm oo wx g y M ∧ Keep (fun k => k = g) w wx)
    case first =>
      cases st
      · obtain rfl : N = M := hM
        go_wp2
        go_meet
        exact ⟨rfl, HG2.out, HK2.out⟩
      · obtain rfl : N + 1 = M := hM
        go_wp2
        go_meet
        exact ⟨rfl, rpol_round HG2.out, HK2.out.setCell (p := ⟨g, oo + 3, none⟩) (.inl rfl) _⟩
    case rest =>
      obtain ⟨rfl, hG4, hK4⟩ := hcut
      clear HG2 HS3 HK2 cu cm cn fn hM hNw
      have HG4 := Lib.hid hG4; have HK4 := Lib.hid hK4
      clear hG4 hK4
      generalize wc = w3 at *
      have HE0 : Hid (updPol x st s = outPol (rndPol y st)) := Lib.hid (by rw [HUP.out]; simp [hu])
      generalize hz : rndPol y st = z at *
      have HG5 : Hid (RPolW Fm oo w3 g z M) := Lib.hid (by rw [← hz]; exact HG4.out)
      clear hz HG4
      have cn : w3.cell? ⟨g, oo + 3, none⟩ = some (.int .i64 M) := Part.cell HG5.out 3
      by_cases h48 : 48 ≤ M
      · have HE : Hid (updPol x st s = ⟨false, false, z.n, z.d, z.l, 0, 0, z.o⟩) := Lib.hid (by
          have h1 := HMR.out.1; have h2 := HMR.out.2
          have : z.r = 48 := by omega
          rw [HE0.out]; simp [outPol, this])
        have c0 : w3.cell? ⟨g, oo, none⟩ = some (.bool z.u) := Part.cell0 HG5.out
        have f0 := Part.free0 HG5.out
        have P0 := Part.put0 HG5.out (.bool false)
        have c3 : (w3.setCell ⟨g, oo, none⟩ (.bool false)).cell? ⟨g, oo + 3, none⟩ = some (.int .i64 M) := P0.cell 3
        have f3 := P0.free 3
        have P3 : Hid (RPolW Fm oo ((w3.setCell ⟨g, oo, none⟩ (.bool false)).setCell ⟨g, oo + 3, none⟩ (.int .i64 0)) g ⟨false, z.m, z.n, z.d, z.l, z.b, z.r, z.o⟩ 0) := Lib.hid (P0.put 3 (.int .i64 0))
        have K3 := Lib.hid ((HK4.out.setCell (p := ⟨g, oo, none⟩) (.inl rfl) (.bool false)).setCell (p := ⟨g, oo + 3, none⟩) (.inl rfl) (.int .i64 0))
        clear P0
        go_wp2_with fail
        refine (rpstop_any g ⟨false, z.m, z.n, z.d, z.l, z.b, z.r, z.o⟩ 0 _ P3.out).mono ?_
        rintro e w5 ⟨⟨_, rfl⟩, h5, k5⟩
        have H5 := Lib.hid h5; have K5 := Lib.hid (K3.out.trans k5)
        clear h5 k5 cn c0 f0 c3 f3 P3 K3
        go_wp2
        refine bodyPost_ret (results_none rfl _ _ _) rfl ?_
        exact ⟨⟨_, rfl⟩, ⟨HF.out, 0, by rw [HE.out]; exact H5.out, fun _ => by rw [HE.out]⟩, K5.out⟩
      · have HE : Hid (updPol x st s = z) := Lib.hid (by
          have h1 := HMR.out.1
          have : z.r ≠ 48 := by omega
          rw [HE0.out]; simp [outPol, this])
        have q48 : decide (48 ≤ M) = false := by simp [h48]
        go_wp2
        refine bodyPost_ret (results_none rfl _ _ _) rfl ?_
        exact ⟨⟨_, rfl⟩, ⟨HF.out, M, by rw [HE.out]; exact HG5.out, fun _ => by rw [HE.out]; exact HMR.out.1⟩, HK4.out⟩

end Go.Proofs.YtcjgpkjhfbamfaaGreat
namespace Go.Proofs.YtcjgpkjhfbamfaaGreat
open Go.RowKit
set_option maxRecDepth 100000

def winC (win : Int) (x : Tri) (least : Bool) : Array Value := #[.int .u64 win, .int .u64 x.t0, .int .u64 x.t1, .int .u64 x.t2, .int .u64 x.v0, .int .u64 x.v1, .int .u64 x.v2, .int .u64 x.l, .bool least]
/-- The document's window. -/
structure WinAt (w : World) (g : Nat) (win : Int) (x : Tri) (least : Bool) : Prop where
  whole : Whole w g 94 (winC win x least)
  fit : x.Fit
  win : Num win
section
variable {w w' : World} {g : Nat} {win t : Int} {x : Tri} {least : Bool} {R : Nat → Prop}
theorem WinAt.keep (h : WinAt w g win x least) (hk : Keep R w w') (hg : ¬ R g) : WinAt w' g win x least := ⟨h.whole.keep hk hg, h.fit, h.win⟩
theorem WinAt.kept (h : WinAt w g win x least) (hk : Keep (fun _ => False) w w') : WinAt w' g win x least := h.keep hk id
theorem WinAt.drewN (h : WinAt w g win x least) (m : Nat) : WinAt (w.drewN m) g win x least := ⟨h.whole.drewN m, h.fit, h.win⟩
theorem WinAt.drew (h : WinAt w g win x least) : WinAt w.drew g win x least := ⟨h.whole.drew, h.fit, h.win⟩
theorem WinAt.alloc (h : WinAt w g win x least) (o : Obj) : WinAt (w.alloc o) g win x least := ⟨h.whole.alloc o, h.fit, h.win⟩
theorem WinAt.lt (h : WinAt w g win x least) : g < w.heap.size := h.whole.lt
theorem WinAt.last (h : WinAt w g win x least) (ht : x.l ≤ t) (ht1 : t ≤ 18446744073709551615) : WinAt (w.setCell ⟨g, 7, none⟩ (.int .u64 t)) g win (lastT x t) least :=
  ⟨h.whole.put 7 _, h.fit.last ht ht1, h.win⟩
end

theorem rsub_is {a b : Int} (h : b ≤ a) (hb : 0 ≤ b) (ha : a ≤ 18446744073709551615) (w : World) : Calls Tryz.prog 43 #[.int .u64 a, .int .u64 b] w fun e w' => e = .returned (.int .u64 (a - b)) ∧ w = w' := by
  go_enter Tryz.func43, Tryz.ntmps43
  go_wp2
  go_ret
  exact ⟨rfl, rfl⟩

set_option maxHeartbeats 400000 in
theorem rnew_false (win : Int) (hw : Num win) (w : World) : Calls Tryz.prog 19 #[.int .u64 win, .bool false] w fun e w' => e = .returned (.pointer (some ⟨w.heap.size, 0, none⟩)) ∧ WinAt w' w.heap.size win (newT 0) false ∧ Keep (fun _ => False) w w' := by
  have HW := Lib.hid hw; clear hw
  go_enter Tryz.func19, Tryz.ntmps19
  go_wp2
  go_ret
  exact ⟨rfl, ⟨Whole.new _ _ _, fit_new ⟨by omega, by omega⟩, HW.out⟩, (Keep.refl _ _).alloc _⟩
set_option maxHeartbeats 400000 in
theorem rnew_true (win : Int) (hw : Num win) (w : World) : Calls Tryz.prog 19 #[.int .u64 win, .bool true] w fun e w' => e = .returned (.pointer (some ⟨w.heap.size, 0, none⟩)) ∧ WinAt w' w.heap.size win (newT 18446744073709551615) true ∧ Keep (fun _ => False) w w' := by
  have HW := Lib.hid hw; clear hw
  go_enter Tryz.func19, Tryz.ntmps19
  go_wp2
  go_ret
  exact ⟨rfl, ⟨Whole.new _ _ _, fit_new ⟨by omega, by omega⟩, HW.out⟩, (Keep.refl _ _).alloc _⟩

set_option maxHeartbeats 400000 in
theorem beats0_is {f : Bool} {win v : Int} {x : Tri} {least : Bool} (g : Nat) (w : World) (h : WinAt w g win x least) (hf : decide (beatsT least v x.v0) = f) :
    Calls Tryz.prog 73 #[.pointer (some ⟨g, 0, none⟩), .int .u64 v, .int .i64 0] w fun e w' => e = .returned (.bool f) ∧ w = w' := by
  subst hf
  have c1 : w.cell? ⟨g, 4, none⟩ = some (.int .u64 x.v0) := h.whole.cell 4
  have c2 : w.cell? ⟨g, 8, none⟩ = some (.bool least) := h.whole.cell 8
  clear h
  generalize x.v0 = u at *
  cases least
  · have HE : Hid (decide (beatsT false v u) = decide (u ≤ v)) := Lib.hid rfl
    go_enter Tryz.func73, Tryz.ntmps73
    go_wp2
    go_ret
    exact ⟨ret_b HE.out.symm, rfl⟩
  · have HE : Hid (decide (beatsT true v u) = decide (v ≤ u)) := Lib.hid rfl
    go_enter Tryz.func73, Tryz.ntmps73
    go_wp2
    go_ret
    exact ⟨ret_b HE.out.symm, rfl⟩
set_option maxHeartbeats 400000 in
theorem beats1_is {f : Bool} {win v : Int} {x : Tri} {least : Bool} (g : Nat) (w : World) (h : WinAt w g win x least) (hf : decide (beatsT least v x.v1) = f) :
    Calls Tryz.prog 73 #[.pointer (some ⟨g, 0, none⟩), .int .u64 v, .int .i64 1] w fun e w' => e = .returned (.bool f) ∧ w = w' := by
  subst hf
  have c1 : w.cell? ⟨g, 5, none⟩ = some (.int .u64 x.v1) := h.whole.cell 5
  have c2 : w.cell? ⟨g, 8, none⟩ = some (.bool least) := h.whole.cell 8
  clear h
  generalize x.v1 = u at *
  cases least
  · have HE : Hid (decide (beatsT false v u) = decide (u ≤ v)) := Lib.hid rfl
    go_enter Tryz.func73, Tryz.ntmps73
    go_wp2
    go_ret
    exact ⟨ret_b HE.out.symm, rfl⟩
  · have HE : Hid (decide (beatsT true v u) = decide (v ≤ u)) := Lib.hid rfl
    go_enter Tryz.func73, Tryz.ntmps73
    go_wp2
    go_ret
    exact ⟨ret_b HE.out.symm, rfl⟩
set_option maxHeartbeats 400000 in
theorem beats2_is {f : Bool} {win v : Int} {x : Tri} {least : Bool} (g : Nat) (w : World) (h : WinAt w g win x least) (hf : decide (beatsT least v x.v2) = f) :
    Calls Tryz.prog 73 #[.pointer (some ⟨g, 0, none⟩), .int .u64 v, .int .i64 2] w fun e w' => e = .returned (.bool f) ∧ w = w' := by
  subst hf
  have c1 : w.cell? ⟨g, 6, none⟩ = some (.int .u64 x.v2) := h.whole.cell 6
  have c2 : w.cell? ⟨g, 8, none⟩ = some (.bool least) := h.whole.cell 8
  clear h
  generalize x.v2 = u at *
  cases least
  · have HE : Hid (decide (beatsT false v u) = decide (u ≤ v)) := Lib.hid rfl
    go_enter Tryz.func73, Tryz.ntmps73
    go_wp2
    go_ret
    exact ⟨ret_b HE.out.symm, rfl⟩
  · have HE : Hid (decide (beatsT true v u) = decide (v ≤ u)) := Lib.hid rfl
    go_enter Tryz.func73, Tryz.ntmps73
    go_wp2
    go_ret
    exact ⟨ret_b HE.out.symm, rfl⟩
set_option maxHeartbeats 1000000 in
theorem set1_is {win t v : Int} {x : Tri} {least : Bool} (g : Nat) (w : World) (h : WinAt w g win x least) (h0 : 0 ≤ t) (ht : t ≤ x.l) (hv : Num v) :
    Calls Tryz.prog 75 #[.pointer (some ⟨g, 0, none⟩), .int .i64 1, .int .u64 t, .int .u64 v] w fun e w' => (∃ v, e = .returned v) ∧ WinAt w' g win ⟨x.l, x.t0, x.v0, t, v, x.t2, x.v2⟩ least ∧ Keep (fun k => k = g) w w' := by
  have f1 := h.whole.free 2
  have c1 : w.cell? ⟨g, 2, none⟩ = some (.int .u64 x.t1) := h.whole.cell 2
  have f2 := (h.whole.put 2 (.int .u64 t)).free 5
  have c2 : (w.setCell ⟨g, 2, none⟩ (.int .u64 t)).cell? ⟨g, 5, none⟩ = some (.int .u64 x.v1) := (h.whole.put 2 (.int .u64 t)).cell 5
  have H2 : Hid (WinAt (((w.setCell ⟨g, 2, none⟩ (.int .u64 t)).setCell ⟨g, 5, none⟩ (.int .u64 v)).drew) g win ⟨x.l, x.t0, x.v0, t, v, x.t2, x.v2⟩ least) := Lib.hid ⟨((h.whole.put 2 (.int .u64 t)).put 5 (.int .u64 v)).drew, ⟨h.fit.l1, h.fit.a0, ⟨h0, ht⟩, h.fit.a2, h.fit.b0, hv, h.fit.b2⟩, h.win⟩
  have K2 : Hid (Keep (fun k => k = g) w (((w.setCell ⟨g, 2, none⟩ (.int .u64 t)).setCell ⟨g, 5, none⟩ (.int .u64 v)).drew)) := Lib.hid (((Keep.refl (fun k => k = g) w).setCell (p := ⟨g, 2, none⟩) (.inl rfl) _).setCell (p := ⟨g, 5, none⟩) (.inl rfl) _).drew
  clear h hv h0 ht
  go_enter Tryz.func75, Tryz.ntmps75
  go_wp2
  refine wp_region_sch (fun _ => True) [(true, 0), (true, 1), (true, 2), (true, 3), (true, 4), (true, 5), (true, 6), (true, 7), (true, 8), (true, 10), (true, 11), (false, 9), (true, 12), (false, 13)] (by kernel_rfl) (by kernel_rfl) (by kernel_rfl) (by kernel_rfl) trivial ?_
  (repeat (refine wpSch_yes (v := ?_) rfl (fun _ _ _ h => h) (by rfl) ?_ ?_; rotate_left; (next => (intro w hSw; go_simp; (try with_reducible rfl))); (try simp only [Act.put, List.setIfInBounds_toArray, List.set_cons_zero, List.set_cons_succ])))
  refine wpSch_call rfl (by rfl) (fun K hK => ?_)
  go_simp
  refine hK.out _ _ trivial (fun hHeld => ?_)
  clear hK K hHeld
  (try simp only [Act.put, List.setIfInBounds_toArray, List.set_cons_zero, List.set_cons_succ])
  (repeat (refine wpSch_yes (v := ?_) rfl (fun _ _ _ h => h) (by rfl) ?_ ?_; rotate_left; (next => (intro w hSw; go_simp; (try with_reducible rfl))); (try simp only [Act.put, List.setIfInBounds_toArray, List.set_cons_zero, List.set_cons_succ])))
  refine wpSch_call rfl (by rfl) (fun K hK => ?_)
  go_simp
  refine hK.out _ _ trivial (fun hHeld => ?_)
  clear hK K hHeld
  (try simp only [Act.put, List.setIfInBounds_toArray, List.set_cons_zero, List.set_cons_succ])
  refine wpSch_nil ?_
  go_wp2
  go_end0
  exact ⟨⟨_, rfl⟩, H2.out, K2.out⟩
set_option maxHeartbeats 1000000 in
theorem set2_is {win t v : Int} {x : Tri} {least : Bool} (g : Nat) (w : World) (h : WinAt w g win x least) (h0 : 0 ≤ t) (ht : t ≤ x.l) (hv : Num v) :
    Calls Tryz.prog 75 #[.pointer (some ⟨g, 0, none⟩), .int .i64 2, .int .u64 t, .int .u64 v] w fun e w' => (∃ v, e = .returned v) ∧ WinAt w' g win ⟨x.l, x.t0, x.v0, x.t1, x.v1, t, v⟩ least ∧ Keep (fun k => k = g) w w' := by
  have f1 := h.whole.free 3
  have c1 : w.cell? ⟨g, 3, none⟩ = some (.int .u64 x.t2) := h.whole.cell 3
  have f2 := (h.whole.put 3 (.int .u64 t)).free 6
  have c2 : (w.setCell ⟨g, 3, none⟩ (.int .u64 t)).cell? ⟨g, 6, none⟩ = some (.int .u64 x.v2) := (h.whole.put 3 (.int .u64 t)).cell 6
  have H2 : Hid (WinAt (((w.setCell ⟨g, 3, none⟩ (.int .u64 t)).setCell ⟨g, 6, none⟩ (.int .u64 v)).drew) g win ⟨x.l, x.t0, x.v0, x.t1, x.v1, t, v⟩ least) := Lib.hid ⟨((h.whole.put 3 (.int .u64 t)).put 6 (.int .u64 v)).drew, ⟨h.fit.l1, h.fit.a0, h.fit.a1, ⟨h0, ht⟩, h.fit.b0, h.fit.b1, hv⟩, h.win⟩
  have K2 : Hid (Keep (fun k => k = g) w (((w.setCell ⟨g, 3, none⟩ (.int .u64 t)).setCell ⟨g, 6, none⟩ (.int .u64 v)).drew)) := Lib.hid (((Keep.refl (fun k => k = g) w).setCell (p := ⟨g, 3, none⟩) (.inl rfl) _).setCell (p := ⟨g, 6, none⟩) (.inl rfl) _).drew
  clear h hv h0 ht
  go_enter Tryz.func75, Tryz.ntmps75
  go_wp2
  refine wp_region_sch (fun _ => True) [(true, 0), (true, 1), (true, 2), (true, 3), (true, 4), (true, 5), (true, 6), (true, 7), (true, 8), (true, 10), (true, 11), (false, 9), (true, 12), (false, 13)] (by kernel_rfl) (by kernel_rfl) (by kernel_rfl) (by kernel_rfl) trivial ?_
  (repeat (refine wpSch_yes (v := ?_) rfl (fun _ _ _ h => h) (by rfl) ?_ ?_; rotate_left; (next => (intro w hSw; go_simp; (try with_reducible rfl))); (try simp only [Act.put, List.setIfInBounds_toArray, List.set_cons_zero, List.set_cons_succ])))
  refine wpSch_call rfl (by rfl) (fun K hK => ?_)
  go_simp
  refine hK.out _ _ trivial (fun hHeld => ?_)
  clear hK K hHeld
  (try simp only [Act.put, List.setIfInBounds_toArray, List.set_cons_zero, List.set_cons_succ])
  (repeat (refine wpSch_yes (v := ?_) rfl (fun _ _ _ h => h) (by rfl) ?_ ?_; rotate_left; (next => (intro w hSw; go_simp; (try with_reducible rfl))); (try simp only [Act.put, List.setIfInBounds_toArray, List.set_cons_zero, List.set_cons_succ])))
  refine wpSch_call rfl (by rfl) (fun K hK => ?_)
  go_simp
  refine hK.out _ _ trivial (fun hHeld => ?_)
  clear hK K hHeld
  (try simp only [Act.put, List.setIfInBounds_toArray, List.set_cons_zero, List.set_cons_succ])
  refine wpSch_nil ?_
  go_wp2
  go_end0
  exact ⟨⟨_, rfl⟩, H2.out, K2.out⟩
end Go.Proofs.YtcjgpkjhfbamfaaGreat
