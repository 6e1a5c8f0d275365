/-
  Package policer's Update leaves what the document says. Conditions: the Policer lies in memory as New makes it; the sample's numbers are of 64 bits.
  Package policer's Update leaves what the document says: the walk over samples. Conditions: the Policer lies in memory as New makes it; the sample's numbers are of 64 bits.
-/
import Derived.Test.YtcjgpkjhfbamfaaGreatJ01
import Derived.Test.YtcjgpkjhfbamfaaGreatJ11
set_option linter.unusedVariables false
set_option linter.unusedSimpArgs false
namespace Go.Proofs.YtcjgpkjhfbamfaaGreat
open Go.RowKit
set_option maxRecDepth 100000
variable {Fm : Fr} {oo : Nat}

set_option maxHeartbeats 2000000 in
theorem polend_any (g : Nat) (x : Pol) (s : Spl) (w : World) (h : PolW Fm oo w g x) (hx : x.Nums) (hs : s.Fit) : Calls Tryz.prog 87 #[.pointer (some ⟨g, oo, none⟩), s.v] w fun e w' => (∃ v, e = .returned v) ∧ PolW Fm oo w' g (endPol x s) ∧ Keep (fun k => k = g) w w' := by
  obtain ⟨V, hV⟩ : ∃ V, meaV x s = V := ⟨_, rfl⟩
  cases hmk : meaK x s
  · have HMK := Lib.hid hmk
    have HE : Hid (endPol x s = x) := Lib.hid (by simp [endPol, hmk])
    clear hmk
    have HX := Lib.hid hx
    have HS := Lib.hid hs
    have b0 : Hid (Num x.b) := Lib.hid hx.b
    have bV : Hid (Num V) := Lib.hid (hV ▸ hx.mea hs)
    have H1 := Lib.hid (Part.alloc h (.cells s.c 34))
    have HB := Lib.hid (Whole.new w 34 s.c)
    have HK := Lib.hid ((Keep.refl (fun k => k = g) w).alloc (.cells s.c 34))
    have HGL := Lib.hid (Part.lt h)
    have HVV := Lib.hid hV
    clear h hx hs hV
    go_enter Tryz.func87, Tryz.ntmps87
    go_wp2_with fail
    refine (polmea_any g x s _ H1.out HX.out HS.out).mono ?_
    rintro e w2 ⟨rfl, k2⟩
    have H2 := Lib.hid (Part.keep H1.out k2 id)
    have HB2 := Lib.hid (HB.out.keep k2 id)
    have HK2 := Lib.hid (HK.out.trans (k2.mono (fun _ h => h.elim)))
    clear k2 H1 HB HK
    rw [HMK.out]
    go_wp2
    refine bodyPost_ret (results_none rfl _ _ _) rfl ?_
    exact ⟨⟨_, rfl⟩, by rw [HE.out]; exact H2.out, HK2.out⟩
  · have HMK := Lib.hid hmk
    cases hnr : nearPol x.b V
    · have HNR := Lib.hid hnr
      have HE : Hid (endPol x s = begPol ⟨x.u, x.m, x.n, x.d, x.l, V, x.r, x.o⟩ s) := Lib.hid (by simp [endPol, hmk, hV, hnr])
      clear hmk hnr
      have HX := Lib.hid hx
      have HS := Lib.hid hs
      have b0 : Hid (Num x.b) := Lib.hid hx.b
      have bV : Hid (Num V) := Lib.hid (hV ▸ hx.mea hs)
      have H1 := Lib.hid (Part.alloc h (.cells s.c 34))
      have HB := Lib.hid (Whole.new w 34 s.c)
      have HK := Lib.hid ((Keep.refl (fun k => k = g) w).alloc (.cells s.c 34))
      have HGL := Lib.hid (Part.lt h)
      have HVV := Lib.hid hV
      clear h hx hs hV
      go_enter Tryz.func87, Tryz.ntmps87
      go_wp2_with fail
      refine (polmea_any g x s _ H1.out HX.out HS.out).mono ?_
      rintro e w2 ⟨rfl, k2⟩
      have H2 := Lib.hid (Part.keep H1.out k2 id)
      have HB2 := Lib.hid (HB.out.keep k2 id)
      have HK2 := Lib.hid (HK.out.trans (k2.mono (fun _ h => h.elim)))
      clear k2 H1 HB HK
      rw [HMK.out]
      rw [if_pos rfl, HVV.out]
      go_wp2_with fail
      refine (polnear_any g x V _ H2.out b0.out bV.out).mono ?_
      rintro e w3 ⟨rfl, k3⟩
      have H3 := Lib.hid (Part.keep H2.out k3 id)
      have HB3 := Lib.hid (HB2.out.keep k3 id)
      have HK3 := Lib.hid (HK2.out.trans (k3.mono (fun _ h => h.elim)))
      clear k3 H2 HB2 HK2
      rw [HNR.out]
      have c5 : w3.cell? ⟨g, oo + 5, none⟩ = some (.int .u64 x.b) := Part.cell H3.out 5
      have f5 := Part.free H3.out 5
      have P5 := Lib.hid (Part.put H3.out 5 (.int .u64 V))
      have HB4 := HB3.out.far (p := ⟨g, oo + 5, none⟩) (Nat.ne_of_gt HGL.out) (.int .u64 V)
      have HK4 := Lib.hid (HK3.out.setCell (p := ⟨g, oo + 5, none⟩) (.inl rfl) (.int .u64 V))
      have d0 : (w3.setCell ⟨g, oo + 5, none⟩ (.int .u64 V)).cell? ⟨w.heap.size, 0, none⟩ = some (.int .u64 s.n) := HB4.cell0
      have d1 : (w3.setCell ⟨g, oo + 5, none⟩ (.int .u64 V)).cell? ⟨w.heap.size, 1, none⟩ = some (.int .u64 s.d) := HB4.cell 1
      have d2 : (w3.setCell ⟨g, oo + 5, none⟩ (.int .u64 V)).cell? ⟨w.heap.size, 2, none⟩ = some (.int .u64 s.p) := HB4.cell 2
      have d3 : (w3.setCell ⟨g, oo + 5, none⟩ (.int .u64 V)).cell? ⟨w.heap.size, 3, none⟩ = some (.int .u64 s.i) := HB4.cell 3
      have d4 : (w3.setCell ⟨g, oo + 5, none⟩ (.int .u64 V)).cell? ⟨w.heap.size, 4, none⟩ = some (.int .u64 s.r) := HB4.cell 4
      have d5 : (w3.setCell ⟨g, oo + 5, none⟩ (.int .u64 V)).cell? ⟨w.heap.size, 5, none⟩ = some (.int .u64 s.a) := HB4.cell 5
      have d6 : (w3.setCell ⟨g, oo + 5, none⟩ (.int .u64 V)).cell? ⟨w.heap.size, 6, none⟩ = some (.int .u64 s.o) := HB4.cell 6
      have d7 : (w3.setCell ⟨g, oo + 5, none⟩ (.int .u64 V)).cell? ⟨w.heap.size, 7, none⟩ = some (.int .u64 s.f) := HB4.cell 7
      have d8 : (w3.setCell ⟨g, oo + 5, none⟩ (.int .u64 V)).cell? ⟨w.heap.size, 8, none⟩ = some (.bool s.l) := HB4.cell 8
      clear HB3 HB4 H3 HK3
      go_wp2_with fail
      refine (polbegin_any g ⟨x.u, x.m, x.n, x.d, x.l, V, x.r, x.o⟩ s _ P5.out).mono ?_
      rintro e w5 ⟨⟨_, rfl⟩, h5, k5⟩
      have H5 := Lib.hid h5; have K5 := Lib.hid (HK4.out.trans k5)
      clear h5 k5 d0 d1 d2 d3 d4 d5 d6 d7 d8 c5 f5 P5 HK4
      go_wp2
      go_end0
      exact ⟨⟨_, rfl⟩, by rw [HE.out]; exact H5.out, K5.out⟩
    · have HNR := Lib.hid hnr
      have HE : Hid (endPol x s = ⟨true, x.m, x.n, x.d, x.l, halfPol x.b V, 0, x.o⟩) := Lib.hid (by simp [endPol, hmk, hV, hnr])
      clear hmk hnr
      have HX := Lib.hid hx
      have HS := Lib.hid hs
      have b0 : Hid (Num x.b) := Lib.hid hx.b
      have bV : Hid (Num V) := Lib.hid (hV ▸ hx.mea hs)
      have H1 := Lib.hid (Part.alloc h (.cells s.c 34))
      have HB := Lib.hid (Whole.new w 34 s.c)
      have HK := Lib.hid ((Keep.refl (fun k => k = g) w).alloc (.cells s.c 34))
      have HGL := Lib.hid (Part.lt h)
      have HVV := Lib.hid hV
      clear h hx hs hV
      go_enter Tryz.func87, Tryz.ntmps87
      go_wp2_with fail
      refine (polmea_any g x s _ H1.out HX.out HS.out).mono ?_
      rintro e w2 ⟨rfl, k2⟩
      have H2 := Lib.hid (Part.keep H1.out k2 id)
      have HB2 := Lib.hid (HB.out.keep k2 id)
      have HK2 := Lib.hid (HK.out.trans (k2.mono (fun _ h => h.elim)))
      clear k2 H1 HB HK
      rw [HMK.out]
      rw [if_pos rfl, HVV.out]
      go_wp2_with fail
      refine (polnear_any g x V _ H2.out b0.out bV.out).mono ?_
      rintro e w3 ⟨rfl, k3⟩
      have H3 := Lib.hid (Part.keep H2.out k3 id)
      have HK3 := Lib.hid (HK2.out.trans (k3.mono (fun _ h => h.elim)))
      clear k3 H2 HB2 HK2
      rw [HNR.out]
      have c5 : w3.cell? ⟨g, oo + 5, none⟩ = some (.int .u64 x.b) := Part.cell H3.out 5
      go_wp2_with fail
      refine (polhalf_any _ _ _ b0.out bV.out).mono ?_
      rintro e w' ⟨rfl, rfl⟩
      generalize halfPol x.b V = Z at *
      have f5 := Part.free H3.out 5
      have P5 := Part.put H3.out 5 (.int .u64 Z)
      have c0 : (w3.setCell ⟨g, oo + 5, none⟩ (.int .u64 Z)).cell? ⟨g, oo, none⟩ = some (.bool x.u) := P5.cell0
      have f0 := P5.free0
      have P0 := P5.put0 (.bool true)
      have c6 : ((w3.setCell ⟨g, oo + 5, none⟩ (.int .u64 Z)).setCell ⟨g, oo, none⟩ (.bool true)).cell? ⟨g, oo + 6, none⟩ = some (.int .u64 x.r) := P0.cell 6
      have f6 := P0.free 6
      have HP := Lib.hid (P0.put 6 (.int .u64 0))
      have HK4 := Lib.hid (((HK3.out.setCell (p := ⟨g, oo + 5, none⟩) (.inl rfl) (.int .u64 Z)).setCell (p := ⟨g, oo, none⟩) (.inl rfl) (.bool true)).setCell (p := ⟨g, oo + 6, none⟩) (.inl rfl) (.int .u64 0))
      clear P5 P0 H3 HK3
      go_wp2
      refine bodyPost_ret (results_none rfl _ _ _) rfl ?_
      exact ⟨⟨_, rfl⟩, by rw [HE.out]; exact HP.out, HK4.out⟩
end Go.Proofs.YtcjgpkjhfbamfaaGreat
set_option linter.unusedVariables false
set_option linter.unusedSimpArgs false
namespace Go.Proofs.YtcjgpkjhfbamfaaGreat
open Go.RowKit
set_option maxRecDepth 100000
variable {Fm : Fr} {oo : Nat}

abbrev lokC (st : Bool) (s : Spl) : Array Value := #[.bool st, .int .u64 s.n, .int .u64 s.d, .int .u64 s.p, .int .u64 s.i, .int .u64 s.r, .int .u64 s.a, .int .u64 s.o, .int .u64 s.f, .bool s.l]
set_option maxHeartbeats 4000000 in
theorem polwalk_any (g b : Nat) (x : Pol) (st : Bool) (s : Spl) (w : World) (h : PolAt Fm oo w g x) (hb : Whole w b 105 (lokC st s)) (hs : s.Fit) :
    Calls Tryz.prog 53 #[.pointer (some ⟨g, oo, none⟩), .slice (some ⟨b, 0, none⟩) 1 1] w fun e w' => (∃ v, e = .returned v) ∧ PolW Fm oo w' g (updPol x st s) ∧ Keep (fun k => k = g) w w' := by
  obtain ⟨O, hO⟩ : ∃ O, satAdd x.o s.o = O := ⟨_, rfl⟩
  have CA := Lib.hid (add_any x.o s.o h.fit.nums.o.1 h.fit.nums.o.2 hs.o.1 hs.o.2); rw [hO] at CA
  have HY : Hid (losPol x s = ⟨x.u, x.m, x.n, x.d, x.l, x.b, x.r, O⟩) := Lib.hid (by rw [← hO]; rfl)
  have HSF := Lib.hid hs
  have HYN : Hid ((⟨x.u, x.m, x.n, x.d, x.l, x.b, x.r, O⟩ : Pol).Nums) := Lib.hid (HY.out ▸ h.fit.nums.los hs)
  have HR0 : Hid (0 ≤ (⟨x.u, x.m, x.n, x.d, x.l, x.b, x.r, O⟩ : Pol).r) := Lib.hid h.fit.r0
  have HR1 : Hid ((⟨x.u, x.m, x.n, x.d, x.l, x.b, x.r, O⟩ : Pol).r ≤ 1000) := Lib.hid (by have := h.fit.r1; show x.r ≤ 1000; omega)
  have HU : Hid (∀ y, losPol x s = y → updPol x st s = if y.u = true then outPol (rndPol y st) else if y.m = false then (if 0 < s.o then begPol y s else y) else if s.l = true then forPol y else samPol (rndPol y st) s) := Lib.hid (fun y e => by subst e; rfl)
  have b0 : w.cell? ⟨b, 0, none⟩ = some (.bool st) := hb.cell0
  have b1 : w.cell? ⟨b, 1, none⟩ = some (.int .u64 s.n) := hb.cell 1
  have b2 : w.cell? ⟨b, 2, none⟩ = some (.int .u64 s.d) := hb.cell 2
  have b3 : w.cell? ⟨b, 3, none⟩ = some (.int .u64 s.p) := hb.cell 3
  have b4 : w.cell? ⟨b, 4, none⟩ = some (.int .u64 s.i) := hb.cell 4
  have b5 : w.cell? ⟨b, 5, none⟩ = some (.int .u64 s.r) := hb.cell 5
  have b6 : w.cell? ⟨b, 6, none⟩ = some (.int .u64 s.a) := hb.cell 6
  have b7 : w.cell? ⟨b, 7, none⟩ = some (.int .u64 s.o) := hb.cell 7
  have b8 : w.cell? ⟨b, 8, none⟩ = some (.int .u64 s.f) := hb.cell 8
  have b9 : w.cell? ⟨b, 9, none⟩ = some (.bool s.l) := hb.cell 9
  have HL := Lib.hid ((Whole.new w 105 (lokC st s)).alloc (.cells s.c 34))
  have HSM : Hid (Whole ((w.alloc (.cells (lokC st s) 105)).alloc (.cells s.c 34)) (w.heap.size + 1) 34 s.c) := Lib.hid (by
    have := Whole.new (w.alloc (.cells (lokC st s) 105)) 34 s.c
    rwa [World.size_alloc] at this)
  have HG1 : Hid (Part Fm oo ((w.alloc (.cells (lokC st s) 105)).alloc (.cells s.c 34)) g (polC x).toList) := Lib.hid ((Part.alloc h.whole (.cells (lokC st s) 105)).alloc (.cells s.c 34))
  have HK := Lib.hid (((Keep.refl (fun k => k = g) w).alloc (.cells (lokC st s) 105)).alloc (.cells s.c 34))
  have HCG : Hid (¬ w.heap.size + 1 = g) := Lib.hid (by have := h.lt; omega)
  have HBG : Hid (¬ w.heap.size = g) := Lib.hid (by have := h.lt; omega)
  clear h hb hs hO
  go_enter Tryz.func53, Tryz.ntmps53
  go_wp2
  go_step3
  go_wp2
  go_step3
  go_wp2
  refine wp_loop_rounds 2 ?_
  rw [rounds_succ]
  go_upto_region 4 with fail
  generalize hw1 : World.alloc (World.alloc _ _) _ = w1 at *
  generalize w.heap.size + 1 = C at *
  generalize w.heap.size = B at *
  clear hw1 b0 b1 b2 b3 b4 b5 b6 b7 b8 b9
  have HG2 : Hid (PolW Fm oo (w1.setCell ⟨g, oo + 7, none⟩ (.int .u64 O)).drew g ⟨x.u, x.m, x.n, x.d, x.l, x.b, x.r, O⟩) := Lib.hid (HG1.out.put 7 (.int .u64 O)).drew
  have HL2 := Lib.hid (HL.out.far (p := ⟨g, oo + 7, none⟩) HBG.out (.int .u64 O)).drew
  have HSM2 := Lib.hid (HSM.out.far (p := ⟨g, oo + 7, none⟩) HCG.out (.int .u64 O)).drew
  have HK2 := Lib.hid (HK.out.setCell (p := ⟨g, oo + 7, none⟩) (.inl rfl) (.int .u64 O)).drew
  have e7 : w1.cell? ⟨g, oo + 7, none⟩ = some (.int .u64 x.o) := HG1.out.cell 7
  have f7 := HG1.out.free 7
  refine wp_region_late (fun W => W.cell? ⟨g, oo + 7, none⟩ = some (.int .u64 x.o) ∧ W.cell? ⟨C, 6, none⟩ = some (.int .u64 s.o)) [10] (.yes 0 (.yes 1 (.yes 2 (.yes 3 (.yes 4 (.yes 5 (.yes 6 (.one 7 (.yes 8 (.yes 9 (.one 10 .nil))))))))))) (by kernel_rfl) (by kernel_rfl) (by kernel_rfl) (by kernel_rfl) ⟨HG1.out.drew.cell 7, HSM.out.drew.cell 6⟩ ?_
  (repeat (refine wpSchL_yes (v := ?_) rfl (fun _ _ _ h => h) (by rfl) ?_ ?_; rotate_left; (next => (intro w hSw; (try dsimp only at hSw); obtain ⟨hS1, hS2⟩ := hSw; go_simp; (try with_reducible rfl))); (try simp only [Act.put, List.setIfInBounds_toArray, List.set_cons_zero, List.set_cons_succ])))
  refine wpSchL_one ?_
  refine wpOneL_call rfl (by rfl) (fun K hK => ?_)
  go_simp
  refine (CA.out _).mono ?_
  rintro e w' ⟨rfl, rfl⟩
  refine hK.out _ _ ?_ (fun hHeld => ?_)
  · exact fun _ => ⟨HG1.out.drew.cell 7, HSM.out.drew.cell 6⟩
  clear hK K hHeld
  (try simp only [Act.put, List.setIfInBounds_toArray, List.set_cons_zero, List.set_cons_succ])
  (repeat (refine wpSchL_yes (v := ?_) rfl (fun _ _ _ h => h) (by rfl) ?_ ?_; rotate_left; (next => (intro w hSw; (try dsimp only at hSw); obtain ⟨hS1, hS2⟩ := hSw; go_simp; (try with_reducible rfl))); (try simp only [Act.put, List.setIfInBounds_toArray, List.set_cons_zero, List.set_cons_succ])))
  refine wpSchL_one ?_
  refine wpOneL_call rfl (by rfl) (fun K hK => ?_)
  go_simp
  refine hK.out _ _ ?_ (fun hHeld => ?_)
  · exact fun h => absurd h (by decide)
  clear hK K hHeld
  (try simp only [Act.put, List.setIfInBounds_toArray, List.set_cons_zero, List.set_cons_succ])
  refine wpSchL_nil ?_
  clear e7 f7 HG1 HL HSM HK CA
  generalize World.drew _ = w2 at *
  generalize hy : (⟨x.u, x.m, x.n, x.d, x.l, x.b, x.r, O⟩ : Pol) = y at *
  replace HR0 : Hid (0 ≤ y.r) := Lib.hid (by rw [← hy]; exact HR0.out)
  replace HR1 : Hid (y.r ≤ 1000) := Lib.hid (by rw [← hy]; exact HR1.out)
  clear hy
  have HUP := Lib.hid (HU.out y HY.out)
  clear HU HY
  have cu : w2.cell? ⟨g, oo, none⟩ = some (.bool y.u) := Part.cell0 HG2.out
  have cm : w2.cell? ⟨g, oo + 1, none⟩ = some (.bool y.m) := Part.cell HG2.out 1
  cases hu : y.u
  · rw [hu] at cu
    cases hm : y.m
    · rw [hm] at cm
      have d6 : w2.cell? ⟨C, 6, none⟩ = some (.int .u64 s.o) := HSM2.out.cell 6
      by_cases ho : 0 < s.o
      · have HE : Hid (updPol x st s = begPol y s) := Lib.hid (by rw [HUP.out]; simp [hu, hm, ho])
        have d0 : w2.cell? ⟨C, 0, none⟩ = some (.int .u64 s.n) := HSM2.out.cell0
        have d1 : w2.cell? ⟨C, 1, none⟩ = some (.int .u64 s.d) := HSM2.out.cell 1
        have d2 : w2.cell? ⟨C, 2, none⟩ = some (.int .u64 s.p) := HSM2.out.cell 2
        have d3 : w2.cell? ⟨C, 3, none⟩ = some (.int .u64 s.i) := HSM2.out.cell 3
        have d4 : w2.cell? ⟨C, 4, none⟩ = some (.int .u64 s.r) := HSM2.out.cell 4
        have d5 : w2.cell? ⟨C, 5, none⟩ = some (.int .u64 s.a) := HSM2.out.cell 5
        have d7 : w2.cell? ⟨C, 7, none⟩ = some (.int .u64 s.f) := HSM2.out.cell 7
        have d8 : w2.cell? ⟨C, 8, none⟩ = some (.bool s.l) := HSM2.out.cell 8
        go_wp2_with fail
        refine (polbegin_any g y s _ HG2.out).mono ?_
        rintro e w3 ⟨⟨_, rfl⟩, h3, k3⟩
        have H3 := Lib.hid h3; have K3 := Lib.hid (HK2.out.trans k3)
        clear h3 k3 d0 d1 d2 d3 d4 d5 d6 d7 d8 cu cm HG2 HL2 HSM2 HK2
        go_wp2
        rw [rounds_succ]
        go_wp2
        (try rw [Exit.noGoto_normal])
        go_end0
        exact ⟨⟨_, rfl⟩, by rw [HE.out]; exact H3.out, K3.out⟩
      · have HE : Hid (updPol x st s = y) := Lib.hid (by rw [HUP.out]; simp [hu, hm, ho])
        have hq : decide (0 < s.o) = false := by simp [ho]
        go_wp2
        rw [rounds_succ]
        go_wp2
        (try rw [Exit.noGoto_normal])
        go_end0
        exact ⟨⟨_, rfl⟩, by rw [HE.out]; exact HG2.out, HK2.out⟩
    · rw [hm] at cm
      have d8 : w2.cell? ⟨C, 8, none⟩ = some (.bool s.l) := HSM2.out.cell 8
      cases hl : s.l
      · rw [hl] at d8
        have d0 : w2.cell? ⟨B, 0, none⟩ = some (.bool st) := HL2.out.cell0
        go_wp2_with fail
        refine (polround_any g y st _ HG2.out HR0.out HR1.out).mono ?_
        rintro e w3 ⟨⟨_, rfl⟩, h3, k3⟩
        have HG3 := Lib.hid h3
        have HS3 := Lib.hid (HSM2.out.keep k3 HCG.out)
        have HK3 := Lib.hid (HK2.out.trans k3)
        clear h3 k3 HG2 HL2 HSM2 HK2 d0 cu cm
        generalize hz : rndPol y st = z at *
        have HZ := Lib.hid hz; clear hz
        have cr : w3.cell? ⟨g, oo + 6, none⟩ = some (.int .u64 z.r) := Part.cell HG3.out 6
        have HZN : Hid z.Nums := Lib.hid (HZ.out ▸ HYN.out.rnd)
        have HE0 : Hid (updPol x st s = samPol z s) := Lib.hid (by rw [HUP.out]; simp [hu, hm, hl, HZ.out])
        by_cases h16 : 16 < z.r
        · have HE : Hid (updPol x st s = forPol z) := Lib.hid (by rw [HE0.out]; simp [samPol, h16])
          go_wp2_with fail
          refine (polforget_any g z _ HG3.out).mono ?_
          rintro e w4 ⟨⟨_, rfl⟩, h4, k4⟩
          have H4 := Lib.hid h4; have K4 := Lib.hid (HK3.out.trans k4)
          clear h4 k4 cr HG3 HS3 HK3
          go_wp2
          rw [rounds_succ]
          go_wp2
          (try rw [Exit.noGoto_normal])
          go_end0
          exact ⟨⟨_, rfl⟩, by rw [HE.out]; exact H4.out, K4.out⟩
        · have q16 : decide (16 < z.r) = false := by simp [h16]
          by_cases h4 : 4 ≤ z.r
          · have e6 : w3.cell? ⟨C, 6, none⟩ = some (.int .u64 s.o) := HS3.out.cell 6
            by_cases ho : 0 < s.o
            · have HE : Hid (updPol x st s = endPol z s) := Lib.hid (by rw [HE0.out]; simp [samPol, h16, h4, ho])
              have e0 : w3.cell? ⟨C, 0, none⟩ = some (.int .u64 s.n) := HS3.out.cell0
              have e1 : w3.cell? ⟨C, 1, none⟩ = some (.int .u64 s.d) := HS3.out.cell 1
              have e2 : w3.cell? ⟨C, 2, none⟩ = some (.int .u64 s.p) := HS3.out.cell 2
              have e3 : w3.cell? ⟨C, 3, none⟩ = some (.int .u64 s.i) := HS3.out.cell 3
              have e4 : w3.cell? ⟨C, 4, none⟩ = some (.int .u64 s.r) := HS3.out.cell 4
              have e5 : w3.cell? ⟨C, 5, none⟩ = some (.int .u64 s.a) := HS3.out.cell 5
              have e7 : w3.cell? ⟨C, 7, none⟩ = some (.int .u64 s.f) := HS3.out.cell 7
              have e8 : w3.cell? ⟨C, 8, none⟩ = some (.bool s.l) := HS3.out.cell 8
              clear hl
              go_wp2_with fail
              refine (polend_any g z s _ HG3.out HZN.out HSF.out).mono ?_
              rintro e w4 ⟨⟨_, rfl⟩, h4, k4⟩
              have H4 := Lib.hid h4; have K4 := Lib.hid (HK3.out.trans k4)
              clear h4 k4 cr HG3 HS3 HK3 e0 e1 e2 e3 e4 e5 e6 e7 e8
              go_wp2
              rw [rounds_succ]
              go_wp2
              (try rw [Exit.noGoto_normal])
              go_end0
              exact ⟨⟨_, rfl⟩, by rw [HE.out]; exact H4.out, K4.out⟩
            · have HE : Hid (updPol x st s = z) := Lib.hid (by rw [HE0.out]; simp [samPol, h16, ho])
              have hq : decide (0 < s.o) = false := by simp [ho]
              go_wp2
              rw [rounds_succ]
              go_wp2
              (try rw [Exit.noGoto_normal])
              go_end0
              exact ⟨⟨_, rfl⟩, by rw [HE.out]; exact HG3.out, HK3.out⟩
          · have HE : Hid (updPol x st s = z) := Lib.hid (by rw [HE0.out]; simp [samPol, h16, h4])
            have hq : decide (4 ≤ z.r) = false := by simp [h4]
            go_wp2
            rw [rounds_succ]
            go_wp2
            (try rw [Exit.noGoto_normal])
            go_end0
            exact ⟨⟨_, rfl⟩, by rw [HE.out]; exact HG3.out, HK3.out⟩
      · rw [hl] at d8
        have HE : Hid (updPol x st s = forPol y) := Lib.hid (by rw [HUP.out]; simp [hu, hm, hl])
        go_wp2_with fail
        refine (polforget_any g y _ HG2.out).mono ?_
        rintro e w3 ⟨⟨_, rfl⟩, h3, k3⟩
        have H3 := Lib.hid h3; have K3 := Lib.hid (HK2.out.trans k3)
        clear h3 k3 d8 cu cm HG2 HL2 HSM2 HK2
        go_wp2
        rw [rounds_succ]
        go_wp2
        (try rw [Exit.noGoto_normal])
        go_end0
        exact ⟨⟨_, rfl⟩, by rw [HE.out]; exact H3.out, K3.out⟩
  · rw [hu] at cu
    have d0 : w2.cell? ⟨B, 0, none⟩ = some (.bool st) := HL2.out.cell0
    go_wp2_with fail
    refine (polround_any g y st _ HG2.out HR0.out HR1.out).mono ?_
    rintro e w3 ⟨⟨_, rfl⟩, h3, k3⟩
    have HG3 := Lib.hid h3
    have HS3 := Lib.hid (HSM2.out.keep k3 HCG.out)
    have HK3 := Lib.hid (HK2.out.trans k3)
    clear h3 k3 HG2 HL2 HSM2 HK2 d0 cu cm
    generalize hz : rndPol y st = z at *
    have HZ := Lib.hid hz; clear hz
    have cr : w3.cell? ⟨g, oo + 6, none⟩ = some (.int .u64 z.r) := Part.cell HG3.out 6
    have HE0 : Hid (updPol x st s = outPol z) := Lib.hid (by rw [HUP.out]; simp [hu, HZ.out])
    by_cases h48 : z.r = 48
    · have HE : Hid (updPol x st s = ⟨false, false, z.n, z.d, z.l, 0, 0, z.o⟩) := Lib.hid (by rw [HE0.out]; simp [outPol, h48])
      have q48 : (z.r == 48) = true := by simp [h48]
      have c0 : w3.cell? ⟨g, oo, none⟩ = some (.bool z.u) := Part.cell0 HG3.out
      have f0 := Part.free0 HG3.out
      have P0 : Hid (PolW Fm oo (w3.setCell ⟨g, oo, none⟩ (.bool false)) g ⟨false, z.m, z.n, z.d, z.l, z.b, z.r, z.o⟩) := Lib.hid (Part.put0 HG3.out (.bool false))
      have K4 := Lib.hid (HK3.out.setCell (p := ⟨g, oo, none⟩) (.inl rfl) (.bool false))
      clear h48
      go_wp2_with fail
      refine (polforget_any g ⟨false, z.m, z.n, z.d, z.l, z.b, z.r, z.o⟩ _ P0.out).mono ?_
      rintro e w4 ⟨⟨_, rfl⟩, h4, k4⟩
      have H5 := Lib.hid h4; have K5 := Lib.hid (K4.out.trans k4)
      clear h4 k4 cr c0 f0 P0 K4 HG3 HS3 HK3
      go_wp2
      rw [rounds_succ]
      go_wp2
      (try rw [Exit.noGoto_normal])
      go_end0
      exact ⟨⟨_, rfl⟩, by rw [HE.out]; exact H5.out, K5.out⟩
    · have HE : Hid (updPol x st s = z) := Lib.hid (by rw [HE0.out]; simp [outPol, h48])
      have q48 : (z.r == 48) = false := by simp [h48]
      clear h48
      go_wp2
      rw [rounds_succ]
      go_wp2
      (try rw [Exit.noGoto_normal])
      go_end0
      exact ⟨⟨_, rfl⟩, by rw [HE.out]; exact HG3.out, HK3.out⟩

set_option maxHeartbeats 1000000 in
theorem polupd_any (g : Nat) (x : Pol) (st : Bool) (s : Spl) (w : World) (h : PolAt Fm oo w g x) (hs : s.Fit) :
    Calls Tryz.prog 30 #[.pointer (some ⟨g, oo, none⟩), .bool st, s.v] w fun e w' => (∃ v, e = .returned v) ∧ PolAt Fm oo w' g (updPol x st s) ∧ Keep (fun k => k = g) w w' := by
  have HS := Lib.hid hs
  have HF := Lib.hid (h.fit.upd (st := st) hs)
  have HG : Hid (PolAt Fm oo ((w.alloc (.cells s.c 34)).alloc (.cells (lokC st s) 105)) g x) := Lib.hid ⟨Part.alloc (Part.alloc h.whole (.cells s.c 34)) (.cells (lokC st s) 105), h.fit⟩
  have HB : Hid (Whole ((w.alloc (.cells s.c 34)).alloc (.cells (lokC st s) 105)) (w.heap.size + 1) 105 (lokC st s)) := Lib.hid (by
    have := Whole.new (w.alloc (.cells s.c 34)) 105 (lokC st s)
    rwa [World.size_alloc] at this)
  have HK := Lib.hid (((Keep.refl (fun k => k = g) w).alloc (.cells s.c 34)).alloc (.cells (lokC st s) 105))
  clear h hs
  go_enter Tryz.func30, Tryz.ntmps30
  go_wp2_with fail
  refine (polwalk_any _ _ _ st s _ HG.out HB.out HS.out).mono ?_
  rintro e w' ⟨⟨_, rfl⟩, h', k'⟩
  have H' := Lib.hid h'; have K' := Lib.hid (HK.out.trans k')
  clear h' k' HG HB HK
  go_wp2
  go_end0
  exact ⟨⟨_, rfl⟩, ⟨H'.out, HF.out⟩, K'.out⟩
end Go.Proofs.YtcjgpkjhfbamfaaGreat
