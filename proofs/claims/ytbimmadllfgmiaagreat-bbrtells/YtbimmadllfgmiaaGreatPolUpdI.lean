/-
  Package policer's Update leaves what the document says. Conditions: the Policer lies in memory as New makes it; the sample's numbers are of 64 bits.
-/
import Derived.Test.YtbimmadllfgmiaaGreatPart
import Derived.Test.YtbimmadllfgmiaaGreatPolI
set_option linter.unusedVariables false
set_option linter.unusedSimpArgs false
namespace Go.Proofs.YtbimmadllfgmiaaGreat
open Go.RowKit
set_option maxRecDepth 100000
variable {Fm : Fr} {oo : Nat}

set_option maxHeartbeats 2000000 in
theorem polend_any (g : Nat) (x : Pol) (s : Spl) (w : World) (h : PolW Fm oo w g x) (hx : x.Nums) (hs : s.Fit) : Calls Tryz.prog 87 #[.pointer (some ⟨g, oo, none⟩), s.v] w fun e w' => (∃ v, e = .returned v) ∧ PolW Fm oo w' g (endPol x s) ∧ Keep (fun k => k = g) w w' := by
  obtain ⟨V, hV⟩ : ∃ V, meaV x s = V := ⟨_, rfl⟩
  cases hmk : meaK x s
  · have HMK := Lib.hid hmk
    have HE : Hid (endPol x s = x) := Lib.hid (by simp [endPol, hmk])
    clear hmk
    have HX := Lib.hid hx
    have HS := Lib.hid hs
    have b0 : Hid (Num x.b) := Lib.hid hx.b
    have bV : Hid (Num V) := Lib.hid (hV ▸ hx.mea hs)
    have H1 := Lib.hid (Part.alloc h (.cells s.c 34))
    have HB := Lib.hid (Whole.new w 34 s.c)
    have HK := Lib.hid ((Keep.refl (fun k => k = g) w).alloc (.cells s.c 34))
    have HGL := Lib.hid (Part.lt h)
    have HVV := Lib.hid hV
    clear h hx hs hV
    go_enter Tryz.func87, Tryz.ntmps87
    go_wp2_with fail
    refine (polmea_any g x s _ H1.out HX.out HS.out).mono ?_
    rintro e w2 ⟨rfl, k2⟩
    have H2 := Lib.hid (Part.keep H1.out k2 id)
    have HB2 := Lib.hid (HB.out.keep k2 id)
    have HK2 := Lib.hid (HK.out.trans (k2.mono (fun _ h => h.elim)))
    clear k2 H1 HB HK
    rw [HMK.out]
    go_wp2
    refine bodyPost_ret (results_none rfl _ _ _) rfl ?_
    exact ⟨⟨_, rfl⟩, by rw [HE.out]; exact H2.out, HK2.out⟩
  · have HMK := Lib.hid hmk
    cases hnr : nearPol x.b V
    · have HNR := Lib.hid hnr
      have HE : Hid (endPol x s = begPol ⟨x.u, x.m, x.n, x.d, x.l, V, x.r, x.o⟩ s) := Lib.hid (by simp [endPol, hmk, hV, hnr])
      clear hmk hnr
      have HX := Lib.hid hx
      have HS := Lib.hid hs
      have b0 : Hid (Num x.b) := Lib.hid hx.b
      have bV : Hid (Num V) := Lib.hid (hV ▸ hx.mea hs)
      have H1 := Lib.hid (Part.alloc h (.cells s.c 34))
      have HB := Lib.hid (Whole.new w 34 s.c)
      have HK := Lib.hid ((Keep.refl (fun k => k = g) w).alloc (.cells s.c 34))
      have HGL := Lib.hid (Part.lt h)
      have HVV := Lib.hid hV
      clear h hx hs hV
      go_enter Tryz.func87, Tryz.ntmps87
      go_wp2_with fail
      refine (polmea_any g x s _ H1.out HX.out HS.out).mono ?_
      rintro e w2 ⟨rfl, k2⟩
      have H2 := Lib.hid (Part.keep H1.out k2 id)
      have HB2 := Lib.hid (HB.out.keep k2 id)
      have HK2 := Lib.hid (HK.out.trans (k2.mono (fun _ h => h.elim)))
      clear k2 H1 HB HK
      rw [HMK.out]
      rw [if_pos rfl, HVV.out]
      go_wp2_with fail
      refine (polnear_any g x V _ H2.out b0.out bV.out).mono ?_
      rintro e w3 ⟨rfl, k3⟩
      have H3 := Lib.hid (Part.keep H2.out k3 id)
      have HB3 := Lib.hid (HB2.out.keep k3 id)
      have HK3 := Lib.hid (HK2.out.trans (k3.mono (fun _ h => h.elim)))
      clear k3 H2 HB2 HK2
      rw [HNR.out]
      have c5 : w3.cell? ⟨g, oo + 5, none⟩ = some (.int .u64 x.b) := Part.cell H3.out 5
      have f5 := Part.free H3.out 5
      have P5 := Lib.hid (Part.put H3.out 5 (.int .u64 V))
      have HB4 := HB3.out.far (p := ⟨g, oo + 5, none⟩) (Nat.ne_of_gt HGL.out) (.int .u64 V)
      have HK4 := Lib.hid (HK3.out.setCell (p := ⟨g, oo + 5, none⟩) (.inl rfl) (.int .u64 V))
      have d0 : (w3.setCell ⟨g, oo + 5, none⟩ (.int .u64 V)).cell? ⟨w.heap.size, 0, none⟩ = some (.int .u64 s.n) := HB4.cell0
      have d1 : (w3.setCell ⟨g, oo + 5, none⟩ (.int .u64 V)).cell? ⟨w.heap.size, 1, none⟩ = some (.int .u64 s.d) := HB4.cell 1
      have d2 : (w3.setCell ⟨g, oo + 5, none⟩ (.int .u64 V)).cell? ⟨w.heap.size, 2, none⟩ = some (.int .u64 s.p) := HB4.cell 2
      have d3 : (w3.setCell ⟨g, oo + 5, none⟩ (.int .u64 V)).cell? ⟨w.heap.size, 3, none⟩ = some (.int .u64 s.i) := HB4.cell 3
      have d4 : (w3.setCell ⟨g, oo + 5, none⟩ (.int .u64 V)).cell? ⟨w.heap.size, 4, none⟩ = some (.int .u64 s.r) := HB4.cell 4
      have d5 : (w3.setCell ⟨g, oo + 5, none⟩ (.int .u64 V)).cell? ⟨w.heap.size, 5, none⟩ = some (.int .u64 s.a) := HB4.cell 5
      have d6 : (w3.setCell ⟨g, oo + 5, none⟩ (.int .u64 V)).cell? ⟨w.heap.size, 6, none⟩ = some (.int .u64 s.o) := HB4.cell 6
      have d7 : (w3.setCell ⟨g, oo + 5, none⟩ (.int .u64 V)).cell? ⟨w.heap.size, 7, none⟩ = some (.int .u64 s.f) := HB4.cell 7
      have d8 : (w3.setCell ⟨g, oo + 5, none⟩ (.int .u64 V)).cell? ⟨w.heap.size, 8, none⟩ = some (.bool s.l) := HB4.cell 8
      clear HB3 HB4 H3 HK3
      go_wp2_with fail
      refine (polbegin_any g ⟨x.u, x.m, x.n, x.d, x.l, V, x.r, x.o⟩ s _ P5.out).mono ?_
      rintro e w5 ⟨⟨_, rfl⟩, h5, k5⟩
      have H5 := Lib.hid h5; have K5 := Lib.hid (HK4.out.trans k5)
      clear h5 k5 d0 d1 d2 d3 d4 d5 d6 d7 d8 c5 f5 P5 HK4
      go_wp2
      go_end0
      exact ⟨⟨_, rfl⟩, by rw [HE.out]; exact H5.out, K5.out⟩
    · have HNR := Lib.hid hnr
      have HE : Hid (endPol x s = ⟨true, x.m, x.n, x.d, x.l, halfPol x.b V, 0, x.o⟩) := Lib.hid (by simp [endPol, hmk, hV, hnr])
      clear hmk hnr
      have HX := Lib.hid hx
      have HS := Lib.hid hs
      have b0 : Hid (Num x.b) := Lib.hid hx.b
      have bV : Hid (Num V) := Lib.hid (hV ▸ hx.mea hs)
      have H1 := Lib.hid (Part.alloc h (.cells s.c 34))
      have HB := Lib.hid (Whole.new w 34 s.c)
      have HK := Lib.hid ((Keep.refl (fun k => k = g) w).alloc (.cells s.c 34))
      have HGL := Lib.hid (Part.lt h)
      have HVV := Lib.hid hV
      clear h hx hs hV
      go_enter Tryz.func87, Tryz.ntmps87
      go_wp2_with fail
      refine (polmea_any g x s _ H1.out HX.out HS.out).mono ?_
      rintro e w2 ⟨rfl, k2⟩
      have H2 := Lib.hid (Part.keep H1.out k2 id)
      have HB2 := Lib.hid (HB.out.keep k2 id)
      have HK2 := Lib.hid (HK.out.trans (k2.mono (fun _ h => h.elim)))
      clear k2 H1 HB HK
      rw [HMK.out]
      rw [if_pos rfl, HVV.out]
      go_wp2_with fail
      refine (polnear_any g x V _ H2.out b0.out bV.out).mono ?_
      rintro e w3 ⟨rfl, k3⟩
      have H3 := Lib.hid (Part.keep H2.out k3 id)
      have HK3 := Lib.hid (HK2.out.trans (k3.mono (fun _ h => h.elim)))
      clear k3 H2 HB2 HK2
      rw [HNR.out]
      have c5 : w3.cell? ⟨g, oo + 5, none⟩ = some (.int .u64 x.b) := Part.cell H3.out 5
      go_wp2_with fail
      refine (polhalf_any _ _ _ b0.out bV.out).mono ?_
      rintro e w' ⟨rfl, rfl⟩
      generalize halfPol x.b V = Z at *
      have f5 := Part.free H3.out 5
      have P5 := Part.put H3.out 5 (.int .u64 Z)
      have c0 : (w3.setCell ⟨g, oo + 5, none⟩ (.int .u64 Z)).cell? ⟨g, oo, none⟩ = some (.bool x.u) := P5.cell0
      have f0 := P5.free0
      have P0 := P5.put0 (.bool true)
      have c6 : ((w3.setCell ⟨g, oo + 5, none⟩ (.int .u64 Z)).setCell ⟨g, oo, none⟩ (.bool true)).cell? ⟨g, oo + 6, none⟩ = some (.int .u64 x.r) := P0.cell 6
      have f6 := P0.free 6
      have HP := Lib.hid (P0.put 6 (.int .u64 0))
      have HK4 := Lib.hid (((HK3.out.setCell (p := ⟨g, oo + 5, none⟩) (.inl rfl) (.int .u64 Z)).setCell (p := ⟨g, oo, none⟩) (.inl rfl) (.bool true)).setCell (p := ⟨g, oo + 6, none⟩) (.inl rfl) (.int .u64 0))
      clear P5 P0 H3 HK3
      go_wp2
      refine bodyPost_ret (results_none rfl _ _ _) rfl ?_
      exact ⟨⟨_, rfl⟩, by rw [HE.out]; exact HP.out, HK4.out⟩
end Go.Proofs.YtbimmadllfgmiaaGreat
