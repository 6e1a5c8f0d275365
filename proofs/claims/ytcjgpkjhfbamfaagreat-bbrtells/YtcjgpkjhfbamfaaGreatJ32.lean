/-
  Package bbr's pace: what it leaves. Conditions: the Model lies in memory as New makes it, be it inside a block; numbers are of 64 bits.
-/
import Derived.Test.YtcjgpkjhfbamfaaGreatJ23
set_option linter.unusedVariables false
set_option linter.unusedSimpArgs false
namespace Go.Proofs.YtcjgpkjhfbamfaaGreat
open Go.RowKit
set_option maxRecDepth 100000
variable {Fm : Fr} {oo : Nat}
set_option maxHeartbeats 4000000 in
theorem pace_any (g : Nat) (x : Mdl) (w : World) (h : MdlAt Fm oo w g x) (hf : x.Fit) : Calls Tryz.prog 37 #[.pointer (some ⟨g, oo, none⟩)] w fun e w' => (∃ v, e = .returned v) ∧ MdlAt Fm oo w' g (pacM x) ∧ Keep (fun k => k = g) w w' := by
  have HM := Lib.hid h
  have HF := Lib.hid hf
  obtain ⟨V, hV⟩ : ∃ V, bwM x = V := ⟨_, rfl⟩
  obtain ⟨G, hG⟩ : ∃ G, gainM x = G := ⟨_, rfl⟩
  obtain ⟨R, hR⟩ : ∃ R, rateV V G = R := ⟨_, rfl⟩
  have HVN : Hid (Num V) := Lib.hid (hV ▸ bwM_num hf)
  have HGN : Hid (Num G) := Lib.hid (hG ▸ gainM_num)
  have hrm : rateM x = maxI R 1 := by rw [← hR, ← hV, ← hG]; rfl
  have HV := Lib.hid hV
  have HG := Lib.hid hG
  have HR := Lib.hid hR
  clear h hf hG hR
  by_cases h0 : V = 0
  · have HE : Hid (pacM x = x) := Lib.hid (by simp [pacM, hV, h0])
    have e0 : (V == 0) = true := by simp [h0]
    clear hV h0 hrm
    go_enter Tryz.func37, Tryz.ntmps37
    go_wp2_with fail
    refine (bw_any _ _ _ HM.out HF.out).mono ?_
    rintro e w' ⟨rfl, rfl⟩
    rw [HV.out]
    go_wp2
    refine bodyPost_ret (results_none rfl _ _ _) rfl ?_
    exact ⟨⟨_, rfl⟩, by rw [HE.out]; exact HM.out, Keep.refl _ _⟩
  have e0 : (V == 0) = false := by simp [h0]
  obtain ⟨FU, hFU⟩ : ∃ b, fullP x.p = b := ⟨_, rfl⟩
  have HFU := Lib.hid hFU
  rcases Int.lt_trichotomy R 1 with hl | hl | hl
  · have hn : ¬ 1 < R := by omega
    have hM : rateM x = 1 := by rw [hrm]; simp [maxI, hl]
    cases FU
    · by_cases ht : x.t < 1
      · have HE : Hid (pacM x = { x with t := 1 }) := Lib.hid (by simp [pacM, hV, h0, hFU, hM, ht])
        clear hV h0 hrm hFU hM
        go_enter Tryz.func37, Tryz.ntmps37
        go_wp2_with fail
        refine (bw_any _ _ _ HM.out HF.out).mono ?_
        rintro e w' ⟨rfl, rfl⟩
        rw [HV.out]
        go_wp2_with fail
        refine (gain_any _ _ _ HM.out HF.out).mono ?_
        rintro e w' ⟨rfl, rfl⟩
        rw [HG.out]
        go_wp2_with fail
        refine (rate_any _ _ HVN.out.1 HVN.out.2 HGN.out.1 HGN.out.2 _).mono ?_
        rintro e w2 ⟨rfl, k2⟩
        rw [HR.out]
        have HM2 := Lib.hid (HM.out.kept k2)
        have K2 : Hid (Keep (fun k => k = g) w w2) := Lib.hid (k2.mono fun _ e => e.elim)
        clear k2
        have c : w2.cell? ⟨g, oo + 29, none⟩ = some (.int .u64 x.t) := Part.cell HM2.out 29
        have f := Part.free HM2.out 29
        go_wp2_with fail
        refine (pifull_any _ _ _ (HM2.out.pip HF.out)).mono ?_
        rintro e w' ⟨rfl, rfl⟩
        rw [HFU.out]
        go_wp2
        go_end0
        exact ⟨⟨_, rfl⟩, by rw [HE.out]; exact Part.put HM2.out 29 (.int .u64 1), K2.out.setCell (.inl rfl) _⟩
      · have HE : Hid (pacM x = x) := Lib.hid (by simp [pacM, hV, h0, hFU, hM, ht])
        clear hV h0 hrm hFU hM
        go_enter Tryz.func37, Tryz.ntmps37
        go_wp2_with fail
        refine (bw_any _ _ _ HM.out HF.out).mono ?_
        rintro e w' ⟨rfl, rfl⟩
        rw [HV.out]
        go_wp2_with fail
        refine (gain_any _ _ _ HM.out HF.out).mono ?_
        rintro e w' ⟨rfl, rfl⟩
        rw [HG.out]
        go_wp2_with fail
        refine (rate_any _ _ HVN.out.1 HVN.out.2 HGN.out.1 HGN.out.2 _).mono ?_
        rintro e w2 ⟨rfl, k2⟩
        rw [HR.out]
        have HM2 := Lib.hid (HM.out.kept k2)
        have K2 : Hid (Keep (fun k => k = g) w w2) := Lib.hid (k2.mono fun _ e => e.elim)
        clear k2
        have c : w2.cell? ⟨g, oo + 29, none⟩ = some (.int .u64 x.t) := Part.cell HM2.out 29
        have f := Part.free HM2.out 29
        go_wp2_with fail
        refine (pifull_any _ _ _ (HM2.out.pip HF.out)).mono ?_
        rintro e w' ⟨rfl, rfl⟩
        rw [HFU.out]
        go_wp2
        go_end0
        exact ⟨⟨_, rfl⟩, by rw [HE.out]; exact HM2.out, K2.out⟩
    · have HE : Hid (pacM x = { x with t := 1 }) := Lib.hid (by simp [pacM, hV, h0, hFU, hM])
      clear hV h0 hrm hFU hM
      go_enter Tryz.func37, Tryz.ntmps37
      go_wp2_with fail
      refine (bw_any _ _ _ HM.out HF.out).mono ?_
      rintro e w' ⟨rfl, rfl⟩
      rw [HV.out]
      go_wp2_with fail
      refine (gain_any _ _ _ HM.out HF.out).mono ?_
      rintro e w' ⟨rfl, rfl⟩
      rw [HG.out]
      go_wp2_with fail
      refine (rate_any _ _ HVN.out.1 HVN.out.2 HGN.out.1 HGN.out.2 _).mono ?_
      rintro e w2 ⟨rfl, k2⟩
      rw [HR.out]
      have HM2 := Lib.hid (HM.out.kept k2)
      have K2 : Hid (Keep (fun k => k = g) w w2) := Lib.hid (k2.mono fun _ e => e.elim)
      clear k2
      have c : w2.cell? ⟨g, oo + 29, none⟩ = some (.int .u64 x.t) := Part.cell HM2.out 29
      have f := Part.free HM2.out 29
      go_wp2_with fail
      refine (pifull_any _ _ _ (HM2.out.pip HF.out)).mono ?_
      rintro e w' ⟨rfl, rfl⟩
      rw [HFU.out]
      go_wp2
      go_end0
      exact ⟨⟨_, rfl⟩, by rw [HE.out]; exact Part.put HM2.out 29 (.int .u64 1), K2.out.setCell (.inl rfl) _⟩
  · have hM : rateM x = 1 := by rw [hrm]; simp [maxI, hl]
    subst hl
    cases FU
    · by_cases ht : x.t < 1
      · have HE : Hid (pacM x = { x with t := 1 }) := Lib.hid (by simp [pacM, hV, h0, hFU, hM, ht])
        clear hV h0 hrm hFU hM
        go_enter Tryz.func37, Tryz.ntmps37
        go_wp2_with fail
        refine (bw_any _ _ _ HM.out HF.out).mono ?_
        rintro e w' ⟨rfl, rfl⟩
        rw [HV.out]
        go_wp2_with fail
        refine (gain_any _ _ _ HM.out HF.out).mono ?_
        rintro e w' ⟨rfl, rfl⟩
        rw [HG.out]
        go_wp2_with fail
        refine (rate_any _ _ HVN.out.1 HVN.out.2 HGN.out.1 HGN.out.2 _).mono ?_
        rintro e w2 ⟨rfl, k2⟩
        rw [HR.out]
        have HM2 := Lib.hid (HM.out.kept k2)
        have K2 : Hid (Keep (fun k => k = g) w w2) := Lib.hid (k2.mono fun _ e => e.elim)
        clear k2
        have c : w2.cell? ⟨g, oo + 29, none⟩ = some (.int .u64 x.t) := Part.cell HM2.out 29
        have f := Part.free HM2.out 29
        go_wp2_with fail
        refine (pifull_any _ _ _ (HM2.out.pip HF.out)).mono ?_
        rintro e w' ⟨rfl, rfl⟩
        rw [HFU.out]
        go_wp2
        go_end0
        exact ⟨⟨_, rfl⟩, by rw [HE.out]; exact Part.put HM2.out 29 (.int .u64 1), K2.out.setCell (.inl rfl) _⟩
      · have HE : Hid (pacM x = x) := Lib.hid (by simp [pacM, hV, h0, hFU, hM, ht])
        clear hV h0 hrm hFU hM
        go_enter Tryz.func37, Tryz.ntmps37
        go_wp2_with fail
        refine (bw_any _ _ _ HM.out HF.out).mono ?_
        rintro e w' ⟨rfl, rfl⟩
        rw [HV.out]
        go_wp2_with fail
        refine (gain_any _ _ _ HM.out HF.out).mono ?_
        rintro e w' ⟨rfl, rfl⟩
        rw [HG.out]
        go_wp2_with fail
        refine (rate_any _ _ HVN.out.1 HVN.out.2 HGN.out.1 HGN.out.2 _).mono ?_
        rintro e w2 ⟨rfl, k2⟩
        rw [HR.out]
        have HM2 := Lib.hid (HM.out.kept k2)
        have K2 : Hid (Keep (fun k => k = g) w w2) := Lib.hid (k2.mono fun _ e => e.elim)
        clear k2
        have c : w2.cell? ⟨g, oo + 29, none⟩ = some (.int .u64 x.t) := Part.cell HM2.out 29
        have f := Part.free HM2.out 29
        go_wp2_with fail
        refine (pifull_any _ _ _ (HM2.out.pip HF.out)).mono ?_
        rintro e w' ⟨rfl, rfl⟩
        rw [HFU.out]
        go_wp2
        go_end0
        exact ⟨⟨_, rfl⟩, by rw [HE.out]; exact HM2.out, K2.out⟩
    · have HE : Hid (pacM x = { x with t := 1 }) := Lib.hid (by simp [pacM, hV, h0, hFU, hM])
      clear hV h0 hrm hFU hM
      go_enter Tryz.func37, Tryz.ntmps37
      go_wp2_with fail
      refine (bw_any _ _ _ HM.out HF.out).mono ?_
      rintro e w' ⟨rfl, rfl⟩
      rw [HV.out]
      go_wp2_with fail
      refine (gain_any _ _ _ HM.out HF.out).mono ?_
      rintro e w' ⟨rfl, rfl⟩
      rw [HG.out]
      go_wp2_with fail
      refine (rate_any _ _ HVN.out.1 HVN.out.2 HGN.out.1 HGN.out.2 _).mono ?_
      rintro e w2 ⟨rfl, k2⟩
      rw [HR.out]
      have HM2 := Lib.hid (HM.out.kept k2)
      have K2 : Hid (Keep (fun k => k = g) w w2) := Lib.hid (k2.mono fun _ e => e.elim)
      clear k2
      have c : w2.cell? ⟨g, oo + 29, none⟩ = some (.int .u64 x.t) := Part.cell HM2.out 29
      have f := Part.free HM2.out 29
      go_wp2_with fail
      refine (pifull_any _ _ _ (HM2.out.pip HF.out)).mono ?_
      rintro e w' ⟨rfl, rfl⟩
      rw [HFU.out]
      go_wp2
      go_end0
      exact ⟨⟨_, rfl⟩, by rw [HE.out]; exact Part.put HM2.out 29 (.int .u64 1), K2.out.setCell (.inl rfl) _⟩
  · have hn : ¬ R < 1 := by omega
    have hM : rateM x = R := by rw [hrm]; simp [maxI, hn]
    cases FU
    · by_cases ht : x.t < R
      · have HE : Hid (pacM x = { x with t := R }) := Lib.hid (by simp [pacM, hV, h0, hFU, hM, ht])
        clear hV h0 hrm hFU hM
        go_enter Tryz.func37, Tryz.ntmps37
        go_wp2_with fail
        refine (bw_any _ _ _ HM.out HF.out).mono ?_
        rintro e w' ⟨rfl, rfl⟩
        rw [HV.out]
        go_wp2_with fail
        refine (gain_any _ _ _ HM.out HF.out).mono ?_
        rintro e w' ⟨rfl, rfl⟩
        rw [HG.out]
        go_wp2_with fail
        refine (rate_any _ _ HVN.out.1 HVN.out.2 HGN.out.1 HGN.out.2 _).mono ?_
        rintro e w2 ⟨rfl, k2⟩
        rw [HR.out]
        have HM2 := Lib.hid (HM.out.kept k2)
        have K2 : Hid (Keep (fun k => k = g) w w2) := Lib.hid (k2.mono fun _ e => e.elim)
        clear k2
        have c : w2.cell? ⟨g, oo + 29, none⟩ = some (.int .u64 x.t) := Part.cell HM2.out 29
        have f := Part.free HM2.out 29
        go_wp2_with fail
        refine (pifull_any _ _ _ (HM2.out.pip HF.out)).mono ?_
        rintro e w' ⟨rfl, rfl⟩
        rw [HFU.out]
        go_wp2
        go_end0
        exact ⟨⟨_, rfl⟩, by rw [HE.out]; exact Part.put HM2.out 29 (.int .u64 R), K2.out.setCell (.inl rfl) _⟩
      · have HE : Hid (pacM x = x) := Lib.hid (by simp [pacM, hV, h0, hFU, hM, ht])
        clear hV h0 hrm hFU hM
        go_enter Tryz.func37, Tryz.ntmps37
        go_wp2_with fail
        refine (bw_any _ _ _ HM.out HF.out).mono ?_
        rintro e w' ⟨rfl, rfl⟩
        rw [HV.out]
        go_wp2_with fail
        refine (gain_any _ _ _ HM.out HF.out).mono ?_
        rintro e w' ⟨rfl, rfl⟩
        rw [HG.out]
        go_wp2_with fail
        refine (rate_any _ _ HVN.out.1 HVN.out.2 HGN.out.1 HGN.out.2 _).mono ?_
        rintro e w2 ⟨rfl, k2⟩
        rw [HR.out]
        have HM2 := Lib.hid (HM.out.kept k2)
        have K2 : Hid (Keep (fun k => k = g) w w2) := Lib.hid (k2.mono fun _ e => e.elim)
        clear k2
        have c : w2.cell? ⟨g, oo + 29, none⟩ = some (.int .u64 x.t) := Part.cell HM2.out 29
        have f := Part.free HM2.out 29
        go_wp2_with fail
        refine (pifull_any _ _ _ (HM2.out.pip HF.out)).mono ?_
        rintro e w' ⟨rfl, rfl⟩
        rw [HFU.out]
        go_wp2
        go_end0
        exact ⟨⟨_, rfl⟩, by rw [HE.out]; exact HM2.out, K2.out⟩
    · have HE : Hid (pacM x = { x with t := R }) := Lib.hid (by simp [pacM, hV, h0, hFU, hM])
      clear hV h0 hrm hFU hM
      go_enter Tryz.func37, Tryz.ntmps37
      go_wp2_with fail
      refine (bw_any _ _ _ HM.out HF.out).mono ?_
      rintro e w' ⟨rfl, rfl⟩
      rw [HV.out]
      go_wp2_with fail
      refine (gain_any _ _ _ HM.out HF.out).mono ?_
      rintro e w' ⟨rfl, rfl⟩
      rw [HG.out]
      go_wp2_with fail
      refine (rate_any _ _ HVN.out.1 HVN.out.2 HGN.out.1 HGN.out.2 _).mono ?_
      rintro e w2 ⟨rfl, k2⟩
      rw [HR.out]
      have HM2 := Lib.hid (HM.out.kept k2)
      have K2 : Hid (Keep (fun k => k = g) w w2) := Lib.hid (k2.mono fun _ e => e.elim)
      clear k2
      have c : w2.cell? ⟨g, oo + 29, none⟩ = some (.int .u64 x.t) := Part.cell HM2.out 29
      have f := Part.free HM2.out 29
      go_wp2_with fail
      refine (pifull_any _ _ _ (HM2.out.pip HF.out)).mono ?_
      rintro e w' ⟨rfl, rfl⟩
      rw [HFU.out]
      go_wp2
      go_end0
      exact ⟨⟨_, rfl⟩, by rw [HE.out]; exact Part.put HM2.out 29 (.int .u64 R), K2.out.setCell (.inl rfl) _⟩
end Go.Proofs.YtcjgpkjhfbamfaaGreat
