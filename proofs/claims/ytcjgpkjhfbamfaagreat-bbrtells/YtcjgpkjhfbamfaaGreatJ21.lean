/-
  The document's own window (canterref08.Win): Update answers and leaves what the plain mathematics says. Conditions: the window lies in memory as NewWin makes it; the numbers are of their kind.
-/
import Derived.Test.YtcjgpkjhfbamfaaGreatJ20
namespace Go.Proofs.YtcjgpkjhfbamfaaGreat
open Go.RowKit
set_option maxRecDepth 100000

theorem lastT_l (x : Tri) (t : Int) : (lastT x t).l = t := rfl
set_option maxHeartbeats 4000000 in
set_option maxRecDepth 100000 in
theorem rupd_is {win t v : Int} {x : Tri} {least : Bool} (g : Nat) (w : World) (h : WinAt w g win x least) (ht : Num t) (hv : Num v) :
    Calls Tryz.prog 44 #[.pointer (some ⟨g, 0, none⟩), .int .u64 t, .int .u64 v] w fun e w' => e = .returned (.int .u64 (updT least win x t v).v0) ∧ WinAt w' g win (updT least win x t v) least ∧ Keep (fun k => k = g) w w' := by
  obtain ⟨L, hL⟩ : ∃ L, x.l = L := ⟨_, rfl⟩
  obtain ⟨T, hT⟩ : ∃ T, topT t L = T := ⟨_, rfl⟩
  have c7 : w.cell? ⟨g, 7, none⟩ = some (.int .u64 L) := hL ▸ h.whole.cell 7
  have f7 := h.whole.free 7
  have hTL : L ≤ T := hT ▸ topT_ge.2
  have hT1 : T ≤ 18446744073709551615 := hT ▸ topT_num ht.2 (hL ▸ h.fit.l1)
  have hT0 : 0 ≤ T := Int.le_trans ht.1 (hT ▸ topT_ge.1)
  have NT : Hid (Num T) := Lib.hid ⟨hT0, hT1⟩
  have NV := Lib.hid hv
  have NW := Lib.hid h.win
  have HU : Hid (updT least win x t v = ageT win (rankT least win (lastT x T) T v) T v) := Lib.hid (by subst hT; subst hL; rfl)
  have HUR : Hid (beatsT least v (lastT x T).v0 ∨ win < T - (lastT x T).t2 → updT least win x t v = resT (lastT x T) T v) := Lib.hid (fun hA => by
    have hr : resT (lastT x T) T v = allT T T v := by show allT (topT T T) T v = allT T T v; rw [show topT T T = T from if_pos (Int.le_refl _)]
    rw [hr]
    subst hT; subst hL
    rcases hA with hA | hA
    · exact updT_beats hA NW.out.1
    · exact updT_old hA NW.out.1)
  have H1 := Lib.hid (h.last (hL ▸ hTL) hT1)
  have K1 : Hid (Keep (fun k => k = g) w (w.setCell ⟨g, 7, none⟩ (.int .u64 T))) := Lib.hid ((Keep.refl (fun k => k = g) w).setCell (p := ⟨g, 7, none⟩) (.inl rfl) _)
  have hw := h.win
  unfold Num at hw
  clear h hv ht
  generalize updT least win x t v = U at *
  have hyl := lastT_l x T
  go_enter Tryz.func44, Tryz.ntmps44
  go_upto_region 1 with fail
  go_cut [1] (fun s1 wx => s1 = .int .u64 T ∧ wx = w)
  case first =>
    rcases Int.lt_trichotomy L t with hc | hc | hc
    · obtain rfl : t = T := (if_pos (by omega) : topT t L = t).symm.trans hT
      clear hT
      go_wp2
      go_meet
      exact ⟨rfl, rfl⟩
    · obtain rfl : t = L := hc.symm
      obtain rfl : t = T := (if_pos (by omega) : topT t t = t).symm.trans hT
      clear hT
      go_wp2
      go_meet
      exact ⟨rfl, rfl⟩
    · obtain rfl : L = T := (if_neg (by omega) : topT t L = L).symm.trans hT
      clear hT
      go_wp2
      go_meet
      exact ⟨rfl, rfl⟩
  case rest =>
    obtain ⟨rfl, hwc⟩ := hcut
    have hwc := hwc.symm
    subst hwc
    clear hT hTL
    generalize lastT x T = y at *
    go_upto_region 3 with fail
    generalize hw1 : World.setCell _ _ _ = w1 at *
    clear hw1 c7 f7
    have d0 : w1.cell? ⟨g, 0, none⟩ = some (.int .u64 win) := H1.out.whole.cell 0
    have d3 : w1.cell? ⟨g, 3, none⟩ = some (.int .u64 y.t2) := H1.out.whole.cell 3
    have ha2 : 0 ≤ y.t2 ∧ y.t2 ≤ T := hyl ▸ H1.out.fit.a2
    have hwr : IntKind.u64.wrap (T - y.t2) = T - y.t2 := by rw [IntKind.wrap_u64]; omega
    go_cut [43] (fun s43 wx => s43 = .bool (decide (beatsT least v y.v0 ∨ win < T - y.t2)) ∧ ∃ n, wx = w1.drewN n)
    case first =>
      by_cases hb : beatsT least v y.v0
      · have HE : Hid (decide (beatsT least v y.v0 ∨ win < T - y.t2) = true) := Lib.hid (decide_eq_true (.inl hb))
        have HB := Lib.hid (decide_eq_true hb)
        clear hb
        refine wp_region_sch (fun W => W.cell? ⟨g, 0, none⟩ = some (.int .u64 win) ∧ W.cell? ⟨g, 3, none⟩ = some (.int .u64 y.t2)) [(true, 0), (true, 1), (false, 2), (true, 3), (true, 4), (true, 5), (true, 6), (true, 7), (true, 8), (true, 9), (true, 10), (true, 11), (true, 12), (true, 13), (true, 14), (true, 15), (true, 16), (true, 17), (true, 18), (true, 19), (true, 20), (true, 21), (true, 22), (true, 23), (true, 24), (true, 25)] (by kernel_rfl) (by kernel_rfl) (by kernel_rfl) (by kernel_rfl) ⟨d0, d3⟩ ?_
        (repeat (first | (refine wpSch_yes (v := ?_) rfl (fun _ _ _ h => h) (by rfl) ?_ ?_; rotate_left; (next => (intro w hSw; (try dsimp only at hSw); obtain ⟨hS1, hS2⟩ := hSw; go_simp; (try with_reducible rfl))); (try simp only [Act.put, List.setIfInBounds_toArray, List.set_cons_zero, List.set_cons_succ])) | (refine wpSch_no rfl (fun _ _ _ h => h) (by rfl) ?_; (try simp only [Act.put, List.setIfInBounds_toArray, List.set_cons_zero, List.set_cons_succ]))))
        refine wpSch_call rfl (by rfl) (fun K hK => ?_)
        go_simp
        refine (beats0_is g _ H1.out.drew HB.out).mono ?_
        rintro e w' ⟨rfl, rfl⟩
        refine hK.out _ _ ⟨d0, d3⟩ (fun hHeld => ?_)
        clear hK K hHeld
        (try simp only [Act.put, List.setIfInBounds_toArray, List.set_cons_zero, List.set_cons_succ])
        (repeat (first | (refine wpSch_yes (v := ?_) rfl (fun _ _ _ h => h) (by rfl) ?_ ?_; rotate_left; (next => (intro w hSw; (try dsimp only at hSw); obtain ⟨hS1, hS2⟩ := hSw; go_simp; (try with_reducible rfl))); (try simp only [Act.put, List.setIfInBounds_toArray, List.set_cons_zero, List.set_cons_succ])) | (refine wpSch_no rfl (fun _ _ _ h => h) (by rfl) ?_; (try simp only [Act.put, List.setIfInBounds_toArray, List.set_cons_zero, List.set_cons_succ]))))
        refine wpSch_nil ?_
        go_wp2
        go_meet
        exact ⟨congrArg Value.bool HE.out.symm, 1, rfl⟩
      · have HB := Lib.hid (decide_eq_false hb)
        have HNB := Lib.hid hb
        clear hb
        by_cases h1 : y.t2 < T
        · by_cases h2 : win < T - y.t2
          · have HE : Hid (decide (beatsT least v y.v0 ∨ win < T - y.t2) = true) := Lib.hid (decide_eq_true (.inr h2))
            refine wp_region_sch (fun W => W.cell? ⟨g, 0, none⟩ = some (.int .u64 win) ∧ W.cell? ⟨g, 3, none⟩ = some (.int .u64 y.t2)) [(true, 0), (true, 1), (false, 2), (true, 3), (true, 4), (true, 5), (true, 6), (true, 7), (true, 8), (true, 9), (true, 10), (true, 11), (true, 12), (true, 13), (true, 14), (true, 15), (true, 16), (true, 17), (true, 18), (true, 19), (true, 20), (true, 21), (true, 22), (true, 23), (true, 24), (true, 25)] (by kernel_rfl) (by kernel_rfl) (by kernel_rfl) (by kernel_rfl) ⟨d0, d3⟩ ?_
            (repeat (first | (refine wpSch_yes (v := ?_) rfl (fun _ _ _ h => h) (by rfl) ?_ ?_; rotate_left; (next => (intro w hSw; (try dsimp only at hSw); obtain ⟨hS1, hS2⟩ := hSw; go_simp; (try with_reducible rfl))); (try simp only [Act.put, List.setIfInBounds_toArray, List.set_cons_zero, List.set_cons_succ])) | (refine wpSch_no rfl (fun _ _ _ h => h) (by rfl) ?_; (try simp only [Act.put, List.setIfInBounds_toArray, List.set_cons_zero, List.set_cons_succ]))))
            refine wpSch_call rfl (by rfl) (fun K hK => ?_)
            go_simp
            refine (beats0_is g _ H1.out.drew HB.out).mono ?_
            rintro e w' ⟨rfl, rfl⟩
            refine hK.out _ _ ⟨d0, d3⟩ (fun hHeld => ?_)
            clear hK K hHeld
            (try simp only [Act.put, List.setIfInBounds_toArray, List.set_cons_zero, List.set_cons_succ])
            (repeat (first | (refine wpSch_yes (v := ?_) rfl (fun _ _ _ h => h) (by rfl) ?_ ?_; rotate_left; (next => (intro w hSw; (try dsimp only at hSw); obtain ⟨hS1, hS2⟩ := hSw; go_simp; (try with_reducible rfl))); (try simp only [Act.put, List.setIfInBounds_toArray, List.set_cons_zero, List.set_cons_succ])) | (refine wpSch_no rfl (fun _ _ _ h => h) (by rfl) ?_; (try simp only [Act.put, List.setIfInBounds_toArray, List.set_cons_zero, List.set_cons_succ]))))
            refine wpSch_nil ?_
            go_wp2
            go_meet
            exact ⟨congrArg Value.bool HE.out.symm, 1, rfl⟩
          · have HE : Hid (decide (beatsT least v y.v0 ∨ win < T - y.t2) = false) := Lib.hid (decide_eq_false (fun h => h.elim HNB.out h2))
            have h2' : decide (win < T - y.t2) = false := decide_eq_false h2
            refine wp_region_sch (fun W => W.cell? ⟨g, 0, none⟩ = some (.int .u64 win) ∧ W.cell? ⟨g, 3, none⟩ = some (.int .u64 y.t2)) [(true, 0), (true, 1), (false, 2), (true, 3), (true, 4), (true, 5), (true, 6), (true, 7), (true, 8), (true, 9), (true, 10), (true, 11), (true, 12), (true, 13), (true, 14), (true, 15), (true, 16), (true, 17), (true, 18), (true, 19), (true, 20), (true, 21), (true, 22), (true, 23), (true, 24), (true, 25)] (by kernel_rfl) (by kernel_rfl) (by kernel_rfl) (by kernel_rfl) ⟨d0, d3⟩ ?_
            (repeat (first | (refine wpSch_yes (v := ?_) rfl (fun _ _ _ h => h) (by rfl) ?_ ?_; rotate_left; (next => (intro w hSw; (try dsimp only at hSw); obtain ⟨hS1, hS2⟩ := hSw; go_simp; (try with_reducible rfl))); (try simp only [Act.put, List.setIfInBounds_toArray, List.set_cons_zero, List.set_cons_succ])) | (refine wpSch_no rfl (fun _ _ _ h => h) (by rfl) ?_; (try simp only [Act.put, List.setIfInBounds_toArray, List.set_cons_zero, List.set_cons_succ]))))
            refine wpSch_call rfl (by rfl) (fun K hK => ?_)
            go_simp
            refine (beats0_is g _ H1.out.drew HB.out).mono ?_
            rintro e w' ⟨rfl, rfl⟩
            refine hK.out _ _ ⟨d0, d3⟩ (fun hHeld => ?_)
            clear hK K hHeld
            (try simp only [Act.put, List.setIfInBounds_toArray, List.set_cons_zero, List.set_cons_succ])
            (repeat (first | (refine wpSch_yes (v := ?_) rfl (fun _ _ _ h => h) (by rfl) ?_ ?_; rotate_left; (next => (intro w hSw; (try dsimp only at hSw); obtain ⟨hS1, hS2⟩ := hSw; go_simp; (try with_reducible rfl))); (try simp only [Act.put, List.setIfInBounds_toArray, List.set_cons_zero, List.set_cons_succ])) | (refine wpSch_no rfl (fun _ _ _ h => h) (by rfl) ?_; (try simp only [Act.put, List.setIfInBounds_toArray, List.set_cons_zero, List.set_cons_succ]))))
            refine wpSch_nil ?_
            go_wp2
            go_meet
            exact ⟨congrArg Value.bool HE.out.symm, 1, rfl⟩
        · have HE : Hid (decide (beatsT least v y.v0 ∨ win < T - y.t2) = false) := Lib.hid (decide_eq_false (fun h => h.elim HNB.out (by omega)))
          have h1' : decide (y.t2 < T) = false := decide_eq_false h1
          refine wp_region_sch (fun W => W.cell? ⟨g, 0, none⟩ = some (.int .u64 win) ∧ W.cell? ⟨g, 3, none⟩ = some (.int .u64 y.t2)) [(true, 0), (true, 1), (false, 2), (true, 3), (true, 4), (true, 5), (true, 6), (true, 7), (true, 8), (true, 9), (true, 10), (true, 11), (true, 12), (true, 13), (true, 14), (true, 15), (true, 16), (true, 17), (true, 18), (true, 19), (true, 20), (true, 21), (true, 22), (true, 23), (true, 24), (true, 25)] (by kernel_rfl) (by kernel_rfl) (by kernel_rfl) (by kernel_rfl) ⟨d0, d3⟩ ?_
          (repeat (first | (refine wpSch_yes (v := ?_) rfl (fun _ _ _ h => h) (by rfl) ?_ ?_; rotate_left; (next => (intro w hSw; (try dsimp only at hSw); obtain ⟨hS1, hS2⟩ := hSw; go_simp; (try with_reducible rfl))); (try simp only [Act.put, List.setIfInBounds_toArray, List.set_cons_zero, List.set_cons_succ])) | (refine wpSch_no rfl (fun _ _ _ h => h) (by rfl) ?_; (try simp only [Act.put, List.setIfInBounds_toArray, List.set_cons_zero, List.set_cons_succ]))))
          refine wpSch_call rfl (by rfl) (fun K hK => ?_)
          go_simp
          refine (beats0_is g _ H1.out.drew HB.out).mono ?_
          rintro e w' ⟨rfl, rfl⟩
          refine hK.out _ _ ⟨d0, d3⟩ (fun hHeld => ?_)
          clear hK K hHeld
          (try simp only [Act.put, List.setIfInBounds_toArray, List.set_cons_zero, List.set_cons_succ])
          (repeat (first | (refine wpSch_yes (v := ?_) rfl (fun _ _ _ h => h) (by rfl) ?_ ?_; rotate_left; (next => (intro w hSw; (try dsimp only at hSw); obtain ⟨hS1, hS2⟩ := hSw; go_simp; (try with_reducible rfl))); (try simp only [Act.put, List.setIfInBounds_toArray, List.set_cons_zero, List.set_cons_succ])) | (refine wpSch_no rfl (fun _ _ _ h => h) (by rfl) ?_; (try simp only [Act.put, List.setIfInBounds_toArray, List.set_cons_zero, List.set_cons_succ]))))
          refine wpSch_nil ?_
          go_wp2
          go_meet
          exact ⟨congrArg Value.bool HE.out.symm, 1, rfl⟩
    case rest =>
      obtain ⟨rfl, n1, rfl⟩ := hcut
      have H2 := Lib.hid (H1.out.drewN n1)
      have K2 := Lib.hid (K1.out.drewN n1)
      generalize w1.drewN n1 = w2 at *
      clear d0 d3 H1 K1
      by_cases hA : beatsT least v y.v0 ∨ win < T - y.t2
      · have hd : decide (beatsT least v y.v0 ∨ win < T - y.t2) = true := decide_eq_true hA
        have HR := Lib.hid (HUR.out hA)
        rw [hd]
        clear hd hA
        go_wp2_with fail
        refine (rres_is g _ H2.out NT.out NV.out).mono ?_
        rintro e w3 ⟨⟨_, rfl⟩, h3, k3⟩
        have H3 := Lib.hid h3; have K3 := Lib.hid (K2.out.trans k3); clear h3 k3
        go_wp2
        go_ret
        exact ⟨ret_i (by rw [HR.out]; rfl), by rw [HR.out]; exact H3.out, K3.out⟩
      · have hd : decide (beatsT least v y.v0 ∨ win < T - y.t2) = false := decide_eq_false hA
        rw [hd]
        have HA := Lib.hid hA
        clear hd hA
        obtain ⟨f1, hf1⟩ : ∃ f, decide (beatsT least v y.v1) = f := ⟨_, rfl⟩
        have HF1 := Lib.hid hf1; clear hf1
        go_upto_if 51 with (go_at_call 73; (with_reducible refine (beats1_is g _ H2.out HF1.out).mono ?_); rintro e w' ⟨rfl, rfl⟩)
        go_cut [6] (fun s6 wx => s6 = .int .u64 0 ∧ WinAt wx g win (rankT least win y T v) least ∧ Keep (fun k => k = g) w wx)
        case first =>
          have hTy : T ≤ y.l := by omega
          cases f1
          · have HN1 : Hid (¬ beatsT least v y.v1) := Lib.hid (of_decide_eq_false HF1.out)
            obtain ⟨f2, hf2⟩ : ∃ f, decide (beatsT least v y.v2) = f := ⟨_, rfl⟩
            have HF2 := Lib.hid hf2; clear hf2
            cases f2
            · have HN2 : Hid (¬ beatsT least v y.v2) := Lib.hid (of_decide_eq_false HF2.out)
              have HRK : Hid (rankT least win y T v = y) := Lib.hid ((if_neg HA.out).trans ((if_neg HN1.out).trans (if_neg HN2.out)))
              go_wp2_with (go_at_call 73; (with_reducible refine (beats2_is g _ H2.out HF2.out).mono ?_); rintro e w' ⟨rfl, rfl⟩)
              go_meet
              exact ⟨rfl, by rw [HRK.out]; exact H2.out, K2.out⟩
            · have HY2 : Hid (beatsT least v y.v2) := Lib.hid (of_decide_eq_true HF2.out)
              have HRK : Hid (rankT least win y T v = oneT y T v) := Lib.hid ((if_neg HA.out).trans ((if_neg HN1.out).trans (if_pos HY2.out)))
              go_wp2_with (go_at_call 73; (with_reducible refine (beats2_is g _ H2.out HF2.out).mono ?_); rintro e w' ⟨rfl, rfl⟩)
              refine (set2_is g _ H2.out NT.out.1 hTy NV.out).mono ?_
              rintro e w3 ⟨⟨_, rfl⟩, h3, k3⟩
              have H3 := Lib.hid h3; have K3 := Lib.hid (K2.out.trans k3); clear h3 k3
              go_wp2
              go_meet
              exact ⟨rfl, by rw [HRK.out]; exact H3.out, K3.out⟩
          · have HY1 : Hid (beatsT least v y.v1) := Lib.hid (of_decide_eq_true HF1.out)
            have HRK : Hid (rankT least win y T v = twoT y T v) := Lib.hid ((if_neg HA.out).trans (if_pos HY1.out))
            go_wp2_with fail
            refine (set1_is g _ H2.out NT.out.1 hTy NV.out).mono ?_
            rintro e w3 ⟨⟨_, rfl⟩, h3, k3⟩
            have H3 := Lib.hid h3; have K3 := Lib.hid (K2.out.trans k3); clear h3 k3
            go_wp2_with fail
            refine (set2_is g _ H3.out NT.out.1 hTy NV.out).mono ?_
            rintro e w4 ⟨⟨_, rfl⟩, h4, k4⟩
            have H4 := Lib.hid h4; have K4 := Lib.hid (K3.out.trans k4); clear h4 k4
            go_wp2
            go_meet
            exact ⟨rfl, by rw [HRK.out]; exact H4.out, K4.out⟩
        case rest =>
          obtain ⟨rfl, hz, hk⟩ := hcut
          have hzl : (rankT least win y T v).l = T := by rw [rankT_l]; exact hyl
          generalize rankT least win y T v = z at *
          have HZ := Lib.hid hz; have KZ := Lib.hid hk; clear hz hk H2 K2 HA HF1 HUR hwr ha2
          generalize wc = w2 at *
          have c0 : w2.cell? ⟨g, 0, none⟩ = some (.int .u64 win) := HZ.out.whole.cell 0
          have c1 : w2.cell? ⟨g, 1, none⟩ = some (.int .u64 z.t0) := HZ.out.whole.cell 1
          have c2 : w2.cell? ⟨g, 2, none⟩ = some (.int .u64 z.t1) := HZ.out.whole.cell 2
          have c3 : w2.cell? ⟨g, 3, none⟩ = some (.int .u64 z.t2) := HZ.out.whole.cell 3
          have c4 : w2.cell? ⟨g, 4, none⟩ = some (.int .u64 z.v0) := HZ.out.whole.cell 4
          have a0 : 0 ≤ z.t0 ∧ z.t0 ≤ T := hzl ▸ HZ.out.fit.a0
          have a1 : 0 ≤ z.t1 ∧ z.t1 ≤ T := hzl ▸ HZ.out.fit.a1
          have hTz : T ≤ z.l := by omega
          go_upto_region 12 with (go_at_call 43; (with_reducible refine (rsub_is a0.2 a0.1 hT1 _).mono ?_); rintro e w' ⟨rfl, rfl⟩)
          by_cases hA : win < T - z.t0
          · go_wp2_with fail
            refine (rshift_is g _ HZ.out NT.out.1 hTz NV.out).mono ?_
            rintro e w3 ⟨⟨_, rfl⟩, h3, k3⟩
            have H3 := Lib.hid h3; have K3 := Lib.hid (KZ.out.trans k3); clear h3 k3
            have e0 : w3.cell? ⟨g, 0, none⟩ = some (.int .u64 win) := H3.out.whole.cell 0
            have e1 : w3.cell? ⟨g, 1, none⟩ = some (.int .u64 z.t1) := H3.out.whole.cell 1
            have e4 : w3.cell? ⟨g, 4, none⟩ = some (.int .u64 z.v1) := H3.out.whole.cell 4
            by_cases hB : win < T - z.t1
            · have HAG : Hid (ageT win z T v = shiftT (shiftT z T v) T v) := Lib.hid ((if_pos hA).trans (if_pos hB))
              go_upto_region 14 with fail
              refine wp_region_sch (fun W => W.cell? ⟨g, 0, none⟩ = some (.int .u64 win) ∧ W.cell? ⟨g, 1, none⟩ = some (.int .u64 z.t1)) [(true, 0), (true, 1), (true, 2), (true, 3), (true, 4), (true, 5), (true, 7), (true, 8), (true, 9), (true, 10), (false, 6), (true, 11)] (by kernel_rfl) (by kernel_rfl) (by kernel_rfl) (by kernel_rfl) ⟨e0, e1⟩ ?_
              (repeat (first | (refine wpSch_yes (v := ?_) rfl (fun _ _ _ h => h) (by rfl) ?_ ?_; rotate_left; (next => (intro w hSw; (try dsimp only at hSw); obtain ⟨hS1, hS2⟩ := hSw; go_simp; (try with_reducible rfl))); (try simp only [Act.put, List.setIfInBounds_toArray, List.set_cons_zero, List.set_cons_succ])) | (refine wpSch_no rfl (fun _ _ _ h => h) (by rfl) ?_; (try simp only [Act.put, List.setIfInBounds_toArray, List.set_cons_zero, List.set_cons_succ]))))
              refine wpSch_call rfl (by rfl) (fun K hK => ?_)
              go_simp
              refine (rsub_is a1.2 a1.1 hT1 _).mono ?_
              rintro e w' ⟨rfl, rfl⟩
              refine hK.out _ _ ⟨e0, e1⟩ (fun hHeld => ?_)
              clear hK K hHeld
              (try simp only [Act.put, List.setIfInBounds_toArray, List.set_cons_zero, List.set_cons_succ])
              (repeat (first | (refine wpSch_yes (v := ?_) rfl (fun _ _ _ h => h) (by rfl) ?_ ?_; rotate_left; (next => (intro w hSw; (try dsimp only at hSw); obtain ⟨hS1, hS2⟩ := hSw; go_simp; (try with_reducible rfl))); (try simp only [Act.put, List.setIfInBounds_toArray, List.set_cons_zero, List.set_cons_succ])) | (refine wpSch_no rfl (fun _ _ _ h => h) (by rfl) ?_; (try simp only [Act.put, List.setIfInBounds_toArray, List.set_cons_zero, List.set_cons_succ]))))
              refine wpSch_nil ?_
              go_wp2_with fail
              refine (rshift_is g _ H3.out.drew NT.out.1 hTz NV.out).mono ?_
              rintro e w4 ⟨⟨_, rfl⟩, h4, k4⟩
              have H4 := Lib.hid h4; have K4 := Lib.hid (K3.out.drew.trans k4); clear h4 k4
              have g4 : w4.cell? ⟨g, 4, none⟩ = some (.int .u64 z.v2) := H4.out.whole.cell 4
              go_wp2
              go_ret
              exact ⟨ret_i (by rw [HU.out, HAG.out]; rfl), by rw [HU.out, HAG.out]; exact H4.out, K4.out⟩
            · have HAG : Hid (ageT win z T v = shiftT z T v) := Lib.hid ((if_pos hA).trans (if_neg hB))
              go_upto_region 14 with fail
              refine wp_region_sch (fun W => W.cell? ⟨g, 0, none⟩ = some (.int .u64 win) ∧ W.cell? ⟨g, 1, none⟩ = some (.int .u64 z.t1)) [(true, 0), (true, 1), (true, 2), (true, 3), (true, 4), (true, 5), (true, 7), (true, 8), (true, 9), (true, 10), (false, 6), (true, 11)] (by kernel_rfl) (by kernel_rfl) (by kernel_rfl) (by kernel_rfl) ⟨e0, e1⟩ ?_
              (repeat (first | (refine wpSch_yes (v := ?_) rfl (fun _ _ _ h => h) (by rfl) ?_ ?_; rotate_left; (next => (intro w hSw; (try dsimp only at hSw); obtain ⟨hS1, hS2⟩ := hSw; go_simp; (try with_reducible rfl))); (try simp only [Act.put, List.setIfInBounds_toArray, List.set_cons_zero, List.set_cons_succ])) | (refine wpSch_no rfl (fun _ _ _ h => h) (by rfl) ?_; (try simp only [Act.put, List.setIfInBounds_toArray, List.set_cons_zero, List.set_cons_succ]))))
              refine wpSch_call rfl (by rfl) (fun K hK => ?_)
              go_simp
              refine (rsub_is a1.2 a1.1 hT1 _).mono ?_
              rintro e w' ⟨rfl, rfl⟩
              refine hK.out _ _ ⟨e0, e1⟩ (fun hHeld => ?_)
              clear hK K hHeld
              (try simp only [Act.put, List.setIfInBounds_toArray, List.set_cons_zero, List.set_cons_succ])
              (repeat (first | (refine wpSch_yes (v := ?_) rfl (fun _ _ _ h => h) (by rfl) ?_ ?_; rotate_left; (next => (intro w hSw; (try dsimp only at hSw); obtain ⟨hS1, hS2⟩ := hSw; go_simp; (try with_reducible rfl))); (try simp only [Act.put, List.setIfInBounds_toArray, List.set_cons_zero, List.set_cons_succ])) | (refine wpSch_no rfl (fun _ _ _ h => h) (by rfl) ?_; (try simp only [Act.put, List.setIfInBounds_toArray, List.set_cons_zero, List.set_cons_succ]))))
              refine wpSch_nil ?_
              go_wp2_with fail
              go_ret
              exact ⟨ret_i (by rw [HU.out, HAG.out]; rfl), by rw [HU.out, HAG.out]; exact H3.out.drew, K3.out.drew⟩
          · by_cases hE : z.t1 = z.t0
            · have hE1 : (z.t1 == z.t0) = true := by simpa using hE
              by_cases hF : win / 4 < T - z.t0
              · have HAG : Hid (ageT win z T v = twoT z T v) := Lib.hid ((if_neg hA).trans (if_pos ⟨hE, hF⟩))
                clear hE
                go_upto_region 16 with fail
                go_quiet (fail)
                have HZ' := Lib.hid (HZ.out.drewN nq); have KZ' := Lib.hid (KZ.out.drewN nq)
                go_wp2_with fail
                refine (set1_is g _ HZ'.out NT.out.1 hTz NV.out).mono ?_
                rintro e w3 ⟨⟨_, rfl⟩, h3, k3⟩
                have H3 := Lib.hid h3; have K3 := Lib.hid (KZ'.out.trans k3); clear h3 k3
                go_wp2_with fail
                refine (set2_is g _ H3.out NT.out.1 hTz NV.out).mono ?_
                rintro e w4 ⟨⟨_, rfl⟩, h4, k4⟩
                have H4 := Lib.hid h4; have K4 := Lib.hid (K3.out.trans k4); clear h4 k4
                have g4 : w4.cell? ⟨g, 4, none⟩ = some (.int .u64 z.v0) := H4.out.whole.cell 4
                go_wp2
                go_ret
                exact ⟨ret_i (by rw [HU.out, HAG.out]; rfl), by rw [HU.out, HAG.out]; exact H4.out, K4.out⟩
              · have HN : Hid (¬ (z.t1 = z.t0 ∧ win / 4 < T - z.t0)) := Lib.hid (fun h => hF h.2)
                have hF' : decide (win / 4 < T - z.t0) = false := decide_eq_false hF
                clear hE
                go_upto_region 16 with fail
                go_quiet (fail)
                go_upto_region 19 with fail
                by_cases hG : z.t2 = z.t1
                · have hG1 : (z.t2 == z.t1) = true := by simpa using hG
                  by_cases hI : win / 2 < T - z.t0
                  · first
                    | (exfalso; omega)
                    | (have HAG : Hid (ageT win z T v = oneT z T v) := Lib.hid ((if_neg hA).trans ((if_neg HN.out).trans (if_pos ⟨hG, hI⟩)))
                       clear hG
                       go_quiet (fail)
                       go_wp2_with fail
                       refine (set2_is g _ (HZ.out.drewN _) NT.out.1 hTz NV.out).mono ?_
                       rintro e w4 ⟨⟨_, rfl⟩, h4, k4⟩
                       have H4 := Lib.hid h4; have K4 := Lib.hid ((KZ.out.drewN _).trans k4); clear h4 k4
                       have g4 : w4.cell? ⟨g, 4, none⟩ = some (.int .u64 z.v0) := H4.out.whole.cell 4
                       go_wp2
                       go_ret
                       exact ⟨ret_i (by rw [HU.out, HAG.out]; rfl), by rw [HU.out, HAG.out]; exact H4.out, K4.out⟩)
                  · have HAG : Hid (ageT win z T v = z) := Lib.hid ((if_neg hA).trans ((if_neg HN.out).trans (if_neg (fun h => hI h.2))))
                    have hI' : decide (win / 2 < T - z.t0) = false := decide_eq_false hI
                    clear hG
                    go_quiet (fail)
                    go_wp2
                    go_ret
                    exact ⟨ret_i (by rw [HU.out, HAG.out]), by rw [HU.out, HAG.out]; exact HZ.out.drewN _, KZ.out.drewN _⟩
                · have hG1 : (z.t2 == z.t1) = false := by simpa using hG
                  have HAG : Hid (ageT win z T v = z) := Lib.hid ((if_neg hA).trans ((if_neg HN.out).trans (if_neg (fun h => hG h.1))))
                  clear hG
                  go_quiet (fail)
                  go_wp2
                  go_ret
                  exact ⟨ret_i (by rw [HU.out, HAG.out]), by rw [HU.out, HAG.out]; exact HZ.out.drewN _, KZ.out.drewN _⟩
            · have hE1 : (z.t1 == z.t0) = false := by simpa using hE
              have HN : Hid (¬ (z.t1 = z.t0 ∧ win / 4 < T - z.t0)) := Lib.hid (fun h => hE h.1)
              clear hE
              go_upto_region 16 with fail
              go_quiet (fail)
              go_upto_region 19 with fail
              by_cases hG : z.t2 = z.t1
              · have hG1 : (z.t2 == z.t1) = true := by simpa using hG
                by_cases hI : win / 2 < T - z.t0
                · first
                  | (exfalso; omega)
                  | (have HAG : Hid (ageT win z T v = oneT z T v) := Lib.hid ((if_neg hA).trans ((if_neg HN.out).trans (if_pos ⟨hG, hI⟩)))
                     clear hG
                     go_quiet (fail)
                     go_wp2_with fail
                     refine (set2_is g _ (HZ.out.drewN _) NT.out.1 hTz NV.out).mono ?_
                     rintro e w4 ⟨⟨_, rfl⟩, h4, k4⟩
                     have H4 := Lib.hid h4; have K4 := Lib.hid ((KZ.out.drewN _).trans k4); clear h4 k4
                     have g4 : w4.cell? ⟨g, 4, none⟩ = some (.int .u64 z.v0) := H4.out.whole.cell 4
                     go_wp2
                     go_ret
                     exact ⟨ret_i (by rw [HU.out, HAG.out]; rfl), by rw [HU.out, HAG.out]; exact H4.out, K4.out⟩)
                · have HAG : Hid (ageT win z T v = z) := Lib.hid ((if_neg hA).trans ((if_neg HN.out).trans (if_neg (fun h => hI h.2))))
                  have hI' : decide (win / 2 < T - z.t0) = false := decide_eq_false hI
                  clear hG
                  go_quiet (fail)
                  go_wp2
                  go_ret
                  exact ⟨ret_i (by rw [HU.out, HAG.out]), by rw [HU.out, HAG.out]; exact HZ.out.drewN _, KZ.out.drewN _⟩
              · have hG1 : (z.t2 == z.t1) = false := by simpa using hG
                have HAG : Hid (ageT win z T v = z) := Lib.hid ((if_neg hA).trans ((if_neg HN.out).trans (if_neg (fun h => hG h.1))))
                clear hG
                go_quiet (fail)
                go_wp2
                go_ret
                exact ⟨ret_i (by rw [HU.out, HAG.out]), by rw [HU.out, HAG.out]; exact HZ.out.drewN _, KZ.out.drewN _⟩
end Go.Proofs.YtcjgpkjhfbamfaaGreat
