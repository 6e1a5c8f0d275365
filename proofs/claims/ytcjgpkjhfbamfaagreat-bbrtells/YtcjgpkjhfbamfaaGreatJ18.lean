/-
  The document's own policer (canterref08.Policer): look and Update leave what package policer's do. Conditions: the sample's numbers are of 64 bits.
-/
import Derived.Test.YtcjgpkjhfbamfaaGreatJ01
import Derived.Test.YtcjgpkjhfbamfaaGreatJ17
set_option linter.unusedVariables false
set_option linter.unusedSimpArgs false
namespace Go.Proofs.YtcjgpkjhfbamfaaGreat
open Go.RowKit
set_option maxRecDepth 100000
variable {Fm : Fr} {oo : Nat}
set_option maxHeartbeats 4000000 in
set_option maxRecDepth 100000 in
theorem rplook_any (g : Nat) (x : Pol) (s : Spl) (N : Int) (w : World) (h : RPolW Fm oo w g x N) (hx : x.Nums) (hs : s.Fit) : Calls Tryz.prog 70 #[.pointer (some ⟨g, oo, none⟩), s.v] w fun e w' => (∃ v, e = .returned v) ∧ (∃ N', RPolW Fm oo w' g (endPol x s) N' ∧ (N = x.r → N' = (endPol x s).r)) ∧ Keep (fun k => k = g) w w' := by
  obtain ⟨D, hD⟩ : ∃ D, satSub s.d x.d = D := ⟨_, rfl⟩
  obtain ⟨L, hL⟩ : ∃ L, satSub x.o x.l = L := ⟨_, rfl⟩
  obtain ⟨T, hT⟩ : ∃ T, satSub s.n x.n = T := ⟨_, rfl⟩
  obtain ⟨M, hM⟩ : ∃ M, mulDivV D 50 256 = M := ⟨_, rfl⟩
  obtain ⟨V, hV⟩ : ∃ V, mulDivV D 1000000000 T = V := ⟨_, rfl⟩
  have HVV : Hid (meaV x s = V) := Lib.hid (by unfold meaV; rw [hD, hT, hV])
  have HKK : Hid (meaK x s = (!(D == 0) && !(T == 0) && !(decide (L < M)))) := Lib.hid (by unfold meaK; rw [hD, hT, hL, hM])
  have HM := Lib.hid hM
  have HV := Lib.hid hV
  clear hM hV
  by_cases q0 : D = 0
  · have HE : Hid (endPol x s = x) := Lib.hid (by unfold endPol; rw [HKK.out]; simp [q0])
    have q : (D == 0) = true := by simp [q0]
    clear q0
    have CD := Lib.hid (fun w => (rsub_any s.d x.d hs.d.1 hs.d.2 hx.d.1 hx.d.2 w).mono (R' := fun e w' => e = .returned (.int .u64 D) ∧ w' = w) fun _ _ h => ⟨by rw [← hD]; exact h.1, h.2.symm⟩)
    have CL := Lib.hid (fun w => (rsub_any x.o x.l hx.o.1 hx.o.2 hx.l.1 hx.l.2 w).mono (R' := fun e w' => e = .returned (.int .u64 L) ∧ w' = w) fun _ _ h => ⟨by rw [← hL]; exact h.1, h.2.symm⟩)
    have CT := Lib.hid (fun w => (rsub_any s.n x.n hs.n.1 hs.n.2 hx.n.1 hx.n.2 w).mono (R' := fun e w' => e = .returned (.int .u64 T) ∧ w' = w) fun _ _ h => ⟨by rw [← hT]; exact h.1, h.2.symm⟩)
    have ND : Hid (Num D) := Lib.hid (hD ▸ numSub hs.d hx.d)
    have NT : Hid (Num T) := Lib.hid (hT ▸ numSub hs.n hx.n)
    have NB : Hid (Num x.b) := Lib.hid hx.b
    have NV : Hid (Num V) := Lib.hid (HVV.out ▸ hx.mea hs)
    have H1 := Lib.hid (Part.alloc h (.cells s.c 34))
    have HB := Lib.hid (Whole.new w 34 s.c)
    have HK := Lib.hid ((Keep.refl (fun k => k = g) w).alloc (.cells s.c 34))
    have HBG := Lib.hid (Nat.ne_of_gt (Part.lt h))
    clear h hs hx hD hL hT
    go_enter Tryz.func70, Tryz.ntmps70
    go_upto_region 1 with fail
    generalize hw1 : World.alloc w _ = w1 at *
    generalize w.heap.size = B at *
    clear hw1
    have d0 : w1.cell? ⟨B, 0, none⟩ = some (.int .u64 s.n) := HB.out.cell0
    have d1 : w1.cell? ⟨B, 1, none⟩ = some (.int .u64 s.d) := HB.out.cell 1
    have e4 : w1.cell? ⟨g, oo + 4, none⟩ = some (.int .u64 x.o) := H1.out.cell 4
    have e5 : w1.cell? ⟨g, oo + 5, none⟩ = some (.int .u64 x.n) := H1.out.cell 5
    have e6 : w1.cell? ⟨g, oo + 6, none⟩ = some (.int .u64 x.d) := H1.out.cell 6
    have e7 : w1.cell? ⟨g, oo + 7, none⟩ = some (.int .u64 x.l) := H1.out.cell 7
    go_quiet ((go_at_call 43; first | (with_reducible exact Calls.quiet_of_same (CD.out _)) | (with_reducible exact Calls.quiet_of_same (CL.out _)) | (with_reducible exact Calls.quiet_of_same (CT.out _))))
    have H2 := Lib.hid (H1.out.drewN nq)
    have HB2 := Lib.hid (HB.out.drewN nq)
    have HK2 := Lib.hid (HK.out.drewN nq)
    clear d0 d1 e4 e5 e6 e7 H1 HB HK CD CL CT
    generalize w1.drewN nq = w2 at *
    go_wp2
    refine bodyPost_ret (results_none rfl _ _ _) rfl ?_
    exact ⟨⟨_, rfl⟩, ⟨N, by rw [HE.out]; exact H2.out, fun e => by rw [HE.out]; exact e⟩, HK2.out⟩
  · have q : (D == 0) = false := by simp [q0]
    by_cases q1 : T = 0
    · have HE : Hid (endPol x s = x) := Lib.hid (by unfold endPol; rw [HKK.out]; simp [q1])
      have q' : (T == 0) = true := by simp [q1]
      clear q0 q1
      have CD := Lib.hid (fun w => (rsub_any s.d x.d hs.d.1 hs.d.2 hx.d.1 hx.d.2 w).mono (R' := fun e w' => e = .returned (.int .u64 D) ∧ w' = w) fun _ _ h => ⟨by rw [← hD]; exact h.1, h.2.symm⟩)
      have CL := Lib.hid (fun w => (rsub_any x.o x.l hx.o.1 hx.o.2 hx.l.1 hx.l.2 w).mono (R' := fun e w' => e = .returned (.int .u64 L) ∧ w' = w) fun _ _ h => ⟨by rw [← hL]; exact h.1, h.2.symm⟩)
      have CT := Lib.hid (fun w => (rsub_any s.n x.n hs.n.1 hs.n.2 hx.n.1 hx.n.2 w).mono (R' := fun e w' => e = .returned (.int .u64 T) ∧ w' = w) fun _ _ h => ⟨by rw [← hT]; exact h.1, h.2.symm⟩)
      have ND : Hid (Num D) := Lib.hid (hD ▸ numSub hs.d hx.d)
      have NT : Hid (Num T) := Lib.hid (hT ▸ numSub hs.n hx.n)
      have NB : Hid (Num x.b) := Lib.hid hx.b
      have NV : Hid (Num V) := Lib.hid (HVV.out ▸ hx.mea hs)
      have H1 := Lib.hid (Part.alloc h (.cells s.c 34))
      have HB := Lib.hid (Whole.new w 34 s.c)
      have HK := Lib.hid ((Keep.refl (fun k => k = g) w).alloc (.cells s.c 34))
      have HBG := Lib.hid (Nat.ne_of_gt (Part.lt h))
      clear h hs hx hD hL hT
      go_enter Tryz.func70, Tryz.ntmps70
      go_upto_region 1 with fail
      generalize hw1 : World.alloc w _ = w1 at *
      generalize w.heap.size = B at *
      clear hw1
      have d0 : w1.cell? ⟨B, 0, none⟩ = some (.int .u64 s.n) := HB.out.cell0
      have d1 : w1.cell? ⟨B, 1, none⟩ = some (.int .u64 s.d) := HB.out.cell 1
      have e4 : w1.cell? ⟨g, oo + 4, none⟩ = some (.int .u64 x.o) := H1.out.cell 4
      have e5 : w1.cell? ⟨g, oo + 5, none⟩ = some (.int .u64 x.n) := H1.out.cell 5
      have e6 : w1.cell? ⟨g, oo + 6, none⟩ = some (.int .u64 x.d) := H1.out.cell 6
      have e7 : w1.cell? ⟨g, oo + 7, none⟩ = some (.int .u64 x.l) := H1.out.cell 7
      go_quiet ((go_at_call 43; first | (with_reducible exact Calls.quiet_of_same (CD.out _)) | (with_reducible exact Calls.quiet_of_same (CL.out _)) | (with_reducible exact Calls.quiet_of_same (CT.out _))))
      have H2 := Lib.hid (H1.out.drewN nq)
      have HB2 := Lib.hid (HB.out.drewN nq)
      have HK2 := Lib.hid (HK.out.drewN nq)
      clear d0 d1 e4 e5 e6 e7 H1 HB HK CD CL CT
      generalize w1.drewN nq = w2 at *
      go_wp2
      refine bodyPost_ret (results_none rfl _ _ _) rfl ?_
      exact ⟨⟨_, rfl⟩, ⟨N, by rw [HE.out]; exact H2.out, fun e => by rw [HE.out]; exact e⟩, HK2.out⟩
    · have q' : (T == 0) = false := by simp [q1]
      by_cases q2 : L < M
      · have HE : Hid (endPol x s = x) := Lib.hid (by unfold endPol; rw [HKK.out]; simp [q2])
        clear q0 q1
        have CD := Lib.hid (fun w => (rsub_any s.d x.d hs.d.1 hs.d.2 hx.d.1 hx.d.2 w).mono (R' := fun e w' => e = .returned (.int .u64 D) ∧ w' = w) fun _ _ h => ⟨by rw [← hD]; exact h.1, h.2.symm⟩)
        have CL := Lib.hid (fun w => (rsub_any x.o x.l hx.o.1 hx.o.2 hx.l.1 hx.l.2 w).mono (R' := fun e w' => e = .returned (.int .u64 L) ∧ w' = w) fun _ _ h => ⟨by rw [← hL]; exact h.1, h.2.symm⟩)
        have CT := Lib.hid (fun w => (rsub_any s.n x.n hs.n.1 hs.n.2 hx.n.1 hx.n.2 w).mono (R' := fun e w' => e = .returned (.int .u64 T) ∧ w' = w) fun _ _ h => ⟨by rw [← hT]; exact h.1, h.2.symm⟩)
        have ND : Hid (Num D) := Lib.hid (hD ▸ numSub hs.d hx.d)
        have NT : Hid (Num T) := Lib.hid (hT ▸ numSub hs.n hx.n)
        have NB : Hid (Num x.b) := Lib.hid hx.b
        have NV : Hid (Num V) := Lib.hid (HVV.out ▸ hx.mea hs)
        have H1 := Lib.hid (Part.alloc h (.cells s.c 34))
        have HB := Lib.hid (Whole.new w 34 s.c)
        have HK := Lib.hid ((Keep.refl (fun k => k = g) w).alloc (.cells s.c 34))
        have HBG := Lib.hid (Nat.ne_of_gt (Part.lt h))
        clear h hs hx hD hL hT
        go_enter Tryz.func70, Tryz.ntmps70
        go_upto_region 1 with fail
        generalize hw1 : World.alloc w _ = w1 at *
        generalize w.heap.size = B at *
        clear hw1
        have d0 : w1.cell? ⟨B, 0, none⟩ = some (.int .u64 s.n) := HB.out.cell0
        have d1 : w1.cell? ⟨B, 1, none⟩ = some (.int .u64 s.d) := HB.out.cell 1
        have e4 : w1.cell? ⟨g, oo + 4, none⟩ = some (.int .u64 x.o) := H1.out.cell 4
        have e5 : w1.cell? ⟨g, oo + 5, none⟩ = some (.int .u64 x.n) := H1.out.cell 5
        have e6 : w1.cell? ⟨g, oo + 6, none⟩ = some (.int .u64 x.d) := H1.out.cell 6
        have e7 : w1.cell? ⟨g, oo + 7, none⟩ = some (.int .u64 x.l) := H1.out.cell 7
        go_quiet ((go_at_call 43; first | (with_reducible exact Calls.quiet_of_same (CD.out _)) | (with_reducible exact Calls.quiet_of_same (CL.out _)) | (with_reducible exact Calls.quiet_of_same (CT.out _))))
        have H2 := Lib.hid (H1.out.drewN nq)
        have HB2 := Lib.hid (HB.out.drewN nq)
        have HK2 := Lib.hid (HK.out.drewN nq)
        clear d0 d1 e4 e5 e6 e7 H1 HB HK CD CL CT
        generalize w1.drewN nq = w2 at *
        go_wp2_with fail
        refine (rmuldiv_any _ _ _ ND.out.1 ND.out.2 (by decide) (by decide) (by decide) (by decide) _).mono ?_
        rintro e w' ⟨rfl, rfl⟩
        rw [HM.out]
        go_wp2
        refine bodyPost_ret (results_none rfl _ _ _) rfl ?_
        exact ⟨⟨_, rfl⟩, ⟨N, by rw [HE.out]; exact H2.out, fun e => by rw [HE.out]; exact e⟩, HK2.out⟩
      · have HT : Hid (meaK x s = true) := Lib.hid (by rw [HKK.out, q, q']; simp [q2])
        have q3 : decide (L < M) = false := by simp [q2]
        clear q0 q1
        by_cases hp : 0 < x.b
        · cases hg : decide (gapPol V x.b ≤ x.b / 8)
          · have HE : Hid (endPol x s = begPol ⟨x.u, x.m, x.n, x.d, x.l, V, x.r, x.o⟩ s) := Lib.hid (by
              unfold endPol nearPol
              rw [if_pos HT.out, HVV.out, hg, Bool.and_false]
              exact if_neg (by decide))
            have HG := Lib.hid hg
            clear hg
            have CD := Lib.hid (fun w => (rsub_any s.d x.d hs.d.1 hs.d.2 hx.d.1 hx.d.2 w).mono (R' := fun e w' => e = .returned (.int .u64 D) ∧ w' = w) fun _ _ h => ⟨by rw [← hD]; exact h.1, h.2.symm⟩)
            have CL := Lib.hid (fun w => (rsub_any x.o x.l hx.o.1 hx.o.2 hx.l.1 hx.l.2 w).mono (R' := fun e w' => e = .returned (.int .u64 L) ∧ w' = w) fun _ _ h => ⟨by rw [← hL]; exact h.1, h.2.symm⟩)
            have CT := Lib.hid (fun w => (rsub_any s.n x.n hs.n.1 hs.n.2 hx.n.1 hx.n.2 w).mono (R' := fun e w' => e = .returned (.int .u64 T) ∧ w' = w) fun _ _ h => ⟨by rw [← hT]; exact h.1, h.2.symm⟩)
            have ND : Hid (Num D) := Lib.hid (hD ▸ numSub hs.d hx.d)
            have NT : Hid (Num T) := Lib.hid (hT ▸ numSub hs.n hx.n)
            have NB : Hid (Num x.b) := Lib.hid hx.b
            have NV : Hid (Num V) := Lib.hid (HVV.out ▸ hx.mea hs)
            have H1 := Lib.hid (Part.alloc h (.cells s.c 34))
            have HB := Lib.hid (Whole.new w 34 s.c)
            have HK := Lib.hid ((Keep.refl (fun k => k = g) w).alloc (.cells s.c 34))
            have HBG := Lib.hid (Nat.ne_of_gt (Part.lt h))
            clear h hs hx hD hL hT
            go_enter Tryz.func70, Tryz.ntmps70
            go_upto_region 1 with fail
            generalize hw1 : World.alloc w _ = w1 at *
            generalize w.heap.size = B at *
            clear hw1
            have d0 : w1.cell? ⟨B, 0, none⟩ = some (.int .u64 s.n) := HB.out.cell0
            have d1 : w1.cell? ⟨B, 1, none⟩ = some (.int .u64 s.d) := HB.out.cell 1
            have e4 : w1.cell? ⟨g, oo + 4, none⟩ = some (.int .u64 x.o) := H1.out.cell 4
            have e5 : w1.cell? ⟨g, oo + 5, none⟩ = some (.int .u64 x.n) := H1.out.cell 5
            have e6 : w1.cell? ⟨g, oo + 6, none⟩ = some (.int .u64 x.d) := H1.out.cell 6
            have e7 : w1.cell? ⟨g, oo + 7, none⟩ = some (.int .u64 x.l) := H1.out.cell 7
            go_quiet ((go_at_call 43; first | (with_reducible exact Calls.quiet_of_same (CD.out _)) | (with_reducible exact Calls.quiet_of_same (CL.out _)) | (with_reducible exact Calls.quiet_of_same (CT.out _))))
            have H2 := Lib.hid (H1.out.drewN nq)
            have HB2 := Lib.hid (HB.out.drewN nq)
            have HK2 := Lib.hid (HK.out.drewN nq)
            clear d0 d1 e4 e5 e6 e7 H1 HB HK CD CL CT
            generalize w1.drewN nq = w2 at *
            go_wp2_with fail
            refine (rmuldiv_any _ _ _ ND.out.1 ND.out.2 (by decide) (by decide) (by decide) (by decide) _).mono ?_
            rintro e w' ⟨rfl, rfl⟩
            rw [HM.out]
            go_wp2_with fail
            refine (rmuldiv_any _ _ _ ND.out.1 ND.out.2 (by decide) (by decide) NT.out.1 NT.out.2 _).mono ?_
            rintro e w' ⟨rfl, rfl⟩
            rw [HV.out]
            have c2 : w2.cell? ⟨g, oo + 2, none⟩ = some (.int .u64 x.b) := H2.out.cell 2
            go_wp2_with fail
            refine (rpnear_any _ _ _ NB.out NV.out).mono ?_
            rintro e w' ⟨rfl, rfl⟩
            rw [HG.out]
            have f2 := H2.out.free 2
            have P2 : Hid (RPolW Fm oo (w2.setCell ⟨g, oo + 2, none⟩ (.int .u64 V)) g ⟨x.u, x.m, x.n, x.d, x.l, V, x.r, x.o⟩ N) := Lib.hid (H2.out.put 2 (.int .u64 V))
            have K2 := Lib.hid (HK2.out.setCell (p := ⟨g, oo + 2, none⟩) (.inl rfl) (.int .u64 V))
            have HB3 := HB2.out.far (p := ⟨g, oo + 2, none⟩) HBG.out (.int .u64 V)
            have d0 : (w2.setCell ⟨g, oo + 2, none⟩ (.int .u64 V)).cell? ⟨B, 0, none⟩ = some (.int .u64 s.n) := HB3.cell0
            have d1 : (w2.setCell ⟨g, oo + 2, none⟩ (.int .u64 V)).cell? ⟨B, 1, none⟩ = some (.int .u64 s.d) := HB3.cell 1
            have d2 : (w2.setCell ⟨g, oo + 2, none⟩ (.int .u64 V)).cell? ⟨B, 2, none⟩ = some (.int .u64 s.p) := HB3.cell 2
            have d3 : (w2.setCell ⟨g, oo + 2, none⟩ (.int .u64 V)).cell? ⟨B, 3, none⟩ = some (.int .u64 s.i) := HB3.cell 3
            have d4 : (w2.setCell ⟨g, oo + 2, none⟩ (.int .u64 V)).cell? ⟨B, 4, none⟩ = some (.int .u64 s.r) := HB3.cell 4
            have d5 : (w2.setCell ⟨g, oo + 2, none⟩ (.int .u64 V)).cell? ⟨B, 5, none⟩ = some (.int .u64 s.a) := HB3.cell 5
            have d6 : (w2.setCell ⟨g, oo + 2, none⟩ (.int .u64 V)).cell? ⟨B, 6, none⟩ = some (.int .u64 s.o) := HB3.cell 6
            have d7 : (w2.setCell ⟨g, oo + 2, none⟩ (.int .u64 V)).cell? ⟨B, 7, none⟩ = some (.int .u64 s.f) := HB3.cell 7
            have d8 : (w2.setCell ⟨g, oo + 2, none⟩ (.int .u64 V)).cell? ⟨B, 8, none⟩ = some (.bool s.l) := HB3.cell 8
            clear HB3 HB2 HK2
            go_wp2_with fail
            refine (rpbegin_any g ⟨x.u, x.m, x.n, x.d, x.l, V, x.r, x.o⟩ s N _ P2.out).mono ?_
            rintro e w5 ⟨⟨_, rfl⟩, h5, k5⟩
            have H5 := Lib.hid h5; have K5 := Lib.hid (K2.out.trans k5)
            clear h5 k5 d0 d1 d2 d3 d4 d5 d6 d7 d8 c2 f2 P2 K2
            go_wp2
            go_end0
            exact ⟨⟨_, rfl⟩, ⟨0, by rw [HE.out]; exact H5.out, fun _ => by rw [HE.out]; rfl⟩, K5.out⟩
          · have HE : Hid (endPol x s = ⟨true, x.m, x.n, x.d, x.l, halfPol x.b V, 0, x.o⟩) := Lib.hid (by
              unfold endPol nearPol
              rw [if_pos HT.out, HVV.out, hg, decide_eq_true hp]
              exact if_pos rfl)
            have HG := Lib.hid hg
            clear hg
            have CD := Lib.hid (fun w => (rsub_any s.d x.d hs.d.1 hs.d.2 hx.d.1 hx.d.2 w).mono (R' := fun e w' => e = .returned (.int .u64 D) ∧ w' = w) fun _ _ h => ⟨by rw [← hD]; exact h.1, h.2.symm⟩)
            have CL := Lib.hid (fun w => (rsub_any x.o x.l hx.o.1 hx.o.2 hx.l.1 hx.l.2 w).mono (R' := fun e w' => e = .returned (.int .u64 L) ∧ w' = w) fun _ _ h => ⟨by rw [← hL]; exact h.1, h.2.symm⟩)
            have CT := Lib.hid (fun w => (rsub_any s.n x.n hs.n.1 hs.n.2 hx.n.1 hx.n.2 w).mono (R' := fun e w' => e = .returned (.int .u64 T) ∧ w' = w) fun _ _ h => ⟨by rw [← hT]; exact h.1, h.2.symm⟩)
            have ND : Hid (Num D) := Lib.hid (hD ▸ numSub hs.d hx.d)
            have NT : Hid (Num T) := Lib.hid (hT ▸ numSub hs.n hx.n)
            have NB : Hid (Num x.b) := Lib.hid hx.b
            have NV : Hid (Num V) := Lib.hid (HVV.out ▸ hx.mea hs)
            have H1 := Lib.hid (Part.alloc h (.cells s.c 34))
            have HB := Lib.hid (Whole.new w 34 s.c)
            have HK := Lib.hid ((Keep.refl (fun k => k = g) w).alloc (.cells s.c 34))
            have HBG := Lib.hid (Nat.ne_of_gt (Part.lt h))
            clear h hs hx hD hL hT
            go_enter Tryz.func70, Tryz.ntmps70
            go_upto_region 1 with fail
            generalize hw1 : World.alloc w _ = w1 at *
            generalize w.heap.size = B at *
            clear hw1
            have d0 : w1.cell? ⟨B, 0, none⟩ = some (.int .u64 s.n) := HB.out.cell0
            have d1 : w1.cell? ⟨B, 1, none⟩ = some (.int .u64 s.d) := HB.out.cell 1
            have e4 : w1.cell? ⟨g, oo + 4, none⟩ = some (.int .u64 x.o) := H1.out.cell 4
            have e5 : w1.cell? ⟨g, oo + 5, none⟩ = some (.int .u64 x.n) := H1.out.cell 5
            have e6 : w1.cell? ⟨g, oo + 6, none⟩ = some (.int .u64 x.d) := H1.out.cell 6
            have e7 : w1.cell? ⟨g, oo + 7, none⟩ = some (.int .u64 x.l) := H1.out.cell 7
            go_quiet ((go_at_call 43; first | (with_reducible exact Calls.quiet_of_same (CD.out _)) | (with_reducible exact Calls.quiet_of_same (CL.out _)) | (with_reducible exact Calls.quiet_of_same (CT.out _))))
            have H2 := Lib.hid (H1.out.drewN nq)
            have HB2 := Lib.hid (HB.out.drewN nq)
            have HK2 := Lib.hid (HK.out.drewN nq)
            clear d0 d1 e4 e5 e6 e7 H1 HB HK CD CL CT
            generalize w1.drewN nq = w2 at *
            go_wp2_with fail
            refine (rmuldiv_any _ _ _ ND.out.1 ND.out.2 (by decide) (by decide) (by decide) (by decide) _).mono ?_
            rintro e w' ⟨rfl, rfl⟩
            rw [HM.out]
            go_wp2_with fail
            refine (rmuldiv_any _ _ _ ND.out.1 ND.out.2 (by decide) (by decide) NT.out.1 NT.out.2 _).mono ?_
            rintro e w' ⟨rfl, rfl⟩
            rw [HV.out]
            have c2 : w2.cell? ⟨g, oo + 2, none⟩ = some (.int .u64 x.b) := H2.out.cell 2
            go_wp2_with fail
            refine (rpnear_any _ _ _ NB.out NV.out).mono ?_
            rintro e w' ⟨rfl, rfl⟩
            rw [HG.out]
            go_upto_region 5 with fail
            obtain ⟨b, hb⟩ : ∃ b, x.b = b := ⟨_, rfl⟩
            rw [hb] at c2 NB hp HE
            obtain ⟨hb0, hb1⟩ := NB.out
            obtain ⟨hv0, hv1⟩ := NV.out
            have t1 : b.tdiv 2 = b / 2 := Int.tdiv_eq_ediv_of_nonneg hb0
            have t2 : V.tdiv 2 = V / 2 := Int.tdiv_eq_ediv_of_nonneg hv0
            have t3 : b.tmod 2 = b % 2 := Int.tmod_eq_emod_of_nonneg hb0
            have t4 : V.tmod 2 = V % 2 := Int.tmod_eq_emod_of_nonneg hv0
            have t5 : (b % 2 + V % 2).tdiv 2 = (b % 2 + V % 2) / 2 := Int.tdiv_eq_ediv_of_nonneg (by omega)
            have u1 : IntKind.u64.wrap (b / 2) = b / 2 := by rw [IntKind.wrap_u64]; omega
            have u2 : IntKind.u64.wrap (V / 2) = V / 2 := by rw [IntKind.wrap_u64]; omega
            have u3 : IntKind.u64.wrap (b % 2) = b % 2 := by rw [IntKind.wrap_u64]; omega
            have u4 : IntKind.u64.wrap (V % 2) = V % 2 := by rw [IntKind.wrap_u64]; omega
            have u5 : IntKind.u64.wrap (b / 2 + V / 2) = b / 2 + V / 2 := by rw [IntKind.wrap_u64]; omega
            have u6 : IntKind.u64.wrap (b % 2 + V % 2) = b % 2 + V % 2 := by rw [IntKind.wrap_u64]; omega
            have u7 : IntKind.u64.wrap ((b % 2 + V % 2) / 2) = (b % 2 + V % 2) / 2 := by rw [IntKind.wrap_u64]; omega
            have u8 : IntKind.u64.wrap (b / 2 + V / 2 + (b % 2 + V % 2) / 2) = b / 2 + V / 2 + (b % 2 + V % 2) / 2 := by rw [IntKind.wrap_u64]; omega
            have hZ : b / 2 + V / 2 + (b % 2 + V % 2) / 2 = halfPol b V := by unfold halfPol; omega
            have HZ := Lib.hid hZ
            clear hZ hb0 hb1 hv0 hv1
            have f2 := H2.out.drew.free 2
            have P2 := H2.out.drew.put 2 (.int .u64 (b / 2 + V / 2 + (b % 2 + V % 2) / 2))
            have g0 : (w2.drew.setCell ⟨g, oo + 2, none⟩ (.int .u64 (b / 2 + V / 2 + (b % 2 + V % 2) / 2))).cell? ⟨g, oo, none⟩ = some (.bool x.u) := P2.cell0
            have k0 := P2.free0
            have P0 := P2.put0 (.bool true)
            have g3 : ((w2.drew.setCell ⟨g, oo + 2, none⟩ (.int .u64 (b / 2 + V / 2 + (b % 2 + V % 2) / 2))).setCell ⟨g, oo, none⟩ (.bool true)).cell? ⟨g, oo + 3, none⟩ = some (.int .i64 N) := P0.cell 3
            have k3 := P0.free 3
            have HP := Lib.hid (P0.put 3 (.int .i64 0))
            have HK4 := Lib.hid (((HK2.out.drew.setCell (p := ⟨g, oo + 2, none⟩) (.inl rfl) (.int .u64 (b / 2 + V / 2 + (b % 2 + V % 2) / 2))).setCell (p := ⟨g, oo, none⟩) (.inl rfl) (.bool true)).setCell (p := ⟨g, oo + 3, none⟩) (.inl rfl) (.int .i64 0))
            clear P2 P0
            refine wp_region_late (fun W => W.cell? ⟨g, oo + 2, none⟩ = some (.int .u64 b)) [21] (.yes 0 (.yes 1 (.yes 2 (.yes 3 (.yes 4 (.yes 5 (.yes 6 (.yes 7 (.yes 8 (.yes 9 (.yes 10 (.yes 11 (.yes 12 (.yes 13 (.yes 14 (.yes 15 (.yes 16 (.yes 17 (.yes 18 (.yes 19 (.yes 20 (.one 21 .nil)))))))))))))))))))))) (by kernel_rfl) (by kernel_rfl) (by kernel_rfl) (by kernel_rfl) c2 ?_
            have c2' : w2.drew.cell? ⟨g, oo + 2, none⟩ = some (.int .u64 b) := c2
            generalize w2.drew = w3 at *
            (repeat (refine wpSchL_yes (v := ?_) rfl (fun _ _ _ h => h) (by rfl) ?_ ?_; rotate_left; (next => (intro w hSw; (try dsimp only at hSw); go_simp; (try with_reducible rfl))); (try simp only [Act.put, List.setIfInBounds_toArray, List.set_cons_zero, List.set_cons_succ])))
            refine wpSchL_one ?_
            refine wpOneL_call rfl (by rfl) (fun K hK => ?_)
            go_simp
            refine hK.out _ _ ?_ (fun hHeld => ?_)
            · exact fun h => absurd h (by decide)
            clear hK K hHeld
            (try simp only [Act.put, List.setIfInBounds_toArray, List.set_cons_zero, List.set_cons_succ])
            refine wpSchL_nil ?_
            clear t1 t2 t3 t4 t5 u1 u2 u3 u4 u5 u6 u7 u8 q q' q2 q3 hp
            rw [HZ.out] at g0 k0 g3 k3 HP HK4 ⊢
            go_wp2
            refine bodyPost_ret (results_none rfl _ _ _) rfl ?_
            exact ⟨⟨_, rfl⟩, ⟨0, by rw [HE.out]; exact HP.out, fun _ => by rw [HE.out]⟩, HK4.out⟩
        · have HE : Hid (endPol x s = begPol ⟨x.u, x.m, x.n, x.d, x.l, V, x.r, x.o⟩ s) := Lib.hid (by
            unfold endPol nearPol
            rw [if_pos HT.out, HVV.out, show decide (0 < x.b) = false by simp [hp], Bool.false_and]
            exact if_neg (by decide))
          have hq : decide (0 < x.b) = false := by simp [hp]
          have CD := Lib.hid (fun w => (rsub_any s.d x.d hs.d.1 hs.d.2 hx.d.1 hx.d.2 w).mono (R' := fun e w' => e = .returned (.int .u64 D) ∧ w' = w) fun _ _ h => ⟨by rw [← hD]; exact h.1, h.2.symm⟩)
          have CL := Lib.hid (fun w => (rsub_any x.o x.l hx.o.1 hx.o.2 hx.l.1 hx.l.2 w).mono (R' := fun e w' => e = .returned (.int .u64 L) ∧ w' = w) fun _ _ h => ⟨by rw [← hL]; exact h.1, h.2.symm⟩)
          have CT := Lib.hid (fun w => (rsub_any s.n x.n hs.n.1 hs.n.2 hx.n.1 hx.n.2 w).mono (R' := fun e w' => e = .returned (.int .u64 T) ∧ w' = w) fun _ _ h => ⟨by rw [← hT]; exact h.1, h.2.symm⟩)
          have ND : Hid (Num D) := Lib.hid (hD ▸ numSub hs.d hx.d)
          have NT : Hid (Num T) := Lib.hid (hT ▸ numSub hs.n hx.n)
          have NB : Hid (Num x.b) := Lib.hid hx.b
          have NV : Hid (Num V) := Lib.hid (HVV.out ▸ hx.mea hs)
          have H1 := Lib.hid (Part.alloc h (.cells s.c 34))
          have HB := Lib.hid (Whole.new w 34 s.c)
          have HK := Lib.hid ((Keep.refl (fun k => k = g) w).alloc (.cells s.c 34))
          have HBG := Lib.hid (Nat.ne_of_gt (Part.lt h))
          clear h hs hx hD hL hT
          go_enter Tryz.func70, Tryz.ntmps70
          go_upto_region 1 with fail
          generalize hw1 : World.alloc w _ = w1 at *
          generalize w.heap.size = B at *
          clear hw1
          have d0 : w1.cell? ⟨B, 0, none⟩ = some (.int .u64 s.n) := HB.out.cell0
          have d1 : w1.cell? ⟨B, 1, none⟩ = some (.int .u64 s.d) := HB.out.cell 1
          have e4 : w1.cell? ⟨g, oo + 4, none⟩ = some (.int .u64 x.o) := H1.out.cell 4
          have e5 : w1.cell? ⟨g, oo + 5, none⟩ = some (.int .u64 x.n) := H1.out.cell 5
          have e6 : w1.cell? ⟨g, oo + 6, none⟩ = some (.int .u64 x.d) := H1.out.cell 6
          have e7 : w1.cell? ⟨g, oo + 7, none⟩ = some (.int .u64 x.l) := H1.out.cell 7
          go_quiet ((go_at_call 43; first | (with_reducible exact Calls.quiet_of_same (CD.out _)) | (with_reducible exact Calls.quiet_of_same (CL.out _)) | (with_reducible exact Calls.quiet_of_same (CT.out _))))
          have H2 := Lib.hid (H1.out.drewN nq)
          have HB2 := Lib.hid (HB.out.drewN nq)
          have HK2 := Lib.hid (HK.out.drewN nq)
          clear d0 d1 e4 e5 e6 e7 H1 HB HK CD CL CT
          generalize w1.drewN nq = w2 at *
          go_wp2_with fail
          refine (rmuldiv_any _ _ _ ND.out.1 ND.out.2 (by decide) (by decide) (by decide) (by decide) _).mono ?_
          rintro e w' ⟨rfl, rfl⟩
          rw [HM.out]
          go_wp2_with fail
          refine (rmuldiv_any _ _ _ ND.out.1 ND.out.2 (by decide) (by decide) NT.out.1 NT.out.2 _).mono ?_
          rintro e w' ⟨rfl, rfl⟩
          rw [HV.out]
          have c2 : w2.cell? ⟨g, oo + 2, none⟩ = some (.int .u64 x.b) := H2.out.cell 2
          have f2 := H2.out.free 2
          have P2 : Hid (RPolW Fm oo (w2.setCell ⟨g, oo + 2, none⟩ (.int .u64 V)) g ⟨x.u, x.m, x.n, x.d, x.l, V, x.r, x.o⟩ N) := Lib.hid (H2.out.put 2 (.int .u64 V))
          have K2 := Lib.hid (HK2.out.setCell (p := ⟨g, oo + 2, none⟩) (.inl rfl) (.int .u64 V))
          have HB3 := HB2.out.far (p := ⟨g, oo + 2, none⟩) HBG.out (.int .u64 V)
          have d0 : (w2.setCell ⟨g, oo + 2, none⟩ (.int .u64 V)).cell? ⟨B, 0, none⟩ = some (.int .u64 s.n) := HB3.cell0
          have d1 : (w2.setCell ⟨g, oo + 2, none⟩ (.int .u64 V)).cell? ⟨B, 1, none⟩ = some (.int .u64 s.d) := HB3.cell 1
          have d2 : (w2.setCell ⟨g, oo + 2, none⟩ (.int .u64 V)).cell? ⟨B, 2, none⟩ = some (.int .u64 s.p) := HB3.cell 2
          have d3 : (w2.setCell ⟨g, oo + 2, none⟩ (.int .u64 V)).cell? ⟨B, 3, none⟩ = some (.int .u64 s.i) := HB3.cell 3
          have d4 : (w2.setCell ⟨g, oo + 2, none⟩ (.int .u64 V)).cell? ⟨B, 4, none⟩ = some (.int .u64 s.r) := HB3.cell 4
          have d5 : (w2.setCell ⟨g, oo + 2, none⟩ (.int .u64 V)).cell? ⟨B, 5, none⟩ = some (.int .u64 s.a) := HB3.cell 5
          have d6 : (w2.setCell ⟨g, oo + 2, none⟩ (.int .u64 V)).cell? ⟨B, 6, none⟩ = some (.int .u64 s.o) := HB3.cell 6
          have d7 : (w2.setCell ⟨g, oo + 2, none⟩ (.int .u64 V)).cell? ⟨B, 7, none⟩ = some (.int .u64 s.f) := HB3.cell 7
          have d8 : (w2.setCell ⟨g, oo + 2, none⟩ (.int .u64 V)).cell? ⟨B, 8, none⟩ = some (.bool s.l) := HB3.cell 8
          clear HB3 HB2 HK2
          go_wp2_with fail
          refine (rpbegin_any g ⟨x.u, x.m, x.n, x.d, x.l, V, x.r, x.o⟩ s N _ P2.out).mono ?_
          rintro e w5 ⟨⟨_, rfl⟩, h5, k5⟩
          have H5 := Lib.hid h5; have K5 := Lib.hid (K2.out.trans k5)
          clear h5 k5 d0 d1 d2 d3 d4 d5 d6 d7 d8 c2 f2 P2 K2
          go_wp2
          go_end0
          exact ⟨⟨_, rfl⟩, ⟨0, by rw [HE.out]; exact H5.out, fun _ => by rw [HE.out]; rfl⟩, K5.out⟩
end Go.Proofs.YtcjgpkjhfbamfaaGreat
