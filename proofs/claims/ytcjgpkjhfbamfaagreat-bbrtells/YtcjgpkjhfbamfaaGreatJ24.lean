/-
  Package bbr's grow: what it leaves. Conditions: the Model lies in memory as New makes it, be it inside a block; numbers are of 64 bits.
-/
import Derived.Test.YtcjgpkjhfbamfaaGreatJ23
set_option linter.unusedVariables false
set_option linter.unusedSimpArgs false
namespace Go.Proofs.YtcjgpkjhfbamfaaGreat
open Go.RowKit
set_option maxRecDepth 100000
variable {Fm : Fr} {oo : Nat}
set_option maxHeartbeats 4000000 in
theorem grow_any (g : Nat) (x : Mdl) (s : Spl) (tso : Int) (w : World) (h : MdlAt Fm oo w g x) (hf : x.Fit) (hs : s.Fit) (ht : Num tso) : Calls Tryz.prog 66 #[.pointer (some ⟨g, oo, none⟩), s.v, .int .u64 tso] w fun e w' => (∃ v, e = .returned v) ∧ MdlAt Fm oo w' g (groM x s tso) ∧ Keep (fun k => k = g) w w' := by
  obtain ⟨W, hW⟩ : ∃ W, wantM x tso = W := ⟨_, rfl⟩
  obtain ⟨A, hA⟩ : ∃ A, satAdd x.w s.a = A := ⟨_, rfl⟩
  obtain ⟨I, hI⟩ : ∃ I, satMul 10 x.s = I := ⟨_, rfl⟩
  obtain ⟨FU, hFU⟩ : ∃ b, fullP x.p = b := ⟨_, rfl⟩
  have HBN := Lib.hid (bwM_num hf)
  have HQN := Lib.hid hf.q.b
  have HRN : Hid (Num (roomM x)) := Lib.hid roomM_num
  have HTN := Lib.hid ht
  have HSN := Lib.hid hf.mss
  have HWN := Lib.hid hf.w
  have HW : Hid (winV (bwM x) x.q.b (roomM x) tso x.s = W) := Lib.hid hW
  have HA := Lib.hid hA
  have HI := Lib.hid hI
  have HFU := Lib.hid hFU
  clear ht
  have HM := Lib.hid (SM.begin (s := s) h)
  have HF := Lib.hid hf
  have HS := Lib.hid hs
  clear h hf hs
  cases FU
  · by_cases hw : x.w < W
    · have HE : Hid (groM x s tso = { x with w := A }) := Lib.hid (by simp [groM, hFU, hW, hA, hw])
      clear hFU hW hA hI
      go_enter Tryz.func66, Tryz.ntmps66
      go_upto_region 1 with fail
      generalize hw1 : World.alloc w _ = w1 at *
      have HM1 : Hid (SM Fm oo w g w.heap.size x s w1) := HM
      clear HM hw1
      generalize w.heap.size = B at *
      obtain ⟨a0, a1, a2, a3, a4, a5, a6, a7, a8⟩ := HM1.out.spl
      clear a0 a1 a2 a3 a4 a5 a6 a7 a8
      refine wp_region_sch (SM Fm oo w g B x s) [(true, 0), (true, 2), (true, 3), (true, 4), (true, 6), (true, 8), (true, 9), (true, 10), (true, 11), (true, 12), (false, 1), (false, 5), (false, 7), (false, 13), (true, 14)] (by kernel_rfl) (by kernel_rfl) (by kernel_rfl) (by kernel_rfl) HM1.out.drew ?_
      (repeat (first | (refine wpSch_yes (v := ?_) rfl (fun _ _ _ h => h) (by rfl) ?_ ?_; rotate_left; (next => (intro w hSw; obtain ⟨a0, a1, a2, a3, a4, a5, a6, a7, a8⟩ := SM.spl hSw; obtain ⟨m0, m1, m2, m3, m4, m5, m6, m7⟩ := MdlAt.own (SM.m hSw); clear hSw; go_simp; (try with_reducible rfl))); (try simp only [Act.put, List.setIfInBounds_toArray, List.set_cons_zero, List.set_cons_succ])) | (refine wpSch_no rfl (fun _ _ _ h => h) (by rfl) ?_; (try simp only [Act.put, List.setIfInBounds_toArray, List.set_cons_zero, List.set_cons_succ]))))
      refine wpSch_call rfl (by rfl) (fun K hK => ?_)
      go_simp
      refine (bw_any _ _ _ HM1.out.drew.m HF.out).mono ?_
      rintro e w' ⟨rfl, rfl⟩
      refine hK.out _ _ HM1.out.drew (fun hHeld => ?_)
      clear hK K hHeld
      (try simp only [Act.put, List.setIfInBounds_toArray, List.set_cons_zero, List.set_cons_succ])
      refine wpSch_call rfl (by rfl) (fun K hK => ?_)
      go_simp
      refine (prbest_any _ _ _ (HM1.out.drew.m.prb HF.out)).mono ?_
      rintro e w' ⟨rfl, rfl⟩
      refine hK.out _ _ HM1.out.drew (fun hHeld => ?_)
      clear hK K hHeld
      (try simp only [Act.put, List.setIfInBounds_toArray, List.set_cons_zero, List.set_cons_succ])
      refine wpSch_call rfl (by rfl) (fun K hK => ?_)
      go_simp
      refine (room_any _ _ _ HM1.out.drew.m).mono ?_
      rintro e w' ⟨rfl, rfl⟩
      refine hK.out _ _ HM1.out.drew (fun hHeld => ?_)
      clear hK K hHeld
      (try simp only [Act.put, List.setIfInBounds_toArray, List.set_cons_zero, List.set_cons_succ])
      refine wpSch_call rfl (by rfl) (fun K hK => ?_)
      go_simp
      refine (win_any _ _ _ _ _ HBN.out.1 HBN.out.2 HQN.out.1 HQN.out.2 HRN.out.1 HRN.out.2 HTN.out.1 HTN.out.2 HSN.out.1 HSN.out.2 _).mono ?_
      rintro e w2 ⟨rfl, k2⟩
      rw [HW.out]
      have HM2 := Lib.hid (HM1.out.drew.quiet k2); clear k2
      refine hK.out _ _ HM2.out (fun hHeld => ?_)
      clear hK K hHeld
      (try simp only [Act.put, List.setIfInBounds_toArray, List.set_cons_zero, List.set_cons_succ])
      (repeat (first | (refine wpSch_yes (v := ?_) rfl (fun _ _ _ h => h) (by rfl) ?_ ?_; rotate_left; (next => (intro w hSw; obtain ⟨a0, a1, a2, a3, a4, a5, a6, a7, a8⟩ := SM.spl hSw; obtain ⟨m0, m1, m2, m3, m4, m5, m6, m7⟩ := MdlAt.own (SM.m hSw); clear hSw; go_simp; (try with_reducible rfl))); (try simp only [Act.put, List.setIfInBounds_toArray, List.set_cons_zero, List.set_cons_succ])) | (refine wpSch_no rfl (fun _ _ _ h => h) (by rfl) ?_; (try simp only [Act.put, List.setIfInBounds_toArray, List.set_cons_zero, List.set_cons_succ]))))
      refine wpSch_nil ?_
      clear HM1
      go_upto_region 2 with fail
      refine wp_region_sch (SM Fm oo w g B x s) [(true, 0), (true, 1), (true, 2), (true, 3), (true, 4), (true, 5), (false, 6), (true, 7)] (by kernel_rfl) (by kernel_rfl) (by kernel_rfl) (by kernel_rfl) HM2.out.drew ?_
      (repeat (first | (refine wpSch_yes (v := ?_) rfl (fun _ _ _ h => h) (by rfl) ?_ ?_; rotate_left; (next => (intro w hSw; obtain ⟨a0, a1, a2, a3, a4, a5, a6, a7, a8⟩ := SM.spl hSw; obtain ⟨m0, m1, m2, m3, m4, m5, m6, m7⟩ := MdlAt.own (SM.m hSw); clear hSw; go_simp; (try with_reducible rfl))); (try simp only [Act.put, List.setIfInBounds_toArray, List.set_cons_zero, List.set_cons_succ])) | (refine wpSch_no rfl (fun _ _ _ h => h) (by rfl) ?_; (try simp only [Act.put, List.setIfInBounds_toArray, List.set_cons_zero, List.set_cons_succ]))))
      refine wpSch_call rfl (by rfl) (fun K hK => ?_)
      go_simp
      refine (add_any _ _ HWN.out.1 HWN.out.2 HS.out.a.1 HS.out.a.2 _).mono ?_
      rintro e w' ⟨rfl, rfl⟩
      rw [HA.out]
      refine hK.out _ _ HM2.out.drew (fun hHeld => ?_)
      clear hK K hHeld
      (try simp only [Act.put, List.setIfInBounds_toArray, List.set_cons_zero, List.set_cons_succ])
      (repeat (first | (refine wpSch_yes (v := ?_) rfl (fun _ _ _ h => h) (by rfl) ?_ ?_; rotate_left; (next => (intro w hSw; obtain ⟨a0, a1, a2, a3, a4, a5, a6, a7, a8⟩ := SM.spl hSw; obtain ⟨m0, m1, m2, m3, m4, m5, m6, m7⟩ := MdlAt.own (SM.m hSw); clear hSw; go_simp; (try with_reducible rfl))); (try simp only [Act.put, List.setIfInBounds_toArray, List.set_cons_zero, List.set_cons_succ])) | (refine wpSch_no rfl (fun _ _ _ h => h) (by rfl) ?_; (try simp only [Act.put, List.setIfInBounds_toArray, List.set_cons_zero, List.set_cons_succ]))))
      refine wpSch_nil ?_
      have HM3 := Lib.hid HM2.out.drew
      clear HM2
      generalize w2.drew = w3 at *
      go_wp2_with fail
      refine (pifull_any _ _ _ (HM3.out.m.pip HF.out)).mono ?_
      rintro e w' ⟨rfl, rfl⟩
      rw [HFU.out]
      go_upto_region 5 with fail
      refine wp_region_sch (SM Fm oo w g B x s) [(true, 0), (true, 1), (true, 2), (true, 3), (true, 4), (true, 5), (true, 6), (true, 7), (true, 8), (true, 9), (true, 10), (true, 11), (true, 12), (false, 13), (true, 14), (true, 15), (true, 16)] (by kernel_rfl) (by kernel_rfl) (by kernel_rfl) (by kernel_rfl) HM3.out.drew ?_
      (repeat (first | (refine wpSch_yes (v := ?_) rfl (fun _ _ _ h => h) (by rfl) ?_ ?_; rotate_left; (next => (intro w hSw; obtain ⟨a0, a1, a2, a3, a4, a5, a6, a7, a8⟩ := SM.spl hSw; obtain ⟨m0, m1, m2, m3, m4, m5, m6, m7⟩ := MdlAt.own (SM.m hSw); clear hSw; go_simp; (try with_reducible rfl))); (try simp only [Act.put, List.setIfInBounds_toArray, List.set_cons_zero, List.set_cons_succ])) | (refine wpSch_no rfl (fun _ _ _ h => h) (by rfl) ?_; (try simp only [Act.put, List.setIfInBounds_toArray, List.set_cons_zero, List.set_cons_succ]))))
      refine wpSch_not rfl (by rfl) HM3.out.drew ?_
      (try simp only [Act.put, List.setIfInBounds_toArray, List.set_cons_zero, List.set_cons_succ])
      (repeat (first | (refine wpSch_yes (v := ?_) rfl (fun _ _ _ h => h) (by rfl) ?_ ?_; rotate_left; (next => (intro w hSw; obtain ⟨a0, a1, a2, a3, a4, a5, a6, a7, a8⟩ := SM.spl hSw; obtain ⟨m0, m1, m2, m3, m4, m5, m6, m7⟩ := MdlAt.own (SM.m hSw); clear hSw; go_simp; (try with_reducible rfl))); (try simp only [Act.put, List.setIfInBounds_toArray, List.set_cons_zero, List.set_cons_succ])) | (refine wpSch_no rfl (fun _ _ _ h => h) (by rfl) ?_; (try simp only [Act.put, List.setIfInBounds_toArray, List.set_cons_zero, List.set_cons_succ]))))
      refine wpSch_nil ?_
      have c : w3.drew.cell? ⟨g, oo + 30, none⟩ = some (.int .u64 x.w) := Part.cell HM3.out.drew.m 30
      have f := Part.free HM3.out.drew.m 30
      have HM4 := Lib.hid (HM3.out.drew.put (y := { x with w := A }) 30 (.int .u64 A) (e := rfl))
      go_wp2
      go_end0
      exact ⟨⟨_, rfl⟩, by rw [HE.out]; exact HM4.out.m, HM4.out.k⟩
    · have hw' : decide (x.w < W) = false := by simp [hw]
      by_cases hd : s.d < I
      · have HE : Hid (groM x s tso = { x with w := A }) := Lib.hid (by simp [groM, hFU, hW, hA, hI, hd])
        clear hFU hW hA hI
        go_enter Tryz.func66, Tryz.ntmps66
        go_upto_region 1 with fail
        generalize hw1 : World.alloc w _ = w1 at *
        have HM1 : Hid (SM Fm oo w g w.heap.size x s w1) := HM
        clear HM hw1
        generalize w.heap.size = B at *
        obtain ⟨a0, a1, a2, a3, a4, a5, a6, a7, a8⟩ := HM1.out.spl
        clear a0 a1 a2 a3 a4 a5 a6 a7 a8
        refine wp_region_sch (SM Fm oo w g B x s) [(true, 0), (true, 2), (true, 3), (true, 4), (true, 6), (true, 8), (true, 9), (true, 10), (true, 11), (true, 12), (false, 1), (false, 5), (false, 7), (false, 13), (true, 14)] (by kernel_rfl) (by kernel_rfl) (by kernel_rfl) (by kernel_rfl) HM1.out.drew ?_
        (repeat (first | (refine wpSch_yes (v := ?_) rfl (fun _ _ _ h => h) (by rfl) ?_ ?_; rotate_left; (next => (intro w hSw; obtain ⟨a0, a1, a2, a3, a4, a5, a6, a7, a8⟩ := SM.spl hSw; obtain ⟨m0, m1, m2, m3, m4, m5, m6, m7⟩ := MdlAt.own (SM.m hSw); clear hSw; go_simp; (try with_reducible rfl))); (try simp only [Act.put, List.setIfInBounds_toArray, List.set_cons_zero, List.set_cons_succ])) | (refine wpSch_no rfl (fun _ _ _ h => h) (by rfl) ?_; (try simp only [Act.put, List.setIfInBounds_toArray, List.set_cons_zero, List.set_cons_succ]))))
        refine wpSch_call rfl (by rfl) (fun K hK => ?_)
        go_simp
        refine (bw_any _ _ _ HM1.out.drew.m HF.out).mono ?_
        rintro e w' ⟨rfl, rfl⟩
        refine hK.out _ _ HM1.out.drew (fun hHeld => ?_)
        clear hK K hHeld
        (try simp only [Act.put, List.setIfInBounds_toArray, List.set_cons_zero, List.set_cons_succ])
        refine wpSch_call rfl (by rfl) (fun K hK => ?_)
        go_simp
        refine (prbest_any _ _ _ (HM1.out.drew.m.prb HF.out)).mono ?_
        rintro e w' ⟨rfl, rfl⟩
        refine hK.out _ _ HM1.out.drew (fun hHeld => ?_)
        clear hK K hHeld
        (try simp only [Act.put, List.setIfInBounds_toArray, List.set_cons_zero, List.set_cons_succ])
        refine wpSch_call rfl (by rfl) (fun K hK => ?_)
        go_simp
        refine (room_any _ _ _ HM1.out.drew.m).mono ?_
        rintro e w' ⟨rfl, rfl⟩
        refine hK.out _ _ HM1.out.drew (fun hHeld => ?_)
        clear hK K hHeld
        (try simp only [Act.put, List.setIfInBounds_toArray, List.set_cons_zero, List.set_cons_succ])
        refine wpSch_call rfl (by rfl) (fun K hK => ?_)
        go_simp
        refine (win_any _ _ _ _ _ HBN.out.1 HBN.out.2 HQN.out.1 HQN.out.2 HRN.out.1 HRN.out.2 HTN.out.1 HTN.out.2 HSN.out.1 HSN.out.2 _).mono ?_
        rintro e w2 ⟨rfl, k2⟩
        rw [HW.out]
        have HM2 := Lib.hid (HM1.out.drew.quiet k2); clear k2
        refine hK.out _ _ HM2.out (fun hHeld => ?_)
        clear hK K hHeld
        (try simp only [Act.put, List.setIfInBounds_toArray, List.set_cons_zero, List.set_cons_succ])
        (repeat (first | (refine wpSch_yes (v := ?_) rfl (fun _ _ _ h => h) (by rfl) ?_ ?_; rotate_left; (next => (intro w hSw; obtain ⟨a0, a1, a2, a3, a4, a5, a6, a7, a8⟩ := SM.spl hSw; obtain ⟨m0, m1, m2, m3, m4, m5, m6, m7⟩ := MdlAt.own (SM.m hSw); clear hSw; go_simp; (try with_reducible rfl))); (try simp only [Act.put, List.setIfInBounds_toArray, List.set_cons_zero, List.set_cons_succ])) | (refine wpSch_no rfl (fun _ _ _ h => h) (by rfl) ?_; (try simp only [Act.put, List.setIfInBounds_toArray, List.set_cons_zero, List.set_cons_succ]))))
        refine wpSch_nil ?_
        clear HM1
        go_upto_region 2 with fail
        refine wp_region_sch (SM Fm oo w g B x s) [(true, 0), (true, 1), (true, 2), (true, 3), (true, 4), (true, 5), (false, 6), (true, 7)] (by kernel_rfl) (by kernel_rfl) (by kernel_rfl) (by kernel_rfl) HM2.out.drew ?_
        (repeat (first | (refine wpSch_yes (v := ?_) rfl (fun _ _ _ h => h) (by rfl) ?_ ?_; rotate_left; (next => (intro w hSw; obtain ⟨a0, a1, a2, a3, a4, a5, a6, a7, a8⟩ := SM.spl hSw; obtain ⟨m0, m1, m2, m3, m4, m5, m6, m7⟩ := MdlAt.own (SM.m hSw); clear hSw; go_simp; (try with_reducible rfl))); (try simp only [Act.put, List.setIfInBounds_toArray, List.set_cons_zero, List.set_cons_succ])) | (refine wpSch_no rfl (fun _ _ _ h => h) (by rfl) ?_; (try simp only [Act.put, List.setIfInBounds_toArray, List.set_cons_zero, List.set_cons_succ]))))
        refine wpSch_call rfl (by rfl) (fun K hK => ?_)
        go_simp
        refine (add_any _ _ HWN.out.1 HWN.out.2 HS.out.a.1 HS.out.a.2 _).mono ?_
        rintro e w' ⟨rfl, rfl⟩
        rw [HA.out]
        refine hK.out _ _ HM2.out.drew (fun hHeld => ?_)
        clear hK K hHeld
        (try simp only [Act.put, List.setIfInBounds_toArray, List.set_cons_zero, List.set_cons_succ])
        (repeat (first | (refine wpSch_yes (v := ?_) rfl (fun _ _ _ h => h) (by rfl) ?_ ?_; rotate_left; (next => (intro w hSw; obtain ⟨a0, a1, a2, a3, a4, a5, a6, a7, a8⟩ := SM.spl hSw; obtain ⟨m0, m1, m2, m3, m4, m5, m6, m7⟩ := MdlAt.own (SM.m hSw); clear hSw; go_simp; (try with_reducible rfl))); (try simp only [Act.put, List.setIfInBounds_toArray, List.set_cons_zero, List.set_cons_succ])) | (refine wpSch_no rfl (fun _ _ _ h => h) (by rfl) ?_; (try simp only [Act.put, List.setIfInBounds_toArray, List.set_cons_zero, List.set_cons_succ]))))
        refine wpSch_nil ?_
        have HM3 := Lib.hid HM2.out.drew
        clear HM2
        generalize w2.drew = w3 at *
        go_wp2_with fail
        refine (pifull_any _ _ _ (HM3.out.m.pip HF.out)).mono ?_
        rintro e w' ⟨rfl, rfl⟩
        rw [HFU.out]
        go_upto_region 5 with fail
        refine wp_region_sch (SM Fm oo w g B x s) [(true, 0), (true, 1), (true, 2), (true, 3), (true, 4), (true, 5), (true, 6), (true, 7), (true, 8), (true, 9), (true, 10), (true, 11), (true, 12), (false, 13), (true, 14), (true, 15), (true, 16)] (by kernel_rfl) (by kernel_rfl) (by kernel_rfl) (by kernel_rfl) HM3.out.drew ?_
        (repeat (first | (refine wpSch_yes (v := ?_) rfl (fun _ _ _ h => h) (by rfl) ?_ ?_; rotate_left; (next => (intro w hSw; obtain ⟨a0, a1, a2, a3, a4, a5, a6, a7, a8⟩ := SM.spl hSw; obtain ⟨m0, m1, m2, m3, m4, m5, m6, m7⟩ := MdlAt.own (SM.m hSw); clear hSw; go_simp; (try with_reducible rfl))); (try simp only [Act.put, List.setIfInBounds_toArray, List.set_cons_zero, List.set_cons_succ])) | (refine wpSch_no rfl (fun _ _ _ h => h) (by rfl) ?_; (try simp only [Act.put, List.setIfInBounds_toArray, List.set_cons_zero, List.set_cons_succ]))))
        refine wpSch_call rfl (by rfl) (fun K hK => ?_)
        go_simp
        refine (mul_any _ _ (by decide) (by decide) HSN.out.1 HSN.out.2 _).mono ?_
        rintro e w' ⟨rfl, rfl⟩
        rw [HI.out]
        refine hK.out _ _ HM3.out.drew (fun hHeld => ?_)
        clear hK K hHeld
        (try simp only [Act.put, List.setIfInBounds_toArray, List.set_cons_zero, List.set_cons_succ])
        (repeat (first | (refine wpSch_yes (v := ?_) rfl (fun _ _ _ h => h) (by rfl) ?_ ?_; rotate_left; (next => (intro w hSw; obtain ⟨a0, a1, a2, a3, a4, a5, a6, a7, a8⟩ := SM.spl hSw; obtain ⟨m0, m1, m2, m3, m4, m5, m6, m7⟩ := MdlAt.own (SM.m hSw); clear hSw; go_simp; (try with_reducible rfl))); (try simp only [Act.put, List.setIfInBounds_toArray, List.set_cons_zero, List.set_cons_succ])) | (refine wpSch_no rfl (fun _ _ _ h => h) (by rfl) ?_; (try simp only [Act.put, List.setIfInBounds_toArray, List.set_cons_zero, List.set_cons_succ]))))
        refine wpSch_nil ?_
        have c : w3.drew.cell? ⟨g, oo + 30, none⟩ = some (.int .u64 x.w) := Part.cell HM3.out.drew.m 30
        have f := Part.free HM3.out.drew.m 30
        have HM4 := Lib.hid (HM3.out.drew.put (y := { x with w := A }) 30 (.int .u64 A) (e := rfl))
        go_wp2
        go_end0
        exact ⟨⟨_, rfl⟩, by rw [HE.out]; exact HM4.out.m, HM4.out.k⟩
      · have hd' : decide (s.d < I) = false := by simp [hd]
        have HE : Hid (groM x s tso = x) := Lib.hid (by simp [groM, hFU, hW, hI, hw, hd])
        clear hFU hW hA hI
        go_enter Tryz.func66, Tryz.ntmps66
        go_upto_region 1 with fail
        generalize hw1 : World.alloc w _ = w1 at *
        have HM1 : Hid (SM Fm oo w g w.heap.size x s w1) := HM
        clear HM hw1
        generalize w.heap.size = B at *
        obtain ⟨a0, a1, a2, a3, a4, a5, a6, a7, a8⟩ := HM1.out.spl
        clear a0 a1 a2 a3 a4 a5 a6 a7 a8
        refine wp_region_sch (SM Fm oo w g B x s) [(true, 0), (true, 2), (true, 3), (true, 4), (true, 6), (true, 8), (true, 9), (true, 10), (true, 11), (true, 12), (false, 1), (false, 5), (false, 7), (false, 13), (true, 14)] (by kernel_rfl) (by kernel_rfl) (by kernel_rfl) (by kernel_rfl) HM1.out.drew ?_
        (repeat (first | (refine wpSch_yes (v := ?_) rfl (fun _ _ _ h => h) (by rfl) ?_ ?_; rotate_left; (next => (intro w hSw; obtain ⟨a0, a1, a2, a3, a4, a5, a6, a7, a8⟩ := SM.spl hSw; obtain ⟨m0, m1, m2, m3, m4, m5, m6, m7⟩ := MdlAt.own (SM.m hSw); clear hSw; go_simp; (try with_reducible rfl))); (try simp only [Act.put, List.setIfInBounds_toArray, List.set_cons_zero, List.set_cons_succ])) | (refine wpSch_no rfl (fun _ _ _ h => h) (by rfl) ?_; (try simp only [Act.put, List.setIfInBounds_toArray, List.set_cons_zero, List.set_cons_succ]))))
        refine wpSch_call rfl (by rfl) (fun K hK => ?_)
        go_simp
        refine (bw_any _ _ _ HM1.out.drew.m HF.out).mono ?_
        rintro e w' ⟨rfl, rfl⟩
        refine hK.out _ _ HM1.out.drew (fun hHeld => ?_)
        clear hK K hHeld
        (try simp only [Act.put, List.setIfInBounds_toArray, List.set_cons_zero, List.set_cons_succ])
        refine wpSch_call rfl (by rfl) (fun K hK => ?_)
        go_simp
        refine (prbest_any _ _ _ (HM1.out.drew.m.prb HF.out)).mono ?_
        rintro e w' ⟨rfl, rfl⟩
        refine hK.out _ _ HM1.out.drew (fun hHeld => ?_)
        clear hK K hHeld
        (try simp only [Act.put, List.setIfInBounds_toArray, List.set_cons_zero, List.set_cons_succ])
        refine wpSch_call rfl (by rfl) (fun K hK => ?_)
        go_simp
        refine (room_any _ _ _ HM1.out.drew.m).mono ?_
        rintro e w' ⟨rfl, rfl⟩
        refine hK.out _ _ HM1.out.drew (fun hHeld => ?_)
        clear hK K hHeld
        (try simp only [Act.put, List.setIfInBounds_toArray, List.set_cons_zero, List.set_cons_succ])
        refine wpSch_call rfl (by rfl) (fun K hK => ?_)
        go_simp
        refine (win_any _ _ _ _ _ HBN.out.1 HBN.out.2 HQN.out.1 HQN.out.2 HRN.out.1 HRN.out.2 HTN.out.1 HTN.out.2 HSN.out.1 HSN.out.2 _).mono ?_
        rintro e w2 ⟨rfl, k2⟩
        rw [HW.out]
        have HM2 := Lib.hid (HM1.out.drew.quiet k2); clear k2
        refine hK.out _ _ HM2.out (fun hHeld => ?_)
        clear hK K hHeld
        (try simp only [Act.put, List.setIfInBounds_toArray, List.set_cons_zero, List.set_cons_succ])
        (repeat (first | (refine wpSch_yes (v := ?_) rfl (fun _ _ _ h => h) (by rfl) ?_ ?_; rotate_left; (next => (intro w hSw; obtain ⟨a0, a1, a2, a3, a4, a5, a6, a7, a8⟩ := SM.spl hSw; obtain ⟨m0, m1, m2, m3, m4, m5, m6, m7⟩ := MdlAt.own (SM.m hSw); clear hSw; go_simp; (try with_reducible rfl))); (try simp only [Act.put, List.setIfInBounds_toArray, List.set_cons_zero, List.set_cons_succ])) | (refine wpSch_no rfl (fun _ _ _ h => h) (by rfl) ?_; (try simp only [Act.put, List.setIfInBounds_toArray, List.set_cons_zero, List.set_cons_succ]))))
        refine wpSch_nil ?_
        clear HM1
        go_upto_region 2 with fail
        refine wp_region_sch (SM Fm oo w g B x s) [(true, 0), (true, 1), (true, 2), (true, 3), (true, 4), (true, 5), (false, 6), (true, 7)] (by kernel_rfl) (by kernel_rfl) (by kernel_rfl) (by kernel_rfl) HM2.out.drew ?_
        (repeat (first | (refine wpSch_yes (v := ?_) rfl (fun _ _ _ h => h) (by rfl) ?_ ?_; rotate_left; (next => (intro w hSw; obtain ⟨a0, a1, a2, a3, a4, a5, a6, a7, a8⟩ := SM.spl hSw; obtain ⟨m0, m1, m2, m3, m4, m5, m6, m7⟩ := MdlAt.own (SM.m hSw); clear hSw; go_simp; (try with_reducible rfl))); (try simp only [Act.put, List.setIfInBounds_toArray, List.set_cons_zero, List.set_cons_succ])) | (refine wpSch_no rfl (fun _ _ _ h => h) (by rfl) ?_; (try simp only [Act.put, List.setIfInBounds_toArray, List.set_cons_zero, List.set_cons_succ]))))
        refine wpSch_call rfl (by rfl) (fun K hK => ?_)
        go_simp
        refine (add_any _ _ HWN.out.1 HWN.out.2 HS.out.a.1 HS.out.a.2 _).mono ?_
        rintro e w' ⟨rfl, rfl⟩
        rw [HA.out]
        refine hK.out _ _ HM2.out.drew (fun hHeld => ?_)
        clear hK K hHeld
        (try simp only [Act.put, List.setIfInBounds_toArray, List.set_cons_zero, List.set_cons_succ])
        (repeat (first | (refine wpSch_yes (v := ?_) rfl (fun _ _ _ h => h) (by rfl) ?_ ?_; rotate_left; (next => (intro w hSw; obtain ⟨a0, a1, a2, a3, a4, a5, a6, a7, a8⟩ := SM.spl hSw; obtain ⟨m0, m1, m2, m3, m4, m5, m6, m7⟩ := MdlAt.own (SM.m hSw); clear hSw; go_simp; (try with_reducible rfl))); (try simp only [Act.put, List.setIfInBounds_toArray, List.set_cons_zero, List.set_cons_succ])) | (refine wpSch_no rfl (fun _ _ _ h => h) (by rfl) ?_; (try simp only [Act.put, List.setIfInBounds_toArray, List.set_cons_zero, List.set_cons_succ]))))
        refine wpSch_nil ?_
        have HM3 := Lib.hid HM2.out.drew
        clear HM2
        generalize w2.drew = w3 at *
        go_wp2_with fail
        refine (pifull_any _ _ _ (HM3.out.m.pip HF.out)).mono ?_
        rintro e w' ⟨rfl, rfl⟩
        rw [HFU.out]
        go_upto_region 5 with fail
        refine wp_region_sch (SM Fm oo w g B x s) [(true, 0), (true, 1), (true, 2), (true, 3), (true, 4), (true, 5), (true, 6), (true, 7), (true, 8), (true, 9), (true, 10), (true, 11), (true, 12), (false, 13), (true, 14), (true, 15), (true, 16)] (by kernel_rfl) (by kernel_rfl) (by kernel_rfl) (by kernel_rfl) HM3.out.drew ?_
        (repeat (first | (refine wpSch_yes (v := ?_) rfl (fun _ _ _ h => h) (by rfl) ?_ ?_; rotate_left; (next => (intro w hSw; obtain ⟨a0, a1, a2, a3, a4, a5, a6, a7, a8⟩ := SM.spl hSw; obtain ⟨m0, m1, m2, m3, m4, m5, m6, m7⟩ := MdlAt.own (SM.m hSw); clear hSw; go_simp; (try with_reducible rfl))); (try simp only [Act.put, List.setIfInBounds_toArray, List.set_cons_zero, List.set_cons_succ])) | (refine wpSch_no rfl (fun _ _ _ h => h) (by rfl) ?_; (try simp only [Act.put, List.setIfInBounds_toArray, List.set_cons_zero, List.set_cons_succ]))))
        refine wpSch_call rfl (by rfl) (fun K hK => ?_)
        go_simp
        refine (mul_any _ _ (by decide) (by decide) HSN.out.1 HSN.out.2 _).mono ?_
        rintro e w' ⟨rfl, rfl⟩
        rw [HI.out]
        refine hK.out _ _ HM3.out.drew (fun hHeld => ?_)
        clear hK K hHeld
        (try simp only [Act.put, List.setIfInBounds_toArray, List.set_cons_zero, List.set_cons_succ])
        (repeat (first | (refine wpSch_yes (v := ?_) rfl (fun _ _ _ h => h) (by rfl) ?_ ?_; rotate_left; (next => (intro w hSw; obtain ⟨a0, a1, a2, a3, a4, a5, a6, a7, a8⟩ := SM.spl hSw; obtain ⟨m0, m1, m2, m3, m4, m5, m6, m7⟩ := MdlAt.own (SM.m hSw); clear hSw; go_simp; (try with_reducible rfl))); (try simp only [Act.put, List.setIfInBounds_toArray, List.set_cons_zero, List.set_cons_succ])) | (refine wpSch_no rfl (fun _ _ _ h => h) (by rfl) ?_; (try simp only [Act.put, List.setIfInBounds_toArray, List.set_cons_zero, List.set_cons_succ]))))
        refine wpSch_nil ?_
        go_wp2
        go_end0
        exact ⟨⟨_, rfl⟩, by rw [HE.out]; exact HM3.out.drew.m, HM3.out.drew.k⟩
  · rcases Int.lt_trichotomy A W with hl | hl | hl
    · have hn : ¬ W < A := by omega
      have HE : Hid (groM x s tso = { x with w := A }) := Lib.hid (by simp [groM, hFU, hW, hA, minI, hl])
      clear hFU hW hA hI
      go_enter Tryz.func66, Tryz.ntmps66
      go_upto_region 1 with fail
      generalize hw1 : World.alloc w _ = w1 at *
      have HM1 : Hid (SM Fm oo w g w.heap.size x s w1) := HM
      clear HM hw1
      generalize w.heap.size = B at *
      obtain ⟨a0, a1, a2, a3, a4, a5, a6, a7, a8⟩ := HM1.out.spl
      clear a0 a1 a2 a3 a4 a5 a6 a7 a8
      refine wp_region_sch (SM Fm oo w g B x s) [(true, 0), (true, 2), (true, 3), (true, 4), (true, 6), (true, 8), (true, 9), (true, 10), (true, 11), (true, 12), (false, 1), (false, 5), (false, 7), (false, 13), (true, 14)] (by kernel_rfl) (by kernel_rfl) (by kernel_rfl) (by kernel_rfl) HM1.out.drew ?_
      (repeat (first | (refine wpSch_yes (v := ?_) rfl (fun _ _ _ h => h) (by rfl) ?_ ?_; rotate_left; (next => (intro w hSw; obtain ⟨a0, a1, a2, a3, a4, a5, a6, a7, a8⟩ := SM.spl hSw; obtain ⟨m0, m1, m2, m3, m4, m5, m6, m7⟩ := MdlAt.own (SM.m hSw); clear hSw; go_simp; (try with_reducible rfl))); (try simp only [Act.put, List.setIfInBounds_toArray, List.set_cons_zero, List.set_cons_succ])) | (refine wpSch_no rfl (fun _ _ _ h => h) (by rfl) ?_; (try simp only [Act.put, List.setIfInBounds_toArray, List.set_cons_zero, List.set_cons_succ]))))
      refine wpSch_call rfl (by rfl) (fun K hK => ?_)
      go_simp
      refine (bw_any _ _ _ HM1.out.drew.m HF.out).mono ?_
      rintro e w' ⟨rfl, rfl⟩
      refine hK.out _ _ HM1.out.drew (fun hHeld => ?_)
      clear hK K hHeld
      (try simp only [Act.put, List.setIfInBounds_toArray, List.set_cons_zero, List.set_cons_succ])
      refine wpSch_call rfl (by rfl) (fun K hK => ?_)
      go_simp
      refine (prbest_any _ _ _ (HM1.out.drew.m.prb HF.out)).mono ?_
      rintro e w' ⟨rfl, rfl⟩
      refine hK.out _ _ HM1.out.drew (fun hHeld => ?_)
      clear hK K hHeld
      (try simp only [Act.put, List.setIfInBounds_toArray, List.set_cons_zero, List.set_cons_succ])
      refine wpSch_call rfl (by rfl) (fun K hK => ?_)
      go_simp
      refine (room_any _ _ _ HM1.out.drew.m).mono ?_
      rintro e w' ⟨rfl, rfl⟩
      refine hK.out _ _ HM1.out.drew (fun hHeld => ?_)
      clear hK K hHeld
      (try simp only [Act.put, List.setIfInBounds_toArray, List.set_cons_zero, List.set_cons_succ])
      refine wpSch_call rfl (by rfl) (fun K hK => ?_)
      go_simp
      refine (win_any _ _ _ _ _ HBN.out.1 HBN.out.2 HQN.out.1 HQN.out.2 HRN.out.1 HRN.out.2 HTN.out.1 HTN.out.2 HSN.out.1 HSN.out.2 _).mono ?_
      rintro e w2 ⟨rfl, k2⟩
      rw [HW.out]
      have HM2 := Lib.hid (HM1.out.drew.quiet k2); clear k2
      refine hK.out _ _ HM2.out (fun hHeld => ?_)
      clear hK K hHeld
      (try simp only [Act.put, List.setIfInBounds_toArray, List.set_cons_zero, List.set_cons_succ])
      (repeat (first | (refine wpSch_yes (v := ?_) rfl (fun _ _ _ h => h) (by rfl) ?_ ?_; rotate_left; (next => (intro w hSw; obtain ⟨a0, a1, a2, a3, a4, a5, a6, a7, a8⟩ := SM.spl hSw; obtain ⟨m0, m1, m2, m3, m4, m5, m6, m7⟩ := MdlAt.own (SM.m hSw); clear hSw; go_simp; (try with_reducible rfl))); (try simp only [Act.put, List.setIfInBounds_toArray, List.set_cons_zero, List.set_cons_succ])) | (refine wpSch_no rfl (fun _ _ _ h => h) (by rfl) ?_; (try simp only [Act.put, List.setIfInBounds_toArray, List.set_cons_zero, List.set_cons_succ]))))
      refine wpSch_nil ?_
      clear HM1
      go_upto_region 2 with fail
      refine wp_region_sch (SM Fm oo w g B x s) [(true, 0), (true, 1), (true, 2), (true, 3), (true, 4), (true, 5), (false, 6), (true, 7)] (by kernel_rfl) (by kernel_rfl) (by kernel_rfl) (by kernel_rfl) HM2.out.drew ?_
      (repeat (first | (refine wpSch_yes (v := ?_) rfl (fun _ _ _ h => h) (by rfl) ?_ ?_; rotate_left; (next => (intro w hSw; obtain ⟨a0, a1, a2, a3, a4, a5, a6, a7, a8⟩ := SM.spl hSw; obtain ⟨m0, m1, m2, m3, m4, m5, m6, m7⟩ := MdlAt.own (SM.m hSw); clear hSw; go_simp; (try with_reducible rfl))); (try simp only [Act.put, List.setIfInBounds_toArray, List.set_cons_zero, List.set_cons_succ])) | (refine wpSch_no rfl (fun _ _ _ h => h) (by rfl) ?_; (try simp only [Act.put, List.setIfInBounds_toArray, List.set_cons_zero, List.set_cons_succ]))))
      refine wpSch_call rfl (by rfl) (fun K hK => ?_)
      go_simp
      refine (add_any _ _ HWN.out.1 HWN.out.2 HS.out.a.1 HS.out.a.2 _).mono ?_
      rintro e w' ⟨rfl, rfl⟩
      rw [HA.out]
      refine hK.out _ _ HM2.out.drew (fun hHeld => ?_)
      clear hK K hHeld
      (try simp only [Act.put, List.setIfInBounds_toArray, List.set_cons_zero, List.set_cons_succ])
      (repeat (first | (refine wpSch_yes (v := ?_) rfl (fun _ _ _ h => h) (by rfl) ?_ ?_; rotate_left; (next => (intro w hSw; obtain ⟨a0, a1, a2, a3, a4, a5, a6, a7, a8⟩ := SM.spl hSw; obtain ⟨m0, m1, m2, m3, m4, m5, m6, m7⟩ := MdlAt.own (SM.m hSw); clear hSw; go_simp; (try with_reducible rfl))); (try simp only [Act.put, List.setIfInBounds_toArray, List.set_cons_zero, List.set_cons_succ])) | (refine wpSch_no rfl (fun _ _ _ h => h) (by rfl) ?_; (try simp only [Act.put, List.setIfInBounds_toArray, List.set_cons_zero, List.set_cons_succ]))))
      refine wpSch_nil ?_
      have HM3 := Lib.hid HM2.out.drew
      clear HM2
      generalize w2.drew = w3 at *
      go_wp2_with fail
      refine (pifull_any _ _ _ (HM3.out.m.pip HF.out)).mono ?_
      rintro e w' ⟨rfl, rfl⟩
      rw [HFU.out]
      have c : w3.cell? ⟨g, oo + 30, none⟩ = some (.int .u64 x.w) := Part.cell HM3.out.m 30
      have f := Part.free HM3.out.m 30
      go_wp2
      go_end0
      exact ⟨⟨_, rfl⟩, by rw [HE.out]; exact (HM3.out.put (y := { x with w := A }) 30 (.int .u64 A) (e := rfl)).m, (HM3.out.put (y := { x with w := A }) 30 (.int .u64 A) (e := rfl)).k⟩
    · have HE : Hid (groM x s tso = { x with w := W }) := Lib.hid (by simp [groM, hFU, hW, hA, minI, hl])
      clear hFU hW hA hI
      have HA' : Hid (satAdd x.w s.a = W) := Lib.hid (HA.out.trans hl)
      clear HA
      have HA := HA'
      clear HA' hl A
      have hn : ¬ W < W := by omega
      go_enter Tryz.func66, Tryz.ntmps66
      go_upto_region 1 with fail
      generalize hw1 : World.alloc w _ = w1 at *
      have HM1 : Hid (SM Fm oo w g w.heap.size x s w1) := HM
      clear HM hw1
      generalize w.heap.size = B at *
      obtain ⟨a0, a1, a2, a3, a4, a5, a6, a7, a8⟩ := HM1.out.spl
      clear a0 a1 a2 a3 a4 a5 a6 a7 a8
      refine wp_region_sch (SM Fm oo w g B x s) [(true, 0), (true, 2), (true, 3), (true, 4), (true, 6), (true, 8), (true, 9), (true, 10), (true, 11), (true, 12), (false, 1), (false, 5), (false, 7), (false, 13), (true, 14)] (by kernel_rfl) (by kernel_rfl) (by kernel_rfl) (by kernel_rfl) HM1.out.drew ?_
      (repeat (first | (refine wpSch_yes (v := ?_) rfl (fun _ _ _ h => h) (by rfl) ?_ ?_; rotate_left; (next => (intro w hSw; obtain ⟨a0, a1, a2, a3, a4, a5, a6, a7, a8⟩ := SM.spl hSw; obtain ⟨m0, m1, m2, m3, m4, m5, m6, m7⟩ := MdlAt.own (SM.m hSw); clear hSw; go_simp; (try with_reducible rfl))); (try simp only [Act.put, List.setIfInBounds_toArray, List.set_cons_zero, List.set_cons_succ])) | (refine wpSch_no rfl (fun _ _ _ h => h) (by rfl) ?_; (try simp only [Act.put, List.setIfInBounds_toArray, List.set_cons_zero, List.set_cons_succ]))))
      refine wpSch_call rfl (by rfl) (fun K hK => ?_)
      go_simp
      refine (bw_any _ _ _ HM1.out.drew.m HF.out).mono ?_
      rintro e w' ⟨rfl, rfl⟩
      refine hK.out _ _ HM1.out.drew (fun hHeld => ?_)
      clear hK K hHeld
      (try simp only [Act.put, List.setIfInBounds_toArray, List.set_cons_zero, List.set_cons_succ])
      refine wpSch_call rfl (by rfl) (fun K hK => ?_)
      go_simp
      refine (prbest_any _ _ _ (HM1.out.drew.m.prb HF.out)).mono ?_
      rintro e w' ⟨rfl, rfl⟩
      refine hK.out _ _ HM1.out.drew (fun hHeld => ?_)
      clear hK K hHeld
      (try simp only [Act.put, List.setIfInBounds_toArray, List.set_cons_zero, List.set_cons_succ])
      refine wpSch_call rfl (by rfl) (fun K hK => ?_)
      go_simp
      refine (room_any _ _ _ HM1.out.drew.m).mono ?_
      rintro e w' ⟨rfl, rfl⟩
      refine hK.out _ _ HM1.out.drew (fun hHeld => ?_)
      clear hK K hHeld
      (try simp only [Act.put, List.setIfInBounds_toArray, List.set_cons_zero, List.set_cons_succ])
      refine wpSch_call rfl (by rfl) (fun K hK => ?_)
      go_simp
      refine (win_any _ _ _ _ _ HBN.out.1 HBN.out.2 HQN.out.1 HQN.out.2 HRN.out.1 HRN.out.2 HTN.out.1 HTN.out.2 HSN.out.1 HSN.out.2 _).mono ?_
      rintro e w2 ⟨rfl, k2⟩
      rw [HW.out]
      have HM2 := Lib.hid (HM1.out.drew.quiet k2); clear k2
      refine hK.out _ _ HM2.out (fun hHeld => ?_)
      clear hK K hHeld
      (try simp only [Act.put, List.setIfInBounds_toArray, List.set_cons_zero, List.set_cons_succ])
      (repeat (first | (refine wpSch_yes (v := ?_) rfl (fun _ _ _ h => h) (by rfl) ?_ ?_; rotate_left; (next => (intro w hSw; obtain ⟨a0, a1, a2, a3, a4, a5, a6, a7, a8⟩ := SM.spl hSw; obtain ⟨m0, m1, m2, m3, m4, m5, m6, m7⟩ := MdlAt.own (SM.m hSw); clear hSw; go_simp; (try with_reducible rfl))); (try simp only [Act.put, List.setIfInBounds_toArray, List.set_cons_zero, List.set_cons_succ])) | (refine wpSch_no rfl (fun _ _ _ h => h) (by rfl) ?_; (try simp only [Act.put, List.setIfInBounds_toArray, List.set_cons_zero, List.set_cons_succ]))))
      refine wpSch_nil ?_
      clear HM1
      go_upto_region 2 with fail
      refine wp_region_sch (SM Fm oo w g B x s) [(true, 0), (true, 1), (true, 2), (true, 3), (true, 4), (true, 5), (false, 6), (true, 7)] (by kernel_rfl) (by kernel_rfl) (by kernel_rfl) (by kernel_rfl) HM2.out.drew ?_
      (repeat (first | (refine wpSch_yes (v := ?_) rfl (fun _ _ _ h => h) (by rfl) ?_ ?_; rotate_left; (next => (intro w hSw; obtain ⟨a0, a1, a2, a3, a4, a5, a6, a7, a8⟩ := SM.spl hSw; obtain ⟨m0, m1, m2, m3, m4, m5, m6, m7⟩ := MdlAt.own (SM.m hSw); clear hSw; go_simp; (try with_reducible rfl))); (try simp only [Act.put, List.setIfInBounds_toArray, List.set_cons_zero, List.set_cons_succ])) | (refine wpSch_no rfl (fun _ _ _ h => h) (by rfl) ?_; (try simp only [Act.put, List.setIfInBounds_toArray, List.set_cons_zero, List.set_cons_succ]))))
      refine wpSch_call rfl (by rfl) (fun K hK => ?_)
      go_simp
      refine (add_any _ _ HWN.out.1 HWN.out.2 HS.out.a.1 HS.out.a.2 _).mono ?_
      rintro e w' ⟨rfl, rfl⟩
      rw [HA.out]
      refine hK.out _ _ HM2.out.drew (fun hHeld => ?_)
      clear hK K hHeld
      (try simp only [Act.put, List.setIfInBounds_toArray, List.set_cons_zero, List.set_cons_succ])
      (repeat (first | (refine wpSch_yes (v := ?_) rfl (fun _ _ _ h => h) (by rfl) ?_ ?_; rotate_left; (next => (intro w hSw; obtain ⟨a0, a1, a2, a3, a4, a5, a6, a7, a8⟩ := SM.spl hSw; obtain ⟨m0, m1, m2, m3, m4, m5, m6, m7⟩ := MdlAt.own (SM.m hSw); clear hSw; go_simp; (try with_reducible rfl))); (try simp only [Act.put, List.setIfInBounds_toArray, List.set_cons_zero, List.set_cons_succ])) | (refine wpSch_no rfl (fun _ _ _ h => h) (by rfl) ?_; (try simp only [Act.put, List.setIfInBounds_toArray, List.set_cons_zero, List.set_cons_succ]))))
      refine wpSch_nil ?_
      have HM3 := Lib.hid HM2.out.drew
      clear HM2
      generalize w2.drew = w3 at *
      go_wp2_with fail
      refine (pifull_any _ _ _ (HM3.out.m.pip HF.out)).mono ?_
      rintro e w' ⟨rfl, rfl⟩
      rw [HFU.out]
      have c : w3.cell? ⟨g, oo + 30, none⟩ = some (.int .u64 x.w) := Part.cell HM3.out.m 30
      have f := Part.free HM3.out.m 30
      go_wp2
      go_end0
      exact ⟨⟨_, rfl⟩, by rw [HE.out]; exact (HM3.out.put (y := { x with w := W }) 30 (.int .u64 W) (e := rfl)).m, (HM3.out.put (y := { x with w := W }) 30 (.int .u64 W) (e := rfl)).k⟩
    · have hn : ¬ A < W := by omega
      have HE : Hid (groM x s tso = { x with w := W }) := Lib.hid (by simp [groM, hFU, hW, hA, minI, hn])
      clear hFU hW hA hI
      go_enter Tryz.func66, Tryz.ntmps66
      go_upto_region 1 with fail
      generalize hw1 : World.alloc w _ = w1 at *
      have HM1 : Hid (SM Fm oo w g w.heap.size x s w1) := HM
      clear HM hw1
      generalize w.heap.size = B at *
      obtain ⟨a0, a1, a2, a3, a4, a5, a6, a7, a8⟩ := HM1.out.spl
      clear a0 a1 a2 a3 a4 a5 a6 a7 a8
      refine wp_region_sch (SM Fm oo w g B x s) [(true, 0), (true, 2), (true, 3), (true, 4), (true, 6), (true, 8), (true, 9), (true, 10), (true, 11), (true, 12), (false, 1), (false, 5), (false, 7), (false, 13), (true, 14)] (by kernel_rfl) (by kernel_rfl) (by kernel_rfl) (by kernel_rfl) HM1.out.drew ?_
      (repeat (first | (refine wpSch_yes (v := ?_) rfl (fun _ _ _ h => h) (by rfl) ?_ ?_; rotate_left; (next => (intro w hSw; obtain ⟨a0, a1, a2, a3, a4, a5, a6, a7, a8⟩ := SM.spl hSw; obtain ⟨m0, m1, m2, m3, m4, m5, m6, m7⟩ := MdlAt.own (SM.m hSw); clear hSw; go_simp; (try with_reducible rfl))); (try simp only [Act.put, List.setIfInBounds_toArray, List.set_cons_zero, List.set_cons_succ])) | (refine wpSch_no rfl (fun _ _ _ h => h) (by rfl) ?_; (try simp only [Act.put, List.setIfInBounds_toArray, List.set_cons_zero, List.set_cons_succ]))))
      refine wpSch_call rfl (by rfl) (fun K hK => ?_)
      go_simp
      refine (bw_any _ _ _ HM1.out.drew.m HF.out).mono ?_
      rintro e w' ⟨rfl, rfl⟩
      refine hK.out _ _ HM1.out.drew (fun hHeld => ?_)
      clear hK K hHeld
      (try simp only [Act.put, List.setIfInBounds_toArray, List.set_cons_zero, List.set_cons_succ])
      refine wpSch_call rfl (by rfl) (fun K hK => ?_)
      go_simp
      refine (prbest_any _ _ _ (HM1.out.drew.m.prb HF.out)).mono ?_
      rintro e w' ⟨rfl, rfl⟩
      refine hK.out _ _ HM1.out.drew (fun hHeld => ?_)
      clear hK K hHeld
      (try simp only [Act.put, List.setIfInBounds_toArray, List.set_cons_zero, List.set_cons_succ])
      refine wpSch_call rfl (by rfl) (fun K hK => ?_)
      go_simp
      refine (room_any _ _ _ HM1.out.drew.m).mono ?_
      rintro e w' ⟨rfl, rfl⟩
      refine hK.out _ _ HM1.out.drew (fun hHeld => ?_)
      clear hK K hHeld
      (try simp only [Act.put, List.setIfInBounds_toArray, List.set_cons_zero, List.set_cons_succ])
      refine wpSch_call rfl (by rfl) (fun K hK => ?_)
      go_simp
      refine (win_any _ _ _ _ _ HBN.out.1 HBN.out.2 HQN.out.1 HQN.out.2 HRN.out.1 HRN.out.2 HTN.out.1 HTN.out.2 HSN.out.1 HSN.out.2 _).mono ?_
      rintro e w2 ⟨rfl, k2⟩
      rw [HW.out]
      have HM2 := Lib.hid (HM1.out.drew.quiet k2); clear k2
      refine hK.out _ _ HM2.out (fun hHeld => ?_)
      clear hK K hHeld
      (try simp only [Act.put, List.setIfInBounds_toArray, List.set_cons_zero, List.set_cons_succ])
      (repeat (first | (refine wpSch_yes (v := ?_) rfl (fun _ _ _ h => h) (by rfl) ?_ ?_; rotate_left; (next => (intro w hSw; obtain ⟨a0, a1, a2, a3, a4, a5, a6, a7, a8⟩ := SM.spl hSw; obtain ⟨m0, m1, m2, m3, m4, m5, m6, m7⟩ := MdlAt.own (SM.m hSw); clear hSw; go_simp; (try with_reducible rfl))); (try simp only [Act.put, List.setIfInBounds_toArray, List.set_cons_zero, List.set_cons_succ])) | (refine wpSch_no rfl (fun _ _ _ h => h) (by rfl) ?_; (try simp only [Act.put, List.setIfInBounds_toArray, List.set_cons_zero, List.set_cons_succ]))))
      refine wpSch_nil ?_
      clear HM1
      go_upto_region 2 with fail
      refine wp_region_sch (SM Fm oo w g B x s) [(true, 0), (true, 1), (true, 2), (true, 3), (true, 4), (true, 5), (false, 6), (true, 7)] (by kernel_rfl) (by kernel_rfl) (by kernel_rfl) (by kernel_rfl) HM2.out.drew ?_
      (repeat (first | (refine wpSch_yes (v := ?_) rfl (fun _ _ _ h => h) (by rfl) ?_ ?_; rotate_left; (next => (intro w hSw; obtain ⟨a0, a1, a2, a3, a4, a5, a6, a7, a8⟩ := SM.spl hSw; obtain ⟨m0, m1, m2, m3, m4, m5, m6, m7⟩ := MdlAt.own (SM.m hSw); clear hSw; go_simp; (try with_reducible rfl))); (try simp only [Act.put, List.setIfInBounds_toArray, List.set_cons_zero, List.set_cons_succ])) | (refine wpSch_no rfl (fun _ _ _ h => h) (by rfl) ?_; (try simp only [Act.put, List.setIfInBounds_toArray, List.set_cons_zero, List.set_cons_succ]))))
      refine wpSch_call rfl (by rfl) (fun K hK => ?_)
      go_simp
      refine (add_any _ _ HWN.out.1 HWN.out.2 HS.out.a.1 HS.out.a.2 _).mono ?_
      rintro e w' ⟨rfl, rfl⟩
      rw [HA.out]
      refine hK.out _ _ HM2.out.drew (fun hHeld => ?_)
      clear hK K hHeld
      (try simp only [Act.put, List.setIfInBounds_toArray, List.set_cons_zero, List.set_cons_succ])
      (repeat (first | (refine wpSch_yes (v := ?_) rfl (fun _ _ _ h => h) (by rfl) ?_ ?_; rotate_left; (next => (intro w hSw; obtain ⟨a0, a1, a2, a3, a4, a5, a6, a7, a8⟩ := SM.spl hSw; obtain ⟨m0, m1, m2, m3, m4, m5, m6, m7⟩ := MdlAt.own (SM.m hSw); clear hSw; go_simp; (try with_reducible rfl))); (try simp only [Act.put, List.setIfInBounds_toArray, List.set_cons_zero, List.set_cons_succ])) | (refine wpSch_no rfl (fun _ _ _ h => h) (by rfl) ?_; (try simp only [Act.put, List.setIfInBounds_toArray, List.set_cons_zero, List.set_cons_succ]))))
      refine wpSch_nil ?_
      have HM3 := Lib.hid HM2.out.drew
      clear HM2
      generalize w2.drew = w3 at *
      go_wp2_with fail
      refine (pifull_any _ _ _ (HM3.out.m.pip HF.out)).mono ?_
      rintro e w' ⟨rfl, rfl⟩
      rw [HFU.out]
      have c : w3.cell? ⟨g, oo + 30, none⟩ = some (.int .u64 x.w) := Part.cell HM3.out.m 30
      have f := Part.free HM3.out.m 30
      go_wp2
      go_end0
      exact ⟨⟨_, rfl⟩, by rw [HE.out]; exact (HM3.out.put (y := { x with w := W }) 30 (.int .u64 W) (e := rfl)).m, (HM3.out.put (y := { x with w := W }) 30 (.int .u64 W) (e := rfl)).k⟩
end Go.Proofs.YtcjgpkjhfbamfaaGreat
