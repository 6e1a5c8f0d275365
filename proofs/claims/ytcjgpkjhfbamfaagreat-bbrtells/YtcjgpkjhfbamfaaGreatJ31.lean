/-
  Package bbr's turn: what it leaves. Conditions: the Model lies in memory as New makes it, be it inside a block; numbers are of 64 bits.
  Package bbr's walk: what it leaves. Conditions: the Model lies in memory as New makes it, be it inside a block; numbers are of 64 bits.
-/
import Derived.Test.YtcjgpkjhfbamfaaGreatJ23
set_option linter.unusedVariables false
set_option linter.unusedSimpArgs false
namespace Go.Proofs.YtcjgpkjhfbamfaaGreat
open Go.RowKit
set_option maxRecDepth 100000
variable {Fm : Fr} {oo : Nat}
set_option maxHeartbeats 2000000 in
theorem turn_any (g : Nat) (x : Mdl) (s : Spl) (w : World) (h : MdlAt Fm oo w g x) (hf : x.Fit) (hs : s.Fit) : Calls Tryz.prog 32 #[.pointer (some ⟨g, oo, none⟩), s.v] w fun e w' => (∃ v, e = .returned v) ∧ MdlAt Fm oo w' g (turM x s) ∧ Keep (fun k => k = g) w w' := by
  have hlt := h.lt
  have c : w.cell? ⟨g, oo + 28, none⟩ = some (.int .i64 x.m) := Part.cell h 28
  have HM := Lib.hid (SM.begin (s := s) h)
  have HF := Lib.hid hf
  have HS := Lib.hid hs
  clear h hf hs
  by_cases h2 : x.m = 2
  · have e2 : (x.m == 2) = true := by simp [h2]
    obtain ⟨U, hU⟩ : ∃ U, x.o.u = U := ⟨_, rfl⟩
    have HU := Lib.hid hU
    cases U
    · have HE : Hid (turM x s = { x with c := updC x.c (lokM x s) }) := Lib.hid (by simp [turM, h2, hU])
      obtain ⟨A, hA⟩ : ∃ A, bdpM x 320 = A := ⟨_, rfl⟩
      obtain ⟨D, hD⟩ : ∃ D, bdpM x 256 = D := ⟨_, rfl⟩
      have HL : Hid (lokM x s = ⟨s.n, x.q.b, s.o, s.f, A, D⟩) := Lib.hid (by simp [lokM, hA, hD])
      have HA := Lib.hid hA
      have HD := Lib.hid hD
      clear h2 hU hA hD
      go_enter Tryz.func32, Tryz.ntmps32
      go_wp2_with fail
      refine (held_any _ _ _ HM.out.m HF.out).mono ?_
      rintro e w' ⟨rfl, rfl⟩
      rw [HU.out]
      go_upto_region 2 with fail
      generalize hw1 : World.alloc w _ = w1 at *
      have HM1 : Hid (SM Fm oo w g w.heap.size x s w1) := HM
      clear HM hw1
      generalize w.heap.size = B at *
      obtain ⟨a0, a1, a2, a3, a4, a5, a6, a7, a8⟩ := HM1.out.spl
      clear a0 a1 a2 a3 a4 a5 a6 a7 a8
      refine wp_region_late (SM Fm oo w g B x s) [17] (.yes 0 (.yes 1 (.yes 2 (.yes 3 (.yes 4 (.yes 5 (.yes 6 (.yes 7 (.yes 9 (.yes 10 (.yes 11 (.yes 12 (.yes 13 (.yes 15 (.one 8 (.one 14 (.one 16 (.one 17 .nil)))))))))))))))))) (by kernel_rfl) (by kernel_rfl) (by kernel_rfl) (by kernel_rfl) HM1.out.drew ?_
      (repeat (refine wpSchL_yes (v := ?_) rfl (fun _ _ _ h => h) (by rfl) ?_ ?_; rotate_left; (next => (intro w hSw; obtain ⟨a0, a1, a2, a3, a4, a5, a6, a7, a8⟩ := SM.spl hSw; obtain ⟨m0, m1, m2, m3, m4, m5, m6, m7⟩ := MdlAt.own (SM.m hSw); clear hSw; go_simp; (try with_reducible rfl))); (try simp only [Act.put, List.setIfInBounds_toArray, List.set_cons_zero, List.set_cons_succ])))
      refine wpSchL_one ?_
      refine wpOneL_call rfl (by rfl) (fun K hK => ?_)
      go_simp
      refine (prbest_any _ _ _ (HM1.out.drew.m.prb HF.out)).mono ?_
      rintro e w' ⟨rfl, rfl⟩
      refine hK.out _ _ (fun _ => HM1.out.drew) (fun hHeld => ?_)
      clear hK K hHeld
      (try simp only [Act.put, List.setIfInBounds_toArray, List.set_cons_zero, List.set_cons_succ])
      refine wpSchL_one ?_
      refine wpOneL_call rfl (by rfl) (fun K hK => ?_)
      go_simp
      refine (bdp_M _ _ 320 _ HM1.out.drew.m HF.out ⟨by decide, by decide⟩).mono ?_
      rintro e w2 ⟨rfl, k2⟩
      rw [HA.out]
      have HM2 := Lib.hid (HM1.out.drew.quiet k2); clear k2
      refine hK.out _ _ (fun _ => HM2.out) (fun hHeld => ?_)
      clear hK K hHeld
      (try simp only [Act.put, List.setIfInBounds_toArray, List.set_cons_zero, List.set_cons_succ])
      refine wpSchL_one ?_
      refine wpOneL_call rfl (by rfl) (fun K hK => ?_)
      go_simp
      refine (bdp_M _ _ 256 _ HM2.out.m HF.out ⟨by decide, by decide⟩).mono ?_
      rintro e w3 ⟨rfl, k3⟩
      rw [HD.out]
      have HM3 := Lib.hid (HM2.out.quiet k3); clear k3
      refine hK.out _ _ (fun _ => HM3.out) (fun hHeld => ?_)
      clear hK K hHeld
      (try simp only [Act.put, List.setIfInBounds_toArray, List.set_cons_zero, List.set_cons_succ])
      refine wpSchL_one ?_
      refine wpOneL_call rfl (by rfl) (fun K hK => ?_)
      go_simp
      refine (cyupd_any _ _ ⟨s.n, x.q.b, s.o, s.f, A, D⟩ _ (HM3.out.m.cyc HF.out) HS.out.n).mono ?_
      rintro e w4 ⟨rfl, h4, k4⟩
      have HM4 := Lib.hid (HM3.out.call (MdlAt.cyc' h4) k4); clear h4 k4
      refine hK.out _ _ (fun h => absurd h (by decide)) (fun hHeld => ?_)
      clear hK K hHeld
      (try simp only [Act.put, List.setIfInBounds_toArray, List.set_cons_zero, List.set_cons_succ])
      refine wpSchL_nil ?_
      go_wp2
      go_end0
      exact ⟨⟨_, rfl⟩, by rw [HE.out, HL.out]; exact HM4.out.m, HM4.out.k⟩
    · have HE : Hid (turM x s = x) := Lib.hid (by simp [turM, hU])
      clear h2 hU
      go_enter Tryz.func32, Tryz.ntmps32
      go_wp2_with fail
      refine (held_any _ _ _ HM.out.m HF.out).mono ?_
      rintro e w' ⟨rfl, rfl⟩
      rw [HU.out]
      go_wp2
      go_end0
      exact ⟨⟨_, rfl⟩, by rw [HE.out]; exact HM.out.m, HM.out.k⟩
  · have e2 : (x.m == 2) = false := by simp [h2]
    have HE : Hid (turM x s = x) := Lib.hid (by simp [turM, h2])
    clear h2
    go_enter Tryz.func32, Tryz.ntmps32
    go_wp2
    go_end0
    exact ⟨⟨_, rfl⟩, by rw [HE.out]; exact HM.out.m, HM.out.k⟩
end Go.Proofs.YtcjgpkjhfbamfaaGreat
set_option linter.unusedVariables false
set_option linter.unusedSimpArgs false
namespace Go.Proofs.YtcjgpkjhfbamfaaGreat
open Go.RowKit
set_option maxRecDepth 100000
variable {Fm : Fr} {oo : Nat}
set_option maxHeartbeats 4000000 in
theorem walk_any (g : Nat) (x : Mdl) (s : Spl) (w : World) (h : MdlAt Fm oo w g x) (hf : x.Fit) (hs : s.Fit) : Calls Tryz.prog 35 #[.pointer (some ⟨g, oo, none⟩), s.v] w fun e w' => (∃ v, e = .returned v) ∧ MdlAt Fm oo w' g (walM x s) ∧ Keep (fun k => k = g) w w' := by
  have hlt := h.lt
  have c : w.cell? ⟨g, oo + 28, none⟩ = some (.int .i64 x.m) := Part.cell h 28
  have HM := Lib.hid (SM.begin (s := s) h)
  have HF := Lib.hid hf
  have HS := Lib.hid hs
  clear h hf hs
  by_cases h0 : x.m = 0
  · have e0 : (x.m == 0) = true := by simp [h0]
    by_cases hfu : fullP x.p = true
    · have HFU := Lib.hid hfu
      obtain ⟨y, hy⟩ : ∃ y : Mdl, y = { x with m := 1 } := ⟨_, rfl⟩
      have HW : Hid (walM x s = draM y s) := Lib.hid (by rw [hy]; simp [walM, h0, hfu])
      have HF2 : Hid y.Fit := Lib.hid (hy ▸ HF.out.mode (by decide) (by decide))
      have HYM : Hid (y.m = 1) := Lib.hid (by rw [hy])
      have HYE : Hid (mdlL y = (mdlL x).set 28 (.int .i64 1)) := Lib.hid (by rw [hy]; rfl)
      clear h0 hfu hy
      go_enter Tryz.func35, Tryz.ntmps35
      go_wp2
      go_step3
      go_wp2
      go_step3
      go_wp2
      refine wp_loop_rounds 4 ?_
      generalize hw1 : World.alloc w _ = w1 at *
      have HM1 : Hid (SM Fm oo w g w.heap.size x s w1) := HM
      clear HM hw1 hlt c
      generalize w.heap.size = B at *
      have c : w1.cell? ⟨g, oo + 28, none⟩ = some (.int .i64 x.m) := Part.cell HM1.out.m 28
      have f := Part.free HM1.out.m 28
      rw [rounds_succ]
      go_wp2_with fail
      refine (pifull_any _ _ _ (HM1.out.m.pip HF.out)).mono ?_
      rintro e w' ⟨rfl, rfl⟩
      rw [HFU.out]
      go_wp2
      have HM2 := Lib.hid (HM1.out.put (y := y) 28 (.int .i64 1) (e := HYE.out.symm))
      generalize World.setCell w1 _ _ = w2 at *
      have HC : w2.cell? ⟨g, oo + 28, none⟩ = some (.int .i64 1) := HYM.out ▸ Part.cell HM2.out.m 28
      clear c f e0 HM1 HF HYE HYM HFU
      obtain ⟨D, hD⟩ : ∃ D, bdpM y 256 = D := ⟨_, rfl⟩
      have HD := Lib.hid hD
      by_cases hq : y.q.b = 0
      · have eq0 : (y.q.b == 0) = true := by simp [hq]
        have HE : Hid (walM x s = y) := Lib.hid (by rw [HW.out]; simp [draM, hq])
        clear hq hD
        rw [rounds_succ]
        go_upto_region 6 with fail
        refine wp_region_sch (SM Fm oo w g B y s) [(true, 0), (true, 1), (true, 2), (false, 3), (true, 4), (true, 5), (true, 6), (true, 7), (true, 8), (false, 9), (true, 10), (true, 11)] (by kernel_rfl) (by kernel_rfl) (by kernel_rfl) (by kernel_rfl) HM2.out.drew ?_
        (repeat (first | (refine wpSch_yes (v := ?_) rfl (fun _ _ _ h => h) (by rfl) ?_ ?_; rotate_left; (next => (intro w hSw; obtain ⟨a0, a1, a2, a3, a4, a5, a6, a7, a8⟩ := SM.spl hSw; obtain ⟨m0, m1, m2, m3, m4, m5, m6, m7⟩ := MdlAt.own (SM.m hSw); clear hSw; go_simp; (try with_reducible rfl))); (try simp only [Act.put, List.setIfInBounds_toArray, List.set_cons_zero, List.set_cons_succ])) | (refine wpSch_no rfl (fun _ _ _ h => h) (by rfl) ?_; (try simp only [Act.put, List.setIfInBounds_toArray, List.set_cons_zero, List.set_cons_succ]))))
        refine wpSch_call rfl (by rfl) (fun K hK => ?_)
        go_simp
        refine (prbest_any _ _ _ (HM2.out.drew.m.prb HF2.out)).mono ?_
        rintro e w' ⟨rfl, rfl⟩
        refine hK.out _ _ HM2.out.drew (fun hHeld => ?_)
        clear hK K hHeld
        (try simp only [Act.put, List.setIfInBounds_toArray, List.set_cons_zero, List.set_cons_succ])
        (repeat (first | (refine wpSch_yes (v := ?_) rfl (fun _ _ _ h => h) (by rfl) ?_ ?_; rotate_left; (next => (intro w hSw; obtain ⟨a0, a1, a2, a3, a4, a5, a6, a7, a8⟩ := SM.spl hSw; obtain ⟨m0, m1, m2, m3, m4, m5, m6, m7⟩ := MdlAt.own (SM.m hSw); clear hSw; go_simp; (try with_reducible rfl))); (try simp only [Act.put, List.setIfInBounds_toArray, List.set_cons_zero, List.set_cons_succ])) | (refine wpSch_no rfl (fun _ _ _ h => h) (by rfl) ?_; (try simp only [Act.put, List.setIfInBounds_toArray, List.set_cons_zero, List.set_cons_succ]))))
        refine wpSch_not rfl (by rfl) HM2.out.drew ?_
        (try simp only [Act.put, List.setIfInBounds_toArray, List.set_cons_zero, List.set_cons_succ])
        (repeat (first | (refine wpSch_yes (v := ?_) rfl (fun _ _ _ h => h) (by rfl) ?_ ?_; rotate_left; (next => (intro w hSw; obtain ⟨a0, a1, a2, a3, a4, a5, a6, a7, a8⟩ := SM.spl hSw; obtain ⟨m0, m1, m2, m3, m4, m5, m6, m7⟩ := MdlAt.own (SM.m hSw); clear hSw; go_simp; (try with_reducible rfl))); (try simp only [Act.put, List.setIfInBounds_toArray, List.set_cons_zero, List.set_cons_succ])) | (refine wpSch_no rfl (fun _ _ _ h => h) (by rfl) ?_; (try simp only [Act.put, List.setIfInBounds_toArray, List.set_cons_zero, List.set_cons_succ]))))
        refine wpSch_nil ?_
        go_wp2
        (try rw [Exit.noGoto_normal])
        (try rw [Exit.noGoto_ret])
        go_end0
        exact ⟨⟨_, rfl⟩, by rw [HE.out]; exact HM2.out.drew.m, HM2.out.drew.k⟩
      have eq0 : (y.q.b == 0) = false := by simp [hq]
      by_cases hd : D < s.f
      · have HE : Hid (walM x s = y) := Lib.hid (by rw [HW.out]; simp [draM, hD, hd])
        clear hq hD
        rw [rounds_succ]
        go_upto_region 6 with fail
        refine wp_region_sch (SM Fm oo w g B y s) [(true, 0), (true, 1), (true, 2), (false, 3), (true, 4), (true, 5), (true, 6), (true, 7), (true, 8), (false, 9), (true, 10), (true, 11)] (by kernel_rfl) (by kernel_rfl) (by kernel_rfl) (by kernel_rfl) HM2.out.drew ?_
        (repeat (first | (refine wpSch_yes (v := ?_) rfl (fun _ _ _ h => h) (by rfl) ?_ ?_; rotate_left; (next => (intro w hSw; obtain ⟨a0, a1, a2, a3, a4, a5, a6, a7, a8⟩ := SM.spl hSw; obtain ⟨m0, m1, m2, m3, m4, m5, m6, m7⟩ := MdlAt.own (SM.m hSw); clear hSw; go_simp; (try with_reducible rfl))); (try simp only [Act.put, List.setIfInBounds_toArray, List.set_cons_zero, List.set_cons_succ])) | (refine wpSch_no rfl (fun _ _ _ h => h) (by rfl) ?_; (try simp only [Act.put, List.setIfInBounds_toArray, List.set_cons_zero, List.set_cons_succ]))))
        refine wpSch_call rfl (by rfl) (fun K hK => ?_)
        go_simp
        refine (prbest_any _ _ _ (HM2.out.drew.m.prb HF2.out)).mono ?_
        rintro e w' ⟨rfl, rfl⟩
        refine hK.out _ _ HM2.out.drew (fun hHeld => ?_)
        clear hK K hHeld
        (try simp only [Act.put, List.setIfInBounds_toArray, List.set_cons_zero, List.set_cons_succ])
        (repeat (first | (refine wpSch_yes (v := ?_) rfl (fun _ _ _ h => h) (by rfl) ?_ ?_; rotate_left; (next => (intro w hSw; obtain ⟨a0, a1, a2, a3, a4, a5, a6, a7, a8⟩ := SM.spl hSw; obtain ⟨m0, m1, m2, m3, m4, m5, m6, m7⟩ := MdlAt.own (SM.m hSw); clear hSw; go_simp; (try with_reducible rfl))); (try simp only [Act.put, List.setIfInBounds_toArray, List.set_cons_zero, List.set_cons_succ])) | (refine wpSch_no rfl (fun _ _ _ h => h) (by rfl) ?_; (try simp only [Act.put, List.setIfInBounds_toArray, List.set_cons_zero, List.set_cons_succ]))))
        refine wpSch_call rfl (by rfl) (fun K hK => ?_)
        go_simp
        refine (bdp_M _ _ 256 _ HM2.out.drew.m HF2.out ⟨by decide, by decide⟩).mono ?_
        rintro e w3 ⟨rfl, k3⟩
        rw [HD.out]
        have HM3 := Lib.hid (HM2.out.drew.quiet k3); clear k3
        refine hK.out _ _ HM3.out (fun hHeld => ?_)
        clear hK K hHeld
        (try simp only [Act.put, List.setIfInBounds_toArray, List.set_cons_zero, List.set_cons_succ])
        (repeat (first | (refine wpSch_yes (v := ?_) rfl (fun _ _ _ h => h) (by rfl) ?_ ?_; rotate_left; (next => (intro w hSw; obtain ⟨a0, a1, a2, a3, a4, a5, a6, a7, a8⟩ := SM.spl hSw; obtain ⟨m0, m1, m2, m3, m4, m5, m6, m7⟩ := MdlAt.own (SM.m hSw); clear hSw; go_simp; (try with_reducible rfl))); (try simp only [Act.put, List.setIfInBounds_toArray, List.set_cons_zero, List.set_cons_succ])) | (refine wpSch_no rfl (fun _ _ _ h => h) (by rfl) ?_; (try simp only [Act.put, List.setIfInBounds_toArray, List.set_cons_zero, List.set_cons_succ]))))
        refine wpSch_nil ?_
        go_wp2
        (try rw [Exit.noGoto_normal])
        (try rw [Exit.noGoto_ret])
        go_end0
        exact ⟨⟨_, rfl⟩, by rw [HE.out]; exact HM3.out.m, HM3.out.k⟩
      · have hd0 : decide (D < s.f) = false := by simp [hd]
        have HE : Hid (walM x s = cruM y s.n) := Lib.hid (by rw [HW.out]; simp [draM, hD, hd, hq])
        clear hq hD
        rw [rounds_succ]
        go_upto_region 6 with fail
        refine wp_region_sch (SM Fm oo w g B y s) [(true, 0), (true, 1), (true, 2), (false, 3), (true, 4), (true, 5), (true, 6), (true, 7), (true, 8), (false, 9), (true, 10), (true, 11)] (by kernel_rfl) (by kernel_rfl) (by kernel_rfl) (by kernel_rfl) HM2.out.drew ?_
        (repeat (first | (refine wpSch_yes (v := ?_) rfl (fun _ _ _ h => h) (by rfl) ?_ ?_; rotate_left; (next => (intro w hSw; obtain ⟨a0, a1, a2, a3, a4, a5, a6, a7, a8⟩ := SM.spl hSw; obtain ⟨m0, m1, m2, m3, m4, m5, m6, m7⟩ := MdlAt.own (SM.m hSw); clear hSw; go_simp; (try with_reducible rfl))); (try simp only [Act.put, List.setIfInBounds_toArray, List.set_cons_zero, List.set_cons_succ])) | (refine wpSch_no rfl (fun _ _ _ h => h) (by rfl) ?_; (try simp only [Act.put, List.setIfInBounds_toArray, List.set_cons_zero, List.set_cons_succ]))))
        refine wpSch_call rfl (by rfl) (fun K hK => ?_)
        go_simp
        refine (prbest_any _ _ _ (HM2.out.drew.m.prb HF2.out)).mono ?_
        rintro e w' ⟨rfl, rfl⟩
        refine hK.out _ _ HM2.out.drew (fun hHeld => ?_)
        clear hK K hHeld
        (try simp only [Act.put, List.setIfInBounds_toArray, List.set_cons_zero, List.set_cons_succ])
        (repeat (first | (refine wpSch_yes (v := ?_) rfl (fun _ _ _ h => h) (by rfl) ?_ ?_; rotate_left; (next => (intro w hSw; obtain ⟨a0, a1, a2, a3, a4, a5, a6, a7, a8⟩ := SM.spl hSw; obtain ⟨m0, m1, m2, m3, m4, m5, m6, m7⟩ := MdlAt.own (SM.m hSw); clear hSw; go_simp; (try with_reducible rfl))); (try simp only [Act.put, List.setIfInBounds_toArray, List.set_cons_zero, List.set_cons_succ])) | (refine wpSch_no rfl (fun _ _ _ h => h) (by rfl) ?_; (try simp only [Act.put, List.setIfInBounds_toArray, List.set_cons_zero, List.set_cons_succ]))))
        refine wpSch_call rfl (by rfl) (fun K hK => ?_)
        go_simp
        refine (bdp_M _ _ 256 _ HM2.out.drew.m HF2.out ⟨by decide, by decide⟩).mono ?_
        rintro e w3 ⟨rfl, k3⟩
        rw [HD.out]
        have HM3 := Lib.hid (HM2.out.drew.quiet k3); clear k3
        refine hK.out _ _ HM3.out (fun hHeld => ?_)
        clear hK K hHeld
        (try simp only [Act.put, List.setIfInBounds_toArray, List.set_cons_zero, List.set_cons_succ])
        (repeat (first | (refine wpSch_yes (v := ?_) rfl (fun _ _ _ h => h) (by rfl) ?_ ?_; rotate_left; (next => (intro w hSw; obtain ⟨a0, a1, a2, a3, a4, a5, a6, a7, a8⟩ := SM.spl hSw; obtain ⟨m0, m1, m2, m3, m4, m5, m6, m7⟩ := MdlAt.own (SM.m hSw); clear hSw; go_simp; (try with_reducible rfl))); (try simp only [Act.put, List.setIfInBounds_toArray, List.set_cons_zero, List.set_cons_succ])) | (refine wpSch_no rfl (fun _ _ _ h => h) (by rfl) ?_; (try simp only [Act.put, List.setIfInBounds_toArray, List.set_cons_zero, List.set_cons_succ]))))
        refine wpSch_nil ?_
        obtain ⟨a0, a1, a2, a3, a4, a5, a6, a7, a8⟩ := HM3.out.spl
        clear a1 a2 a3 a4 a5 a6 a7 a8
        go_wp2_with fail
        refine (cruise_any _ _ s.n _ HM3.out.m HF2.out HS.out.n).mono ?_
        rintro e w4 ⟨⟨_, rfl⟩, h4, k4⟩
        have HM4 := Lib.hid (HM3.out.call h4 k4); clear h4 k4 a0
        have c4 : w4.cell? ⟨g, oo + 28, none⟩ = some (.int .i64 2) := Part.cell HM4.out.m 28
        go_wp2
        rw [rounds_succ]
        go_wp2
        (try rw [Exit.noGoto_normal])
        (try rw [Exit.noGoto_ret])
        go_end0
        exact ⟨⟨_, rfl⟩, by rw [HE.out]; exact HM4.out.m, HM4.out.k⟩
    · have hfu : fullP x.p = false := by simpa using hfu
      have HFU := Lib.hid hfu
      have HE : Hid (walM x s = x) := Lib.hid (by simp [walM, h0, hfu])
      clear h0 hfu
      go_enter Tryz.func35, Tryz.ntmps35
      go_wp2
      go_step3
      go_wp2
      go_step3
      go_wp2
      refine wp_loop_rounds 4 ?_
      generalize hw1 : World.alloc w _ = w1 at *
      have HM1 : Hid (SM Fm oo w g w.heap.size x s w1) := HM
      clear HM hw1 hlt c
      generalize w.heap.size = B at *
      have c : w1.cell? ⟨g, oo + 28, none⟩ = some (.int .i64 x.m) := Part.cell HM1.out.m 28
      rw [rounds_succ]
      go_wp2_with fail
      refine (pifull_any _ _ _ (HM1.out.m.pip HF.out)).mono ?_
      rintro e w' ⟨rfl, rfl⟩
      rw [HFU.out]
      go_wp2
      (try rw [Exit.noGoto_normal])
      (try rw [Exit.noGoto_ret])
      go_end0
      exact ⟨⟨_, rfl⟩, by rw [HE.out]; exact HM1.out.m, HM1.out.k⟩
  have e0 : (x.m == 0) = false := by simp [h0]
  by_cases h1 : x.m = 1
  · obtain ⟨y, hy⟩ : ∃ y : Mdl, y = x := ⟨_, rfl⟩
    have HW : Hid (walM x s = draM y s) := Lib.hid (by rw [hy]; simp [walM, h1])
    have HF2 : Hid y.Fit := Lib.hid (hy ▸ HF.out)
    have HY := Lib.hid hy
    have e1 : (x.m == 1) = true := by simp [h1]
    clear h0 h1 hy
    go_enter Tryz.func35, Tryz.ntmps35
    go_wp2
    go_step3
    go_wp2
    go_step3
    go_wp2
    refine wp_loop_rounds 4 ?_
    generalize hw1 : World.alloc w _ = w1 at *
    have HM1 : Hid (SM Fm oo w g w.heap.size x s w1) := HM
    clear HM hw1 hlt c
    generalize w.heap.size = B at *
    have c : w1.cell? ⟨g, oo + 28, none⟩ = some (.int .i64 x.m) := Part.cell HM1.out.m 28
    have HM2 : Hid (SM Fm oo w g B y s w1) := Lib.hid (by rw [HY.out]; exact HM1.out)
    obtain ⟨D, hD⟩ : ∃ D, bdpM y 256 = D := ⟨_, rfl⟩
    have HD := Lib.hid hD
    by_cases hq : y.q.b = 0
    · have eq0 : (y.q.b == 0) = true := by simp [hq]
      have HE : Hid (walM x s = y) := Lib.hid (by rw [HW.out]; simp [draM, hq])
      clear hq hD
      rw [rounds_succ]
      go_upto_region 6 with fail
      refine wp_region_sch (SM Fm oo w g B y s) [(true, 0), (true, 1), (true, 2), (false, 3), (true, 4), (true, 5), (true, 6), (true, 7), (true, 8), (false, 9), (true, 10), (true, 11)] (by kernel_rfl) (by kernel_rfl) (by kernel_rfl) (by kernel_rfl) HM2.out.drew ?_
      (repeat (first | (refine wpSch_yes (v := ?_) rfl (fun _ _ _ h => h) (by rfl) ?_ ?_; rotate_left; (next => (intro w hSw; obtain ⟨a0, a1, a2, a3, a4, a5, a6, a7, a8⟩ := SM.spl hSw; obtain ⟨m0, m1, m2, m3, m4, m5, m6, m7⟩ := MdlAt.own (SM.m hSw); clear hSw; go_simp; (try with_reducible rfl))); (try simp only [Act.put, List.setIfInBounds_toArray, List.set_cons_zero, List.set_cons_succ])) | (refine wpSch_no rfl (fun _ _ _ h => h) (by rfl) ?_; (try simp only [Act.put, List.setIfInBounds_toArray, List.set_cons_zero, List.set_cons_succ]))))
      refine wpSch_call rfl (by rfl) (fun K hK => ?_)
      go_simp
      refine (prbest_any _ _ _ (HM2.out.drew.m.prb HF2.out)).mono ?_
      rintro e w' ⟨rfl, rfl⟩
      refine hK.out _ _ HM2.out.drew (fun hHeld => ?_)
      clear hK K hHeld
      (try simp only [Act.put, List.setIfInBounds_toArray, List.set_cons_zero, List.set_cons_succ])
      (repeat (first | (refine wpSch_yes (v := ?_) rfl (fun _ _ _ h => h) (by rfl) ?_ ?_; rotate_left; (next => (intro w hSw; obtain ⟨a0, a1, a2, a3, a4, a5, a6, a7, a8⟩ := SM.spl hSw; obtain ⟨m0, m1, m2, m3, m4, m5, m6, m7⟩ := MdlAt.own (SM.m hSw); clear hSw; go_simp; (try with_reducible rfl))); (try simp only [Act.put, List.setIfInBounds_toArray, List.set_cons_zero, List.set_cons_succ])) | (refine wpSch_no rfl (fun _ _ _ h => h) (by rfl) ?_; (try simp only [Act.put, List.setIfInBounds_toArray, List.set_cons_zero, List.set_cons_succ]))))
      refine wpSch_not rfl (by rfl) HM2.out.drew ?_
      (try simp only [Act.put, List.setIfInBounds_toArray, List.set_cons_zero, List.set_cons_succ])
      (repeat (first | (refine wpSch_yes (v := ?_) rfl (fun _ _ _ h => h) (by rfl) ?_ ?_; rotate_left; (next => (intro w hSw; obtain ⟨a0, a1, a2, a3, a4, a5, a6, a7, a8⟩ := SM.spl hSw; obtain ⟨m0, m1, m2, m3, m4, m5, m6, m7⟩ := MdlAt.own (SM.m hSw); clear hSw; go_simp; (try with_reducible rfl))); (try simp only [Act.put, List.setIfInBounds_toArray, List.set_cons_zero, List.set_cons_succ])) | (refine wpSch_no rfl (fun _ _ _ h => h) (by rfl) ?_; (try simp only [Act.put, List.setIfInBounds_toArray, List.set_cons_zero, List.set_cons_succ]))))
      refine wpSch_nil ?_
      go_wp2
      (try rw [Exit.noGoto_normal])
      (try rw [Exit.noGoto_ret])
      go_end0
      exact ⟨⟨_, rfl⟩, by rw [HE.out]; exact HM2.out.drew.m, HM2.out.drew.k⟩
    have eq0 : (y.q.b == 0) = false := by simp [hq]
    by_cases hd : D < s.f
    · have HE : Hid (walM x s = y) := Lib.hid (by rw [HW.out]; simp [draM, hD, hd])
      clear hq hD
      rw [rounds_succ]
      go_upto_region 6 with fail
      refine wp_region_sch (SM Fm oo w g B y s) [(true, 0), (true, 1), (true, 2), (false, 3), (true, 4), (true, 5), (true, 6), (true, 7), (true, 8), (false, 9), (true, 10), (true, 11)] (by kernel_rfl) (by kernel_rfl) (by kernel_rfl) (by kernel_rfl) HM2.out.drew ?_
      (repeat (first | (refine wpSch_yes (v := ?_) rfl (fun _ _ _ h => h) (by rfl) ?_ ?_; rotate_left; (next => (intro w hSw; obtain ⟨a0, a1, a2, a3, a4, a5, a6, a7, a8⟩ := SM.spl hSw; obtain ⟨m0, m1, m2, m3, m4, m5, m6, m7⟩ := MdlAt.own (SM.m hSw); clear hSw; go_simp; (try with_reducible rfl))); (try simp only [Act.put, List.setIfInBounds_toArray, List.set_cons_zero, List.set_cons_succ])) | (refine wpSch_no rfl (fun _ _ _ h => h) (by rfl) ?_; (try simp only [Act.put, List.setIfInBounds_toArray, List.set_cons_zero, List.set_cons_succ]))))
      refine wpSch_call rfl (by rfl) (fun K hK => ?_)
      go_simp
      refine (prbest_any _ _ _ (HM2.out.drew.m.prb HF2.out)).mono ?_
      rintro e w' ⟨rfl, rfl⟩
      refine hK.out _ _ HM2.out.drew (fun hHeld => ?_)
      clear hK K hHeld
      (try simp only [Act.put, List.setIfInBounds_toArray, List.set_cons_zero, List.set_cons_succ])
      (repeat (first | (refine wpSch_yes (v := ?_) rfl (fun _ _ _ h => h) (by rfl) ?_ ?_; rotate_left; (next => (intro w hSw; obtain ⟨a0, a1, a2, a3, a4, a5, a6, a7, a8⟩ := SM.spl hSw; obtain ⟨m0, m1, m2, m3, m4, m5, m6, m7⟩ := MdlAt.own (SM.m hSw); clear hSw; go_simp; (try with_reducible rfl))); (try simp only [Act.put, List.setIfInBounds_toArray, List.set_cons_zero, List.set_cons_succ])) | (refine wpSch_no rfl (fun _ _ _ h => h) (by rfl) ?_; (try simp only [Act.put, List.setIfInBounds_toArray, List.set_cons_zero, List.set_cons_succ]))))
      refine wpSch_call rfl (by rfl) (fun K hK => ?_)
      go_simp
      refine (bdp_M _ _ 256 _ HM2.out.drew.m HF2.out ⟨by decide, by decide⟩).mono ?_
      rintro e w3 ⟨rfl, k3⟩
      rw [HD.out]
      have HM3 := Lib.hid (HM2.out.drew.quiet k3); clear k3
      refine hK.out _ _ HM3.out (fun hHeld => ?_)
      clear hK K hHeld
      (try simp only [Act.put, List.setIfInBounds_toArray, List.set_cons_zero, List.set_cons_succ])
      (repeat (first | (refine wpSch_yes (v := ?_) rfl (fun _ _ _ h => h) (by rfl) ?_ ?_; rotate_left; (next => (intro w hSw; obtain ⟨a0, a1, a2, a3, a4, a5, a6, a7, a8⟩ := SM.spl hSw; obtain ⟨m0, m1, m2, m3, m4, m5, m6, m7⟩ := MdlAt.own (SM.m hSw); clear hSw; go_simp; (try with_reducible rfl))); (try simp only [Act.put, List.setIfInBounds_toArray, List.set_cons_zero, List.set_cons_succ])) | (refine wpSch_no rfl (fun _ _ _ h => h) (by rfl) ?_; (try simp only [Act.put, List.setIfInBounds_toArray, List.set_cons_zero, List.set_cons_succ]))))
      refine wpSch_nil ?_
      go_wp2
      (try rw [Exit.noGoto_normal])
      (try rw [Exit.noGoto_ret])
      go_end0
      exact ⟨⟨_, rfl⟩, by rw [HE.out]; exact HM3.out.m, HM3.out.k⟩
    · have hd0 : decide (D < s.f) = false := by simp [hd]
      have HE : Hid (walM x s = cruM y s.n) := Lib.hid (by rw [HW.out]; simp [draM, hD, hd, hq])
      clear hq hD
      rw [rounds_succ]
      go_upto_region 6 with fail
      refine wp_region_sch (SM Fm oo w g B y s) [(true, 0), (true, 1), (true, 2), (false, 3), (true, 4), (true, 5), (true, 6), (true, 7), (true, 8), (false, 9), (true, 10), (true, 11)] (by kernel_rfl) (by kernel_rfl) (by kernel_rfl) (by kernel_rfl) HM2.out.drew ?_
      (repeat (first | (refine wpSch_yes (v := ?_) rfl (fun _ _ _ h => h) (by rfl) ?_ ?_; rotate_left; (next => (intro w hSw; obtain ⟨a0, a1, a2, a3, a4, a5, a6, a7, a8⟩ := SM.spl hSw; obtain ⟨m0, m1, m2, m3, m4, m5, m6, m7⟩ := MdlAt.own (SM.m hSw); clear hSw; go_simp; (try with_reducible rfl))); (try simp only [Act.put, List.setIfInBounds_toArray, List.set_cons_zero, List.set_cons_succ])) | (refine wpSch_no rfl (fun _ _ _ h => h) (by rfl) ?_; (try simp only [Act.put, List.setIfInBounds_toArray, List.set_cons_zero, List.set_cons_succ]))))
      refine wpSch_call rfl (by rfl) (fun K hK => ?_)
      go_simp
      refine (prbest_any _ _ _ (HM2.out.drew.m.prb HF2.out)).mono ?_
      rintro e w' ⟨rfl, rfl⟩
      refine hK.out _ _ HM2.out.drew (fun hHeld => ?_)
      clear hK K hHeld
      (try simp only [Act.put, List.setIfInBounds_toArray, List.set_cons_zero, List.set_cons_succ])
      (repeat (first | (refine wpSch_yes (v := ?_) rfl (fun _ _ _ h => h) (by rfl) ?_ ?_; rotate_left; (next => (intro w hSw; obtain ⟨a0, a1, a2, a3, a4, a5, a6, a7, a8⟩ := SM.spl hSw; obtain ⟨m0, m1, m2, m3, m4, m5, m6, m7⟩ := MdlAt.own (SM.m hSw); clear hSw; go_simp; (try with_reducible rfl))); (try simp only [Act.put, List.setIfInBounds_toArray, List.set_cons_zero, List.set_cons_succ])) | (refine wpSch_no rfl (fun _ _ _ h => h) (by rfl) ?_; (try simp only [Act.put, List.setIfInBounds_toArray, List.set_cons_zero, List.set_cons_succ]))))
      refine wpSch_call rfl (by rfl) (fun K hK => ?_)
      go_simp
      refine (bdp_M _ _ 256 _ HM2.out.drew.m HF2.out ⟨by decide, by decide⟩).mono ?_
      rintro e w3 ⟨rfl, k3⟩
      rw [HD.out]
      have HM3 := Lib.hid (HM2.out.drew.quiet k3); clear k3
      refine hK.out _ _ HM3.out (fun hHeld => ?_)
      clear hK K hHeld
      (try simp only [Act.put, List.setIfInBounds_toArray, List.set_cons_zero, List.set_cons_succ])
      (repeat (first | (refine wpSch_yes (v := ?_) rfl (fun _ _ _ h => h) (by rfl) ?_ ?_; rotate_left; (next => (intro w hSw; obtain ⟨a0, a1, a2, a3, a4, a5, a6, a7, a8⟩ := SM.spl hSw; obtain ⟨m0, m1, m2, m3, m4, m5, m6, m7⟩ := MdlAt.own (SM.m hSw); clear hSw; go_simp; (try with_reducible rfl))); (try simp only [Act.put, List.setIfInBounds_toArray, List.set_cons_zero, List.set_cons_succ])) | (refine wpSch_no rfl (fun _ _ _ h => h) (by rfl) ?_; (try simp only [Act.put, List.setIfInBounds_toArray, List.set_cons_zero, List.set_cons_succ]))))
      refine wpSch_nil ?_
      obtain ⟨a0, a1, a2, a3, a4, a5, a6, a7, a8⟩ := HM3.out.spl
      clear a1 a2 a3 a4 a5 a6 a7 a8
      go_wp2_with fail
      refine (cruise_any _ _ s.n _ HM3.out.m HF2.out HS.out.n).mono ?_
      rintro e w4 ⟨⟨_, rfl⟩, h4, k4⟩
      have HM4 := Lib.hid (HM3.out.call h4 k4); clear h4 k4 a0
      have c4 : w4.cell? ⟨g, oo + 28, none⟩ = some (.int .i64 2) := Part.cell HM4.out.m 28
      go_wp2
      rw [rounds_succ]
      go_wp2
      (try rw [Exit.noGoto_normal])
      (try rw [Exit.noGoto_ret])
      go_end0
      exact ⟨⟨_, rfl⟩, by rw [HE.out]; exact HM4.out.m, HM4.out.k⟩
  · have e1 : (x.m == 1) = false := by simp [h1]
    have HE : Hid (walM x s = x) := Lib.hid (by simp [walM, h0, h1])
    clear h0 h1
    go_enter Tryz.func35, Tryz.ntmps35
    go_wp2
    go_step3
    go_wp2
    go_step3
    go_wp2
    refine wp_loop_rounds 4 ?_
    generalize hw1 : World.alloc w _ = w1 at *
    have HM1 : Hid (SM Fm oo w g w.heap.size x s w1) := HM
    clear HM hw1 hlt c
    generalize w.heap.size = B at *
    have c : w1.cell? ⟨g, oo + 28, none⟩ = some (.int .i64 x.m) := Part.cell HM1.out.m 28
    rw [rounds_succ]
    go_wp2
    (try rw [Exit.noGoto_normal])
    (try rw [Exit.noGoto_ret])
    go_end0
    exact ⟨⟨_, rfl⟩, by rw [HE.out]; exact HM1.out.m, HM1.out.k⟩
end Go.Proofs.YtcjgpkjhfbamfaaGreat
