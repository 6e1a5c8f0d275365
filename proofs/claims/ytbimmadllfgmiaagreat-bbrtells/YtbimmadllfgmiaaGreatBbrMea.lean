/-
  Package bbr's measure and turn: what they leave. Conditions: the Model lies in memory as New makes it, be it inside a block; numbers are of 64 bits; fewer than 2^64-1 rounds have begun.
-/
import Derived.Test.YtbimmadllfgmiaaGreatBbrSM
set_option linter.unusedVariables false
set_option linter.unusedSimpArgs false
namespace Go.Proofs.YtbimmadllfgmiaaGreat
open Go.RowKit
set_option maxRecDepth 100000
variable {Fm : Fr} {oo : Nat}
set_option maxHeartbeats 2000000 in
theorem measure_any (g : Nat) (x : Mdl) (s : Spl) (w : World) (h : MdlAt Fm oo w g x) (hf : x.Fit) (hs : s.Fit) : Calls Tryz.prog 31 #[.pointer (some ⟨g, oo, none⟩), s.v] w fun e w' => (∃ v, e = .returned v) ∧ MdlAt Fm oo w' g (meaM x s) ∧ Keep (fun k => k = g) w w' := by
  obtain ⟨V, hV⟩ : ∃ V, tolM s = V := ⟨_, rfl⟩
  have HVN : Hid (Num V) := Lib.hid (hV ▸ tolM_num hs)
  have HD := Lib.hid (numSub hs.d hs.p)
  have HM := Lib.hid (SM.begin (s := s) h)
  have HF := Lib.hid hf
  have HS := Lib.hid hs
  clear h hf hs
  by_cases ha : s.a = 0
  · have HE : Hid (meaM x s = x) := Lib.hid (by simp [meaM, telM, ha])
    have qa : (s.a == 0) = true := by simp [ha]
    clear ha hV
    go_enter Tryz.func31, Tryz.ntmps31
    go_wp2
    refine bodyPost_ret (results_none rfl _ _ _) rfl ?_
    exact ⟨⟨_, rfl⟩, by rw [HE.out]; exact HM.out.m, HM.out.k⟩
  have qa : (s.a == 0) = false := by simp [ha]
  by_cases hi : s.i = 0
  · have HE : Hid (meaM x s = x) := Lib.hid (by simp [meaM, telM, hi])
    have qi : (s.i == 0) = true := by simp [hi]
    clear ha hi hV
    go_enter Tryz.func31, Tryz.ntmps31
    go_wp2
    refine bodyPost_ret (results_none rfl _ _ _) rfl ?_
    exact ⟨⟨_, rfl⟩, by rw [HE.out]; exact HM.out.m, HM.out.k⟩
  have qi : (s.i == 0) = false := by simp [hi]
  have HV : Hid (mulDivV (satSub s.d s.p) 1000000000 s.i = V) := Lib.hid hV
  have ht : telM s = true := by simp [telM, ha, hi]
  by_cases hl : s.l = true
  · by_cases hb : x.b.v0 ≤ V
    · have HE : Hid (meaM x s = { x with b := updT false 10 x.b x.r.c V }) := Lib.hid (by simp [meaM, ht, hl, hV, hb])
      clear ha hi hV ht
      have HL := Lib.hid hl
      clear hl
      go_enter Tryz.func31, Tryz.ntmps31
      go_upto_region 2 with fail
      generalize hw1 : World.alloc w _ = w1 at *
      have HM1 : Hid (SM Fm oo w g w.heap.size x s w1) := HM
      clear HM hw1
      generalize w.heap.size = B at *
      obtain ⟨a0, a1, a2, a3, a4, a5, a6, a7, a8⟩ := HM1.out.spl
      refine wp_region_sch (SM Fm oo w g B x s) [(true, 0), (true, 1), (true, 2), (true, 3), (true, 5), (true, 6), (false, 4), (false, 7), (true, 8)] (by kernel_rfl) (by kernel_rfl) (by kernel_rfl) (by kernel_rfl) HM1.out.drew ?_
      (repeat (first | (refine wpSch_yes (v := ?_) rfl (fun _ _ _ h => h) (by rfl) ?_ ?_; rotate_left; (next => (intro w hSw; obtain ⟨a0, a1, a2, a3, a4, a5, a6, a7, a8⟩ := SM.spl hSw; obtain ⟨m0, m1, m2, m3, m4, m5, m6, m7⟩ := MdlAt.own (SM.m hSw); clear hSw; go_simp; (try with_reducible rfl))); (try simp only [Act.put, List.setIfInBounds_toArray, List.set_cons_zero, List.set_cons_succ])) | (refine wpSch_no rfl (fun _ _ _ h => h) (by rfl) ?_; (try simp only [Act.put, List.setIfInBounds_toArray, List.set_cons_zero, List.set_cons_succ]))))
      refine wpSch_call rfl (by rfl) (fun K hK => ?_)
      go_simp
      refine (sub_any _ _ HS.out.d.1 HS.out.d.2 HS.out.p.1 HS.out.p.2 _).mono ?_
      rintro e w' ⟨rfl, rfl⟩
      refine hK.out _ _ HM1.out.drew (fun hHeld => ?_)
      clear hK K hHeld
      (try simp only [Act.put, List.setIfInBounds_toArray, List.set_cons_zero, List.set_cons_succ])
      refine wpSch_call rfl (by rfl) (fun K hK => ?_)
      go_simp
      refine (wmuldiv_any _ _ _ HD.out.1 HD.out.2 (by decide) (by decide) HS.out.i.1 HS.out.i.2 _).mono ?_
      rintro e w' ⟨rfl, rfl⟩
      rw [HV.out]
      refine hK.out _ _ HM1.out.drew (fun hHeld => ?_)
      clear hK K hHeld
      (try simp only [Act.put, List.setIfInBounds_toArray, List.set_cons_zero, List.set_cons_succ])
      (repeat (first | (refine wpSch_yes (v := ?_) rfl (fun _ _ _ h => h) (by rfl) ?_ ?_; rotate_left; (next => (intro w hSw; obtain ⟨a0, a1, a2, a3, a4, a5, a6, a7, a8⟩ := SM.spl hSw; obtain ⟨m0, m1, m2, m3, m4, m5, m6, m7⟩ := MdlAt.own (SM.m hSw); clear hSw; go_simp; (try with_reducible rfl))); (try simp only [Act.put, List.setIfInBounds_toArray, List.set_cons_zero, List.set_cons_succ])) | (refine wpSch_no rfl (fun _ _ _ h => h) (by rfl) ?_; (try simp only [Act.put, List.setIfInBounds_toArray, List.set_cons_zero, List.set_cons_succ]))))
      refine wpSch_nil ?_
      have HM2 := Lib.hid HM1.out.drew
      clear a0 a1 a2 a3 a4 a5 a6 a7 a8 HM1
      generalize w1.drew = w2 at *
      obtain ⟨a0, a1, a2, a3, a4, a5, a6, a7, a8⟩ := HM2.out.spl
      have HX := Lib.hid (HM2.out.m.max HF.out)
      have hl := HL.out
      go_wp2_with fail
      refine (xbest_any _ _ _ _ HX.out).mono ?_
      rintro e w' ⟨rfl, rfl⟩
      go_upto_region 4 with fail
      refine wp_region_late (SM Fm oo w g B x s) [8] (.yes 0 (.yes 1 (.yes 2 (.yes 3 (.yes 4 (.yes 5 (.yes 7 (.one 6 (.one 8 .nil))))))))) (by kernel_rfl) (by kernel_rfl) (by kernel_rfl) (by kernel_rfl) HM2.out.drew ?_
      (repeat (refine wpSchL_yes (v := ?_) rfl (fun _ _ _ h => h) (by rfl) ?_ ?_; rotate_left; (next => (intro w hSw; obtain ⟨a0, a1, a2, a3, a4, a5, a6, a7, a8⟩ := SM.spl hSw; obtain ⟨m0, m1, m2, m3, m4, m5, m6, m7⟩ := MdlAt.own (SM.m hSw); clear hSw; go_simp; (try with_reducible rfl))); (try simp only [Act.put, List.setIfInBounds_toArray, List.set_cons_zero, List.set_cons_succ])))
      refine wpSchL_one ?_
      refine wpOneL_call rfl (by rfl) (fun K hK => ?_)
      go_simp
      refine (rcount_any _ _ _ (HM2.out.m.rnd HF.out).drew).mono ?_
      rintro e w' ⟨rfl, rfl⟩
      refine hK.out _ _ (fun _ => HM2.out.drew) (fun hHeld => ?_)
      clear hK K hHeld
      (try simp only [Act.put, List.setIfInBounds_toArray, List.set_cons_zero, List.set_cons_succ])
      refine wpSchL_one ?_
      refine wpOneL_call rfl (by rfl) (fun K hK => ?_)
      go_simp
      refine (xupd_any _ _ _ _ _ _ HX.out.drew HF.out.r.c HVN.out).mono ?_
      rintro e w' ⟨rfl, h', k'⟩
      have HM3 := Lib.hid (HM2.out.drew.call (MdlAt.max' h') k')
      clear h' k'
      refine hK.out _ _ (fun h => absurd h (by decide)) (fun hHeld => ?_)
      clear hK K hHeld
      (try simp only [Act.put, List.setIfInBounds_toArray, List.set_cons_zero, List.set_cons_succ])
      refine wpSchL_nil ?_
      go_wp2
      go_end0
      exact ⟨⟨_, rfl⟩, by rw [HE.out]; exact HM3.out.m, HM3.out.k⟩
    · have HE : Hid (meaM x s = x) := Lib.hid (by simp [meaM, ht, hl, hV, hb])
      clear ha hi hV ht
      have HL := Lib.hid hl
      clear hl
      go_enter Tryz.func31, Tryz.ntmps31
      go_upto_region 2 with fail
      generalize hw1 : World.alloc w _ = w1 at *
      have HM1 : Hid (SM Fm oo w g w.heap.size x s w1) := HM
      clear HM hw1
      generalize w.heap.size = B at *
      obtain ⟨a0, a1, a2, a3, a4, a5, a6, a7, a8⟩ := HM1.out.spl
      refine wp_region_sch (SM Fm oo w g B x s) [(true, 0), (true, 1), (true, 2), (true, 3), (true, 5), (true, 6), (false, 4), (false, 7), (true, 8)] (by kernel_rfl) (by kernel_rfl) (by kernel_rfl) (by kernel_rfl) HM1.out.drew ?_
      (repeat (first | (refine wpSch_yes (v := ?_) rfl (fun _ _ _ h => h) (by rfl) ?_ ?_; rotate_left; (next => (intro w hSw; obtain ⟨a0, a1, a2, a3, a4, a5, a6, a7, a8⟩ := SM.spl hSw; obtain ⟨m0, m1, m2, m3, m4, m5, m6, m7⟩ := MdlAt.own (SM.m hSw); clear hSw; go_simp; (try with_reducible rfl))); (try simp only [Act.put, List.setIfInBounds_toArray, List.set_cons_zero, List.set_cons_succ])) | (refine wpSch_no rfl (fun _ _ _ h => h) (by rfl) ?_; (try simp only [Act.put, List.setIfInBounds_toArray, List.set_cons_zero, List.set_cons_succ]))))
      refine wpSch_call rfl (by rfl) (fun K hK => ?_)
      go_simp
      refine (sub_any _ _ HS.out.d.1 HS.out.d.2 HS.out.p.1 HS.out.p.2 _).mono ?_
      rintro e w' ⟨rfl, rfl⟩
      refine hK.out _ _ HM1.out.drew (fun hHeld => ?_)
      clear hK K hHeld
      (try simp only [Act.put, List.setIfInBounds_toArray, List.set_cons_zero, List.set_cons_succ])
      refine wpSch_call rfl (by rfl) (fun K hK => ?_)
      go_simp
      refine (wmuldiv_any _ _ _ HD.out.1 HD.out.2 (by decide) (by decide) HS.out.i.1 HS.out.i.2 _).mono ?_
      rintro e w' ⟨rfl, rfl⟩
      rw [HV.out]
      refine hK.out _ _ HM1.out.drew (fun hHeld => ?_)
      clear hK K hHeld
      (try simp only [Act.put, List.setIfInBounds_toArray, List.set_cons_zero, List.set_cons_succ])
      (repeat (first | (refine wpSch_yes (v := ?_) rfl (fun _ _ _ h => h) (by rfl) ?_ ?_; rotate_left; (next => (intro w hSw; obtain ⟨a0, a1, a2, a3, a4, a5, a6, a7, a8⟩ := SM.spl hSw; obtain ⟨m0, m1, m2, m3, m4, m5, m6, m7⟩ := MdlAt.own (SM.m hSw); clear hSw; go_simp; (try with_reducible rfl))); (try simp only [Act.put, List.setIfInBounds_toArray, List.set_cons_zero, List.set_cons_succ])) | (refine wpSch_no rfl (fun _ _ _ h => h) (by rfl) ?_; (try simp only [Act.put, List.setIfInBounds_toArray, List.set_cons_zero, List.set_cons_succ]))))
      refine wpSch_nil ?_
      have HM2 := Lib.hid HM1.out.drew
      clear a0 a1 a2 a3 a4 a5 a6 a7 a8 HM1
      generalize w1.drew = w2 at *
      obtain ⟨a0, a1, a2, a3, a4, a5, a6, a7, a8⟩ := HM2.out.spl
      have HX := Lib.hid (HM2.out.m.max HF.out)
      have hl := HL.out
      go_wp2_with fail
      refine (xbest_any _ _ _ _ HX.out).mono ?_
      rintro e w' ⟨rfl, rfl⟩
      go_wp2
      go_end0
      exact ⟨⟨_, rfl⟩, by rw [HE.out]; exact HM2.out.m, HM2.out.k⟩
  · have hl0 : s.l = false := by simpa using hl
    clear hl
    have hl := hl0
    clear hl0
    have HE : Hid (meaM x s = { x with b := updT false 10 x.b x.r.c V }) := Lib.hid (by simp [meaM, ht, hl, hV])
    clear ha hi hV ht
    have HL := Lib.hid hl
    clear hl
    go_enter Tryz.func31, Tryz.ntmps31
    go_upto_region 2 with fail
    generalize hw1 : World.alloc w _ = w1 at *
    have HM1 : Hid (SM Fm oo w g w.heap.size x s w1) := HM
    clear HM hw1
    generalize w.heap.size = B at *
    obtain ⟨a0, a1, a2, a3, a4, a5, a6, a7, a8⟩ := HM1.out.spl
    refine wp_region_sch (SM Fm oo w g B x s) [(true, 0), (true, 1), (true, 2), (true, 3), (true, 5), (true, 6), (false, 4), (false, 7), (true, 8)] (by kernel_rfl) (by kernel_rfl) (by kernel_rfl) (by kernel_rfl) HM1.out.drew ?_
    (repeat (first | (refine wpSch_yes (v := ?_) rfl (fun _ _ _ h => h) (by rfl) ?_ ?_; rotate_left; (next => (intro w hSw; obtain ⟨a0, a1, a2, a3, a4, a5, a6, a7, a8⟩ := SM.spl hSw; obtain ⟨m0, m1, m2, m3, m4, m5, m6, m7⟩ := MdlAt.own (SM.m hSw); clear hSw; go_simp; (try with_reducible rfl))); (try simp only [Act.put, List.setIfInBounds_toArray, List.set_cons_zero, List.set_cons_succ])) | (refine wpSch_no rfl (fun _ _ _ h => h) (by rfl) ?_; (try simp only [Act.put, List.setIfInBounds_toArray, List.set_cons_zero, List.set_cons_succ]))))
    refine wpSch_call rfl (by rfl) (fun K hK => ?_)
    go_simp
    refine (sub_any _ _ HS.out.d.1 HS.out.d.2 HS.out.p.1 HS.out.p.2 _).mono ?_
    rintro e w' ⟨rfl, rfl⟩
    refine hK.out _ _ HM1.out.drew (fun hHeld => ?_)
    clear hK K hHeld
    (try simp only [Act.put, List.setIfInBounds_toArray, List.set_cons_zero, List.set_cons_succ])
    refine wpSch_call rfl (by rfl) (fun K hK => ?_)
    go_simp
    refine (wmuldiv_any _ _ _ HD.out.1 HD.out.2 (by decide) (by decide) HS.out.i.1 HS.out.i.2 _).mono ?_
    rintro e w' ⟨rfl, rfl⟩
    rw [HV.out]
    refine hK.out _ _ HM1.out.drew (fun hHeld => ?_)
    clear hK K hHeld
    (try simp only [Act.put, List.setIfInBounds_toArray, List.set_cons_zero, List.set_cons_succ])
    (repeat (first | (refine wpSch_yes (v := ?_) rfl (fun _ _ _ h => h) (by rfl) ?_ ?_; rotate_left; (next => (intro w hSw; obtain ⟨a0, a1, a2, a3, a4, a5, a6, a7, a8⟩ := SM.spl hSw; obtain ⟨m0, m1, m2, m3, m4, m5, m6, m7⟩ := MdlAt.own (SM.m hSw); clear hSw; go_simp; (try with_reducible rfl))); (try simp only [Act.put, List.setIfInBounds_toArray, List.set_cons_zero, List.set_cons_succ])) | (refine wpSch_no rfl (fun _ _ _ h => h) (by rfl) ?_; (try simp only [Act.put, List.setIfInBounds_toArray, List.set_cons_zero, List.set_cons_succ]))))
    refine wpSch_nil ?_
    have HM2 := Lib.hid HM1.out.drew
    clear a0 a1 a2 a3 a4 a5 a6 a7 a8 HM1
    generalize w1.drew = w2 at *
    obtain ⟨a0, a1, a2, a3, a4, a5, a6, a7, a8⟩ := HM2.out.spl
    have HX := Lib.hid (HM2.out.m.max HF.out)
    have hl := HL.out
    go_upto_region 4 with fail
    refine wp_region_late (SM Fm oo w g B x s) [8] (.yes 0 (.yes 1 (.yes 2 (.yes 3 (.yes 4 (.yes 5 (.yes 7 (.one 6 (.one 8 .nil))))))))) (by kernel_rfl) (by kernel_rfl) (by kernel_rfl) (by kernel_rfl) HM2.out.drew ?_
    (repeat (refine wpSchL_yes (v := ?_) rfl (fun _ _ _ h => h) (by rfl) ?_ ?_; rotate_left; (next => (intro w hSw; obtain ⟨a0, a1, a2, a3, a4, a5, a6, a7, a8⟩ := SM.spl hSw; obtain ⟨m0, m1, m2, m3, m4, m5, m6, m7⟩ := MdlAt.own (SM.m hSw); clear hSw; go_simp; (try with_reducible rfl))); (try simp only [Act.put, List.setIfInBounds_toArray, List.set_cons_zero, List.set_cons_succ])))
    refine wpSchL_one ?_
    refine wpOneL_call rfl (by rfl) (fun K hK => ?_)
    go_simp
    refine (rcount_any _ _ _ (HM2.out.m.rnd HF.out).drew).mono ?_
    rintro e w' ⟨rfl, rfl⟩
    refine hK.out _ _ (fun _ => HM2.out.drew) (fun hHeld => ?_)
    clear hK K hHeld
    (try simp only [Act.put, List.setIfInBounds_toArray, List.set_cons_zero, List.set_cons_succ])
    refine wpSchL_one ?_
    refine wpOneL_call rfl (by rfl) (fun K hK => ?_)
    go_simp
    refine (xupd_any _ _ _ _ _ _ HX.out.drew HF.out.r.c HVN.out).mono ?_
    rintro e w' ⟨rfl, h', k'⟩
    have HM3 := Lib.hid (HM2.out.drew.call (MdlAt.max' h') k')
    clear h' k'
    refine hK.out _ _ (fun h => absurd h (by decide)) (fun hHeld => ?_)
    clear hK K hHeld
    (try simp only [Act.put, List.setIfInBounds_toArray, List.set_cons_zero, List.set_cons_succ])
    refine wpSchL_nil ?_
    go_wp2
    go_end0
    exact ⟨⟨_, rfl⟩, by rw [HE.out]; exact HM3.out.m, HM3.out.k⟩
end Go.Proofs.YtbimmadllfgmiaaGreat
