/-
  Package bbr's mend: what it leaves. Conditions: the Model lies in memory as New makes it, be it inside a block; numbers are of 64 bits.
-/
import Derived.Test.YtcjgpkjhfbamfaaGreatJ23
set_option linter.unusedVariables false
set_option linter.unusedSimpArgs false
namespace Go.Proofs.YtcjgpkjhfbamfaaGreat
open Go.RowKit
set_option maxRecDepth 100000
variable {Fm : Fr} {oo : Nat}
set_option maxHeartbeats 4000000 in
theorem mend_any (g : Nat) (x : Mdl) (st : Bool) (s : Spl) (w : World) (h : MdlAt Fm oo w g x) (hf : x.Fit) (hs : s.Fit) : Calls Tryz.prog 38 #[.pointer (some ⟨g, oo, none⟩), .bool st, s.v] w fun e w' => (∃ v, e = .returned v) ∧ MdlAt Fm oo w' g (menM x st s) ∧ Keep (fun k => k = g) w w' := by
  have HM := Lib.hid (SM.begin (s := s) h)
  have HF := Lib.hid hf
  have HS := Lib.hid hs
  clear h hf hs
  obtain ⟨V, hV⟩ : ∃ V, x.v = V := ⟨_, rfl⟩
  by_cases ho : 0 < s.o
  · cases V
    · have HE : Hid (menM x st s = keepM { x with v := true, n := true, u := satAdd s.d s.f }) := Lib.hid (by simp [menM, ho, hV])
      obtain ⟨U, hU⟩ : ∃ U, satAdd s.d s.f = U := ⟨_, rfl⟩
      have HU := Lib.hid hU
      have HV := Lib.hid hV
      clear hV hU
      go_enter Tryz.func38, Tryz.ntmps38
      go_upto_region 1 with fail
      generalize hw1 : World.alloc w _ = w1 at *
      have HM1 : Hid (SM Fm oo w g w.heap.size x s w1) := HM
      clear HM hw1
      generalize w.heap.size = B at *
      obtain ⟨a0, a1, a2, a3, a4, a5, a6, a7, a8⟩ := HM1.out.spl
      obtain ⟨m0, m1, m2, m3, m4, m5, m6, m7⟩ := HM1.out.m.own
      clear m0 m1 m2 m3 m4 m6 a0 a2 a3 a4 a5 a8
      rw [HV.out] at m5
      have f5 := Part.free HM1.out.m 32
      have HMA := Lib.hid (HM1.out.put (y := { x with v := true }) 32 (.bool true) (e := rfl))
      have n7 : (w1.setCell ⟨g, oo + 32, none⟩ (.bool true)).cell? ⟨g, oo + 34, none⟩ = some (.bool x.n) := Part.cell HMA.out.m 34
      have f7 := Part.free HMA.out.m 34
      have HMB := Lib.hid (HMA.out.put (y := { x with v := true, n := true }) 34 (.bool true) (e := rfl))
      have a1' : ((w1.setCell ⟨g, oo + 32, none⟩ (.bool true)).setCell ⟨g, oo + 34, none⟩ (.bool true)).cell? ⟨B, 1, none⟩ = some (.int .u64 s.d) := HMB.out.spl.2.1
      have a7' : ((w1.setCell ⟨g, oo + 32, none⟩ (.bool true)).setCell ⟨g, oo + 34, none⟩ (.bool true)).cell? ⟨B, 7, none⟩ = some (.int .u64 s.f) := HMB.out.spl.2.2.2.2.2.2.2.1
      have n6 : ((w1.setCell ⟨g, oo + 32, none⟩ (.bool true)).setCell ⟨g, oo + 34, none⟩ (.bool true)).cell? ⟨g, oo + 33, none⟩ = some (.int .u64 x.u) := Part.cell HMB.out.m 33
      have f6 := Part.free HMB.out.m 33
      have HMC := Lib.hid (HMB.out.put (y := { x with v := true, n := true, u := U }) 33 (.int .u64 U) (e := rfl))
      clear HM1 HMA HMB
      go_wp2_with fail
      refine (add_any _ _ HS.out.d.1 HS.out.d.2 HS.out.f.1 HS.out.f.2 _).mono ?_
      rintro e w' ⟨rfl, rfl⟩
      rw [HU.out]
      go_wp2_with fail
      refine (keep_any _ _ _ HMC.out.m).mono ?_
      rintro e w3 ⟨⟨_, rfl⟩, h3, k3⟩
      have HM3 := Lib.hid (HMC.out.call h3 k3); clear h3 k3
      go_wp2
      go_end0
      exact ⟨⟨_, rfl⟩, by rw [HE.out, HU.out]; exact HM3.out.m, HM3.out.k⟩
    · have hv := hV
      have HV := Lib.hid hV
      clear hV
      by_cases hu : x.u ≤ s.d
      · by_cases h3 : x.m = 3
        · have HE : Hid (menM x st s = { x with v := false, n := false }) := Lib.hid (by simp [menM, hv, hu, h3])
          have e3 : (x.m != 3) = false := by simp [h3]
          clear hv h3
          go_enter Tryz.func38, Tryz.ntmps38
          go_upto_region 1 with fail
          generalize hw1 : World.alloc w _ = w1 at *
          have HM1 : Hid (SM Fm oo w g w.heap.size x s w1) := HM
          clear HM hw1
          generalize w.heap.size = B at *
          obtain ⟨a0, a1, a2, a3, a4, a5, a6, a7, a8⟩ := HM1.out.spl
          obtain ⟨m0, m1, m2, m3, m4, m5, m6, m7⟩ := HM1.out.m.own
          clear m0 m1 m2 m3 m4 m6 a0 a2 a3 a4 a5 a8
          rw [HV.out] at m5
          go_upto_region 5 with fail
          refine wp_region_sch (SM Fm oo w g B x s) [(true, 0), (true, 1), (true, 2), (true, 3), (true, 4), (true, 5), (true, 6), (true, 7), (true, 8), (true, 9), (true, 10), (true, 11), (true, 12), (true, 13)] (by kernel_rfl) (by kernel_rfl) (by kernel_rfl) (by kernel_rfl) HM1.out.drew ?_
          (repeat (first | (refine wpSch_yes (v := ?_) rfl (fun _ _ _ h => h) (by rfl) ?_ ?_; rotate_left; (next => (intro w hSw; obtain ⟨a0, a1, a2, a3, a4, a5, a6, a7, a8⟩ := SM.spl hSw; obtain ⟨m0, m1, m2, m3, m4, m5, m6, m7⟩ := MdlAt.own (SM.m hSw); clear hSw; rw [HV.out] at m5; go_simp; (try with_reducible rfl))); (try simp only [Act.put, List.setIfInBounds_toArray, List.set_cons_zero, List.set_cons_succ])) | (refine wpSch_no rfl (fun _ _ _ h => h) (by rfl) ?_; (try simp only [Act.put, List.setIfInBounds_toArray, List.set_cons_zero, List.set_cons_succ]))))
          refine wpSch_nil ?_
          have HM2 := Lib.hid HM1.out.drew
          clear a1 a6 a7 m5 m7 HM1
          generalize w1.drew = w2 at *
          obtain ⟨m0, m1, m2, m3, m4, m5, m6, m7⟩ := HM2.out.m.own
          clear m0 m2 m3 m4 m6
          rw [HV.out] at m5
          have f5 := Part.free HM2.out.m 32
          have HMA := Lib.hid (HM2.out.put (y := { x with v := false }) 32 (.bool false) (e := rfl))
          have n7 : (w2.setCell ⟨g, oo + 32, none⟩ (.bool false)).cell? ⟨g, oo + 34, none⟩ = some (.bool x.n) := Part.cell HMA.out.m 34
          have f7 := Part.free HMA.out.m 34
          have HMB := Lib.hid (HMA.out.put (y := { x with v := false, n := false }) 34 (.bool false) (e := rfl))
          have n1 : ((w2.setCell ⟨g, oo + 32, none⟩ (.bool false)).setCell ⟨g, oo + 34, none⟩ (.bool false)).cell? ⟨g, oo + 28, none⟩ = some (.int .i64 x.m) := Part.cell HMB.out.m 28
          clear HMA HM2
          go_wp2
          go_end0
          exact ⟨⟨_, rfl⟩, by rw [HE.out]; exact HMB.out.m, HMB.out.k⟩
        · have HE : Hid (menM x st s = resM { x with v := false, n := false }) := Lib.hid (by simp [menM, hv, hu, h3])
          have e3 : (x.m != 3) = true := by simp [h3]
          clear hv h3
          go_enter Tryz.func38, Tryz.ntmps38
          go_upto_region 1 with fail
          generalize hw1 : World.alloc w _ = w1 at *
          have HM1 : Hid (SM Fm oo w g w.heap.size x s w1) := HM
          clear HM hw1
          generalize w.heap.size = B at *
          obtain ⟨a0, a1, a2, a3, a4, a5, a6, a7, a8⟩ := HM1.out.spl
          obtain ⟨m0, m1, m2, m3, m4, m5, m6, m7⟩ := HM1.out.m.own
          clear m0 m1 m2 m3 m4 m6 a0 a2 a3 a4 a5 a8
          rw [HV.out] at m5
          go_upto_region 5 with fail
          refine wp_region_sch (SM Fm oo w g B x s) [(true, 0), (true, 1), (true, 2), (true, 3), (true, 4), (true, 5), (true, 6), (true, 7), (true, 8), (true, 9), (true, 10), (true, 11), (true, 12), (true, 13)] (by kernel_rfl) (by kernel_rfl) (by kernel_rfl) (by kernel_rfl) HM1.out.drew ?_
          (repeat (first | (refine wpSch_yes (v := ?_) rfl (fun _ _ _ h => h) (by rfl) ?_ ?_; rotate_left; (next => (intro w hSw; obtain ⟨a0, a1, a2, a3, a4, a5, a6, a7, a8⟩ := SM.spl hSw; obtain ⟨m0, m1, m2, m3, m4, m5, m6, m7⟩ := MdlAt.own (SM.m hSw); clear hSw; rw [HV.out] at m5; go_simp; (try with_reducible rfl))); (try simp only [Act.put, List.setIfInBounds_toArray, List.set_cons_zero, List.set_cons_succ])) | (refine wpSch_no rfl (fun _ _ _ h => h) (by rfl) ?_; (try simp only [Act.put, List.setIfInBounds_toArray, List.set_cons_zero, List.set_cons_succ]))))
          refine wpSch_nil ?_
          have HM2 := Lib.hid HM1.out.drew
          clear a1 a6 a7 m5 m7 HM1
          generalize w1.drew = w2 at *
          obtain ⟨m0, m1, m2, m3, m4, m5, m6, m7⟩ := HM2.out.m.own
          clear m0 m2 m3 m4 m6
          rw [HV.out] at m5
          have f5 := Part.free HM2.out.m 32
          have HMA := Lib.hid (HM2.out.put (y := { x with v := false }) 32 (.bool false) (e := rfl))
          have n7 : (w2.setCell ⟨g, oo + 32, none⟩ (.bool false)).cell? ⟨g, oo + 34, none⟩ = some (.bool x.n) := Part.cell HMA.out.m 34
          have f7 := Part.free HMA.out.m 34
          have HMB := Lib.hid (HMA.out.put (y := { x with v := false, n := false }) 34 (.bool false) (e := rfl))
          have n1 : ((w2.setCell ⟨g, oo + 32, none⟩ (.bool false)).setCell ⟨g, oo + 34, none⟩ (.bool false)).cell? ⟨g, oo + 28, none⟩ = some (.int .i64 x.m) := Part.cell HMB.out.m 28
          clear HMA HM2
          go_wp2_with fail
          refine (restore_any _ _ _ HMB.out.m).mono ?_
          rintro e w3 ⟨⟨_, rfl⟩, h3, k3⟩
          have HM3 := Lib.hid (HMB.out.call h3 k3); clear h3 k3
          go_wp2
          go_end0
          exact ⟨⟨_, rfl⟩, by rw [HE.out]; exact HM3.out.m, HM3.out.k⟩
      · have hu' : decide (x.u ≤ s.d) = false := by simp [hu]
        cases st
        · have HE : Hid (menM x false s = x) := Lib.hid (by simp [menM, hv, hu])
          clear hv
          go_enter Tryz.func38, Tryz.ntmps38
          go_upto_region 1 with fail
          generalize hw1 : World.alloc w _ = w1 at *
          have HM1 : Hid (SM Fm oo w g w.heap.size x s w1) := HM
          clear HM hw1
          generalize w.heap.size = B at *
          obtain ⟨a0, a1, a2, a3, a4, a5, a6, a7, a8⟩ := HM1.out.spl
          obtain ⟨m0, m1, m2, m3, m4, m5, m6, m7⟩ := HM1.out.m.own
          clear m0 m1 m2 m3 m4 m6 a0 a2 a3 a4 a5 a8
          rw [HV.out] at m5
          go_upto_region 5 with fail
          refine wp_region_sch (SM Fm oo w g B x s) [(true, 0), (true, 1), (true, 2), (true, 3), (true, 4), (true, 5), (true, 6), (true, 7), (true, 8), (true, 9), (true, 10), (true, 11), (true, 12), (true, 13)] (by kernel_rfl) (by kernel_rfl) (by kernel_rfl) (by kernel_rfl) HM1.out.drew ?_
          (repeat (first | (refine wpSch_yes (v := ?_) rfl (fun _ _ _ h => h) (by rfl) ?_ ?_; rotate_left; (next => (intro w hSw; obtain ⟨a0, a1, a2, a3, a4, a5, a6, a7, a8⟩ := SM.spl hSw; obtain ⟨m0, m1, m2, m3, m4, m5, m6, m7⟩ := MdlAt.own (SM.m hSw); clear hSw; rw [HV.out] at m5; go_simp; (try with_reducible rfl))); (try simp only [Act.put, List.setIfInBounds_toArray, List.set_cons_zero, List.set_cons_succ])) | (refine wpSch_no rfl (fun _ _ _ h => h) (by rfl) ?_; (try simp only [Act.put, List.setIfInBounds_toArray, List.set_cons_zero, List.set_cons_succ]))))
          refine wpSch_nil ?_
          have HM2 := Lib.hid HM1.out.drew
          clear a1 a6 a7 m5 m7 HM1
          generalize w1.drew = w2 at *
          obtain ⟨m0, m1, m2, m3, m4, m5, m6, m7⟩ := HM2.out.m.own
          clear m0 m2 m3 m4 m6
          rw [HV.out] at m5
          go_wp2
          go_end0
          exact ⟨⟨_, rfl⟩, by rw [HE.out]; exact HM2.out.m, HM2.out.k⟩
        · have HE : Hid (menM x true s = { x with n := false }) := Lib.hid (by simp [menM, hv, hu])
          clear hv
          go_enter Tryz.func38, Tryz.ntmps38
          go_upto_region 1 with fail
          generalize hw1 : World.alloc w _ = w1 at *
          have HM1 : Hid (SM Fm oo w g w.heap.size x s w1) := HM
          clear HM hw1
          generalize w.heap.size = B at *
          obtain ⟨a0, a1, a2, a3, a4, a5, a6, a7, a8⟩ := HM1.out.spl
          obtain ⟨m0, m1, m2, m3, m4, m5, m6, m7⟩ := HM1.out.m.own
          clear m0 m1 m2 m3 m4 m6 a0 a2 a3 a4 a5 a8
          rw [HV.out] at m5
          go_upto_region 5 with fail
          refine wp_region_sch (SM Fm oo w g B x s) [(true, 0), (true, 1), (true, 2), (true, 3), (true, 4), (true, 5), (true, 6), (true, 7), (true, 8), (true, 9), (true, 10), (true, 11), (true, 12), (true, 13)] (by kernel_rfl) (by kernel_rfl) (by kernel_rfl) (by kernel_rfl) HM1.out.drew ?_
          (repeat (first | (refine wpSch_yes (v := ?_) rfl (fun _ _ _ h => h) (by rfl) ?_ ?_; rotate_left; (next => (intro w hSw; obtain ⟨a0, a1, a2, a3, a4, a5, a6, a7, a8⟩ := SM.spl hSw; obtain ⟨m0, m1, m2, m3, m4, m5, m6, m7⟩ := MdlAt.own (SM.m hSw); clear hSw; rw [HV.out] at m5; go_simp; (try with_reducible rfl))); (try simp only [Act.put, List.setIfInBounds_toArray, List.set_cons_zero, List.set_cons_succ])) | (refine wpSch_no rfl (fun _ _ _ h => h) (by rfl) ?_; (try simp only [Act.put, List.setIfInBounds_toArray, List.set_cons_zero, List.set_cons_succ]))))
          refine wpSch_nil ?_
          have HM2 := Lib.hid HM1.out.drew
          clear a1 a6 a7 m5 m7 HM1
          generalize w1.drew = w2 at *
          obtain ⟨m0, m1, m2, m3, m4, m5, m6, m7⟩ := HM2.out.m.own
          clear m0 m2 m3 m4 m6
          rw [HV.out] at m5
          have f7 := Part.free HM2.out.m 34
          have HMA := Lib.hid (HM2.out.put (y := { x with n := false }) 34 (.bool false) (e := rfl))
          go_wp2
          go_end0
          exact ⟨⟨_, rfl⟩, by rw [HE.out]; exact HMA.out.m, HMA.out.k⟩
  · have ho' : decide (0 < s.o) = false := by simp [ho]
    cases V
    · have HE : Hid (menM x st s = x) := Lib.hid (by simp [menM, ho, hV])
      have HV := Lib.hid hV
      clear ho hV
      go_enter Tryz.func38, Tryz.ntmps38
      go_upto_region 1 with fail
      generalize hw1 : World.alloc w _ = w1 at *
      have HM1 : Hid (SM Fm oo w g w.heap.size x s w1) := HM
      clear HM hw1
      generalize w.heap.size = B at *
      obtain ⟨a0, a1, a2, a3, a4, a5, a6, a7, a8⟩ := HM1.out.spl
      obtain ⟨m0, m1, m2, m3, m4, m5, m6, m7⟩ := HM1.out.m.own
      clear m0 m1 m2 m3 m4 m6 a0 a2 a3 a4 a5 a8
      rw [HV.out] at m5
      go_upto_region 5 with fail
      refine wp_region_sch (SM Fm oo w g B x s) [(true, 0), (true, 1), (true, 2), (true, 3), (true, 4), (true, 5), (true, 6), (true, 7), (true, 8), (true, 9), (true, 10), (true, 11), (true, 12), (true, 13)] (by kernel_rfl) (by kernel_rfl) (by kernel_rfl) (by kernel_rfl) HM1.out.drew ?_
      (repeat (first | (refine wpSch_yes (v := ?_) rfl (fun _ _ _ h => h) (by rfl) ?_ ?_; rotate_left; (next => (intro w hSw; obtain ⟨a0, a1, a2, a3, a4, a5, a6, a7, a8⟩ := SM.spl hSw; obtain ⟨m0, m1, m2, m3, m4, m5, m6, m7⟩ := MdlAt.own (SM.m hSw); clear hSw; rw [HV.out] at m5; go_simp; (try with_reducible rfl))); (try simp only [Act.put, List.setIfInBounds_toArray, List.set_cons_zero, List.set_cons_succ])) | (refine wpSch_no rfl (fun _ _ _ h => h) (by rfl) ?_; (try simp only [Act.put, List.setIfInBounds_toArray, List.set_cons_zero, List.set_cons_succ]))))
      refine wpSch_nil ?_
      have HM2 := Lib.hid HM1.out.drew
      clear a1 a6 a7 m5 m7 HM1
      generalize w1.drew = w2 at *
      obtain ⟨m0, m1, m2, m3, m4, m5, m6, m7⟩ := HM2.out.m.own
      clear m0 m2 m3 m4 m6
      rw [HV.out] at m5
      go_wp2
      go_end0
      exact ⟨⟨_, rfl⟩, by rw [HE.out]; exact HM2.out.m, HM2.out.k⟩
    · have hv := hV
      have HV := Lib.hid hV
      clear hV
      by_cases hu : x.u ≤ s.d
      · by_cases h3 : x.m = 3
        · have HE : Hid (menM x st s = { x with v := false, n := false }) := Lib.hid (by simp [menM, hv, hu, h3])
          have e3 : (x.m != 3) = false := by simp [h3]
          clear hv h3
          go_enter Tryz.func38, Tryz.ntmps38
          go_upto_region 1 with fail
          generalize hw1 : World.alloc w _ = w1 at *
          have HM1 : Hid (SM Fm oo w g w.heap.size x s w1) := HM
          clear HM hw1
          generalize w.heap.size = B at *
          obtain ⟨a0, a1, a2, a3, a4, a5, a6, a7, a8⟩ := HM1.out.spl
          obtain ⟨m0, m1, m2, m3, m4, m5, m6, m7⟩ := HM1.out.m.own
          clear m0 m1 m2 m3 m4 m6 a0 a2 a3 a4 a5 a8
          rw [HV.out] at m5
          go_upto_region 5 with fail
          refine wp_region_sch (SM Fm oo w g B x s) [(true, 0), (true, 1), (true, 2), (true, 3), (true, 4), (true, 5), (true, 6), (true, 7), (true, 8), (true, 9), (true, 10), (true, 11), (true, 12), (true, 13)] (by kernel_rfl) (by kernel_rfl) (by kernel_rfl) (by kernel_rfl) HM1.out.drew ?_
          (repeat (first | (refine wpSch_yes (v := ?_) rfl (fun _ _ _ h => h) (by rfl) ?_ ?_; rotate_left; (next => (intro w hSw; obtain ⟨a0, a1, a2, a3, a4, a5, a6, a7, a8⟩ := SM.spl hSw; obtain ⟨m0, m1, m2, m3, m4, m5, m6, m7⟩ := MdlAt.own (SM.m hSw); clear hSw; rw [HV.out] at m5; go_simp; (try with_reducible rfl))); (try simp only [Act.put, List.setIfInBounds_toArray, List.set_cons_zero, List.set_cons_succ])) | (refine wpSch_no rfl (fun _ _ _ h => h) (by rfl) ?_; (try simp only [Act.put, List.setIfInBounds_toArray, List.set_cons_zero, List.set_cons_succ]))))
          refine wpSch_nil ?_
          have HM2 := Lib.hid HM1.out.drew
          clear a1 a6 a7 m5 m7 HM1
          generalize w1.drew = w2 at *
          obtain ⟨m0, m1, m2, m3, m4, m5, m6, m7⟩ := HM2.out.m.own
          clear m0 m2 m3 m4 m6
          rw [HV.out] at m5
          have f5 := Part.free HM2.out.m 32
          have HMA := Lib.hid (HM2.out.put (y := { x with v := false }) 32 (.bool false) (e := rfl))
          have n7 : (w2.setCell ⟨g, oo + 32, none⟩ (.bool false)).cell? ⟨g, oo + 34, none⟩ = some (.bool x.n) := Part.cell HMA.out.m 34
          have f7 := Part.free HMA.out.m 34
          have HMB := Lib.hid (HMA.out.put (y := { x with v := false, n := false }) 34 (.bool false) (e := rfl))
          have n1 : ((w2.setCell ⟨g, oo + 32, none⟩ (.bool false)).setCell ⟨g, oo + 34, none⟩ (.bool false)).cell? ⟨g, oo + 28, none⟩ = some (.int .i64 x.m) := Part.cell HMB.out.m 28
          clear HMA HM2
          go_wp2
          go_end0
          exact ⟨⟨_, rfl⟩, by rw [HE.out]; exact HMB.out.m, HMB.out.k⟩
        · have HE : Hid (menM x st s = resM { x with v := false, n := false }) := Lib.hid (by simp [menM, hv, hu, h3])
          have e3 : (x.m != 3) = true := by simp [h3]
          clear hv h3
          go_enter Tryz.func38, Tryz.ntmps38
          go_upto_region 1 with fail
          generalize hw1 : World.alloc w _ = w1 at *
          have HM1 : Hid (SM Fm oo w g w.heap.size x s w1) := HM
          clear HM hw1
          generalize w.heap.size = B at *
          obtain ⟨a0, a1, a2, a3, a4, a5, a6, a7, a8⟩ := HM1.out.spl
          obtain ⟨m0, m1, m2, m3, m4, m5, m6, m7⟩ := HM1.out.m.own
          clear m0 m1 m2 m3 m4 m6 a0 a2 a3 a4 a5 a8
          rw [HV.out] at m5
          go_upto_region 5 with fail
          refine wp_region_sch (SM Fm oo w g B x s) [(true, 0), (true, 1), (true, 2), (true, 3), (true, 4), (true, 5), (true, 6), (true, 7), (true, 8), (true, 9), (true, 10), (true, 11), (true, 12), (true, 13)] (by kernel_rfl) (by kernel_rfl) (by kernel_rfl) (by kernel_rfl) HM1.out.drew ?_
          (repeat (first | (refine wpSch_yes (v := ?_) rfl (fun _ _ _ h => h) (by rfl) ?_ ?_; rotate_left; (next => (intro w hSw; obtain ⟨a0, a1, a2, a3, a4, a5, a6, a7, a8⟩ := SM.spl hSw; obtain ⟨m0, m1, m2, m3, m4, m5, m6, m7⟩ := MdlAt.own (SM.m hSw); clear hSw; rw [HV.out] at m5; go_simp; (try with_reducible rfl))); (try simp only [Act.put, List.setIfInBounds_toArray, List.set_cons_zero, List.set_cons_succ])) | (refine wpSch_no rfl (fun _ _ _ h => h) (by rfl) ?_; (try simp only [Act.put, List.setIfInBounds_toArray, List.set_cons_zero, List.set_cons_succ]))))
          refine wpSch_nil ?_
          have HM2 := Lib.hid HM1.out.drew
          clear a1 a6 a7 m5 m7 HM1
          generalize w1.drew = w2 at *
          obtain ⟨m0, m1, m2, m3, m4, m5, m6, m7⟩ := HM2.out.m.own
          clear m0 m2 m3 m4 m6
          rw [HV.out] at m5
          have f5 := Part.free HM2.out.m 32
          have HMA := Lib.hid (HM2.out.put (y := { x with v := false }) 32 (.bool false) (e := rfl))
          have n7 : (w2.setCell ⟨g, oo + 32, none⟩ (.bool false)).cell? ⟨g, oo + 34, none⟩ = some (.bool x.n) := Part.cell HMA.out.m 34
          have f7 := Part.free HMA.out.m 34
          have HMB := Lib.hid (HMA.out.put (y := { x with v := false, n := false }) 34 (.bool false) (e := rfl))
          have n1 : ((w2.setCell ⟨g, oo + 32, none⟩ (.bool false)).setCell ⟨g, oo + 34, none⟩ (.bool false)).cell? ⟨g, oo + 28, none⟩ = some (.int .i64 x.m) := Part.cell HMB.out.m 28
          clear HMA HM2
          go_wp2_with fail
          refine (restore_any _ _ _ HMB.out.m).mono ?_
          rintro e w3 ⟨⟨_, rfl⟩, h3, k3⟩
          have HM3 := Lib.hid (HMB.out.call h3 k3); clear h3 k3
          go_wp2
          go_end0
          exact ⟨⟨_, rfl⟩, by rw [HE.out]; exact HM3.out.m, HM3.out.k⟩
      · have hu' : decide (x.u ≤ s.d) = false := by simp [hu]
        cases st
        · have HE : Hid (menM x false s = x) := Lib.hid (by simp [menM, hv, hu])
          clear hv
          go_enter Tryz.func38, Tryz.ntmps38
          go_upto_region 1 with fail
          generalize hw1 : World.alloc w _ = w1 at *
          have HM1 : Hid (SM Fm oo w g w.heap.size x s w1) := HM
          clear HM hw1
          generalize w.heap.size = B at *
          obtain ⟨a0, a1, a2, a3, a4, a5, a6, a7, a8⟩ := HM1.out.spl
          obtain ⟨m0, m1, m2, m3, m4, m5, m6, m7⟩ := HM1.out.m.own
          clear m0 m1 m2 m3 m4 m6 a0 a2 a3 a4 a5 a8
          rw [HV.out] at m5
          go_upto_region 5 with fail
          refine wp_region_sch (SM Fm oo w g B x s) [(true, 0), (true, 1), (true, 2), (true, 3), (true, 4), (true, 5), (true, 6), (true, 7), (true, 8), (true, 9), (true, 10), (true, 11), (true, 12), (true, 13)] (by kernel_rfl) (by kernel_rfl) (by kernel_rfl) (by kernel_rfl) HM1.out.drew ?_
          (repeat (first | (refine wpSch_yes (v := ?_) rfl (fun _ _ _ h => h) (by rfl) ?_ ?_; rotate_left; (next => (intro w hSw; obtain ⟨a0, a1, a2, a3, a4, a5, a6, a7, a8⟩ := SM.spl hSw; obtain ⟨m0, m1, m2, m3, m4, m5, m6, m7⟩ := MdlAt.own (SM.m hSw); clear hSw; rw [HV.out] at m5; go_simp; (try with_reducible rfl))); (try simp only [Act.put, List.setIfInBounds_toArray, List.set_cons_zero, List.set_cons_succ])) | (refine wpSch_no rfl (fun _ _ _ h => h) (by rfl) ?_; (try simp only [Act.put, List.setIfInBounds_toArray, List.set_cons_zero, List.set_cons_succ]))))
          refine wpSch_nil ?_
          have HM2 := Lib.hid HM1.out.drew
          clear a1 a6 a7 m5 m7 HM1
          generalize w1.drew = w2 at *
          obtain ⟨m0, m1, m2, m3, m4, m5, m6, m7⟩ := HM2.out.m.own
          clear m0 m2 m3 m4 m6
          rw [HV.out] at m5
          go_wp2
          go_end0
          exact ⟨⟨_, rfl⟩, by rw [HE.out]; exact HM2.out.m, HM2.out.k⟩
        · have HE : Hid (menM x true s = { x with n := false }) := Lib.hid (by simp [menM, hv, hu])
          clear hv
          go_enter Tryz.func38, Tryz.ntmps38
          go_upto_region 1 with fail
          generalize hw1 : World.alloc w _ = w1 at *
          have HM1 : Hid (SM Fm oo w g w.heap.size x s w1) := HM
          clear HM hw1
          generalize w.heap.size = B at *
          obtain ⟨a0, a1, a2, a3, a4, a5, a6, a7, a8⟩ := HM1.out.spl
          obtain ⟨m0, m1, m2, m3, m4, m5, m6, m7⟩ := HM1.out.m.own
          clear m0 m1 m2 m3 m4 m6 a0 a2 a3 a4 a5 a8
          rw [HV.out] at m5
          go_upto_region 5 with fail
          refine wp_region_sch (SM Fm oo w g B x s) [(true, 0), (true, 1), (true, 2), (true, 3), (true, 4), (true, 5), (true, 6), (true, 7), (true, 8), (true, 9), (true, 10), (true, 11), (true, 12), (true, 13)] (by kernel_rfl) (by kernel_rfl) (by kernel_rfl) (by kernel_rfl) HM1.out.drew ?_
          (repeat (first | (refine wpSch_yes (v := ?_) rfl (fun _ _ _ h => h) (by rfl) ?_ ?_; rotate_left; (next => (intro w hSw; obtain ⟨a0, a1, a2, a3, a4, a5, a6, a7, a8⟩ := SM.spl hSw; obtain ⟨m0, m1, m2, m3, m4, m5, m6, m7⟩ := MdlAt.own (SM.m hSw); clear hSw; rw [HV.out] at m5; go_simp; (try with_reducible rfl))); (try simp only [Act.put, List.setIfInBounds_toArray, List.set_cons_zero, List.set_cons_succ])) | (refine wpSch_no rfl (fun _ _ _ h => h) (by rfl) ?_; (try simp only [Act.put, List.setIfInBounds_toArray, List.set_cons_zero, List.set_cons_succ]))))
          refine wpSch_nil ?_
          have HM2 := Lib.hid HM1.out.drew
          clear a1 a6 a7 m5 m7 HM1
          generalize w1.drew = w2 at *
          obtain ⟨m0, m1, m2, m3, m4, m5, m6, m7⟩ := HM2.out.m.own
          clear m0 m2 m3 m4 m6
          rw [HV.out] at m5
          have f7 := Part.free HM2.out.m 34
          have HMA := Lib.hid (HM2.out.put (y := { x with n := false }) 34 (.bool false) (e := rfl))
          go_wp2
          go_end0
          exact ⟨⟨_, rfl⟩, by rw [HE.out]; exact HMA.out.m, HMA.out.k⟩
end Go.Proofs.YtcjgpkjhfbamfaaGreat
