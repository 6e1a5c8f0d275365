/-
  Package bbr's look: what it leaves. Conditions: the Model lies in memory as New makes it, be it inside a block; numbers are of 64 bits.
-/
import Derived.Test.YtbimmadllfgmiaaGreatBbrSM
set_option linter.unusedVariables false
set_option linter.unusedSimpArgs false
namespace Go.Proofs.YtbimmadllfgmiaaGreat
open Go.RowKit
set_option maxRecDepth 100000
variable {Fm : Fr} {oo : Nat}
theorem spl_cells {w : World} {B : Nat} {s : Spl} {T : TypeId} (h : Whole w B T s.c) : w.cell? ⟨B, 0, none⟩ = some (.int .u64 s.n) ∧ w.cell? ⟨B, 1, none⟩ = some (.int .u64 s.d) ∧ w.cell? ⟨B, 2, none⟩ = some (.int .u64 s.p) ∧ w.cell? ⟨B, 3, none⟩ = some (.int .u64 s.i) ∧ w.cell? ⟨B, 4, none⟩ = some (.int .u64 s.r) ∧ w.cell? ⟨B, 5, none⟩ = some (.int .u64 s.a) ∧ w.cell? ⟨B, 6, none⟩ = some (.int .u64 s.o) ∧ w.cell? ⟨B, 7, none⟩ = some (.int .u64 s.f) ∧ w.cell? ⟨B, 8, none⟩ = some (.bool s.l) :=
  ⟨h.cell 0, h.cell 1, h.cell 2, h.cell 3, h.cell 4, h.cell 5, h.cell 6, h.cell 7, h.cell 8⟩
set_option maxHeartbeats 2000000 in
theorem look_any (g : Nat) (x : Mdl) (st : Bool) (s : Spl) (w : World) (h : MdlAt Fm oo w g x) (hf : x.Fit) (hs : s.Fit) : Calls Tryz.prog 36 #[.pointer (some ⟨g, oo, none⟩), .bool st, s.v] w fun e w' => (∃ v, e = .returned v) ∧ MdlAt Fm oo w' g (looM x st s) ∧ Keep (fun k => k = g) w w' := by
  have HM := Lib.hid (SM.begin (s := s) h)
  have HF := Lib.hid hf
  have HS := Lib.hid hs
  clear h hf hs
  obtain ⟨y, hy⟩ : ∃ y : Mdl, y = { x with q := updB x.q (looL x st s) } := ⟨_, rfl⟩
  have HY := Lib.hid hy
  have HYF : Hid y.Fit := Lib.hid (by rw [hy]; exact { HF.out with q := HF.out.q.upd HS.out.n HS.out.r })
  have HYP : Hid (y.p = x.p) := Lib.hid (by rw [hy])
  obtain ⟨p, hp⟩ : ∃ p, begB x.q (looL x st s) = p := ⟨_, rfl⟩
  obtain ⟨q, hq⟩ : ∃ q, leaB x.q (looL x st s) = q := ⟨_, rfl⟩
  have HB := Lib.hid hp
  have HL := Lib.hid hq
  cases p
  · cases q
    · have HE : Hid (looM x st s = y) := Lib.hid (by simp [looM, hp, hq, hy])
      clear hp hq hy
      go_enter Tryz.func36, Tryz.ntmps36
      go_upto_region 1 with fail
      generalize hw1 : World.alloc w _ = w1 at *
      have HM1 : Hid (SM Fm oo w g w.heap.size x s w1) := HM
      clear HM hw1
      generalize w.heap.size = B at *
      obtain ⟨a0, a1, a2, a3, a4, a5, a6, a7, a8⟩ := HM1.out.spl
      clear a0 a1 a2 a3 a4 a5 a6 a7 a8
      refine wp_region_sch (fun W => Whole W B 34 s.c) [(true, 0), (true, 1), (true, 2), (true, 3), (true, 4), (true, 5), (true, 6), (true, 7), (true, 8), (true, 9), (true, 10), (false, 11), (false, 12), (true, 13), (true, 14), (true, 15), (true, 16), (true, 17)] (by kernel_rfl) (by kernel_rfl) (by kernel_rfl) (by kernel_rfl) HM1.out.drew.b ?_
      (repeat (refine wpSch_yes (v := ?_) rfl (fun _ _ _ h => h) (by rfl) ?_ ?_; rotate_left; (next => (intro w hSw; obtain ⟨a0, a1, a2, a3, a4, a5, a6, a7, a8⟩ := spl_cells hSw; clear hSw; go_simp; (try with_reducible rfl))); (try simp only [Act.put, List.setIfInBounds_toArray, List.set_cons_zero, List.set_cons_succ])))
      refine wpSch_call rfl (by rfl) (fun K hK => ?_)
      go_simp
      refine (floor_any _ _ _ HM1.out.drew.m HF.out).mono ?_
      rintro e w' ⟨rfl, rfl⟩
      refine hK.out _ _ HM1.out.drew.b (fun hHeld => ?_)
      clear hK K hHeld
      (try simp only [Act.put, List.setIfInBounds_toArray, List.set_cons_zero, List.set_cons_succ])
      refine wpSch_call rfl (by rfl) (fun K hK => ?_)
      go_simp
      refine (prupd_any _ _ (looL x st s) _ (HM1.out.drew.m.prb HF.out) HS.out.n HS.out.r).mono ?_
      rintro e w2 ⟨rfl, h2, k2⟩
      have HM2 : Hid (SM Fm oo w g B y s w2) := Lib.hid (by rw [HY.out]; exact HM1.out.drew.call (MdlAt.prb' h2) k2)
      clear h2 k2 HM1
      rw [HB.out, HL.out]
      refine hK.out _ _ HM2.out.b (fun hHeld => ?_)
      clear hK K hHeld
      (try simp only [Act.put, List.setIfInBounds_toArray, List.set_cons_zero, List.set_cons_succ])
      (repeat (refine wpSch_yes (v := ?_) rfl (fun _ _ _ h => h) (by rfl) ?_ ?_; rotate_left; (next => (intro w hSw; obtain ⟨a0, a1, a2, a3, a4, a5, a6, a7, a8⟩ := spl_cells hSw; clear hSw; go_simp; (try with_reducible rfl))); (try simp only [Act.put, List.setIfInBounds_toArray, List.set_cons_zero, List.set_cons_succ])))
      refine wpSch_nil ?_
      go_wp2
      go_end0
      exact ⟨⟨_, rfl⟩, by rw [HE.out]; exact HM2.out.m, HM2.out.k⟩
    · by_cases hfu : fullP x.p = true
      · have HFU : Hid (fullP (resM y).p = true) := Lib.hid (by rw [show (resM y).p = y.p from rfl, HYP.out]; exact hfu)
        have HE : Hid (looM x st s = cruM (resM y) s.n) := Lib.hid (by simp [looM, hp, hq, hy, hfu])
        clear hp hq hy hfu
        go_enter Tryz.func36, Tryz.ntmps36
        go_upto_region 1 with fail
        generalize hw1 : World.alloc w _ = w1 at *
        have HM1 : Hid (SM Fm oo w g w.heap.size x s w1) := HM
        clear HM hw1
        generalize w.heap.size = B at *
        obtain ⟨a0, a1, a2, a3, a4, a5, a6, a7, a8⟩ := HM1.out.spl
        clear a0 a1 a2 a3 a4 a5 a6 a7 a8
        refine wp_region_sch (fun W => Whole W B 34 s.c) [(true, 0), (true, 1), (true, 2), (true, 3), (true, 4), (true, 5), (true, 6), (true, 7), (true, 8), (true, 9), (true, 10), (false, 11), (false, 12), (true, 13), (true, 14), (true, 15), (true, 16), (true, 17)] (by kernel_rfl) (by kernel_rfl) (by kernel_rfl) (by kernel_rfl) HM1.out.drew.b ?_
        (repeat (refine wpSch_yes (v := ?_) rfl (fun _ _ _ h => h) (by rfl) ?_ ?_; rotate_left; (next => (intro w hSw; obtain ⟨a0, a1, a2, a3, a4, a5, a6, a7, a8⟩ := spl_cells hSw; clear hSw; go_simp; (try with_reducible rfl))); (try simp only [Act.put, List.setIfInBounds_toArray, List.set_cons_zero, List.set_cons_succ])))
        refine wpSch_call rfl (by rfl) (fun K hK => ?_)
        go_simp
        refine (floor_any _ _ _ HM1.out.drew.m HF.out).mono ?_
        rintro e w' ⟨rfl, rfl⟩
        refine hK.out _ _ HM1.out.drew.b (fun hHeld => ?_)
        clear hK K hHeld
        (try simp only [Act.put, List.setIfInBounds_toArray, List.set_cons_zero, List.set_cons_succ])
        refine wpSch_call rfl (by rfl) (fun K hK => ?_)
        go_simp
        refine (prupd_any _ _ (looL x st s) _ (HM1.out.drew.m.prb HF.out) HS.out.n HS.out.r).mono ?_
        rintro e w2 ⟨rfl, h2, k2⟩
        have HM2 : Hid (SM Fm oo w g B y s w2) := Lib.hid (by rw [HY.out]; exact HM1.out.drew.call (MdlAt.prb' h2) k2)
        clear h2 k2 HM1
        rw [HB.out, HL.out]
        refine hK.out _ _ HM2.out.b (fun hHeld => ?_)
        clear hK K hHeld
        (try simp only [Act.put, List.setIfInBounds_toArray, List.set_cons_zero, List.set_cons_succ])
        (repeat (refine wpSch_yes (v := ?_) rfl (fun _ _ _ h => h) (by rfl) ?_ ?_; rotate_left; (next => (intro w hSw; obtain ⟨a0, a1, a2, a3, a4, a5, a6, a7, a8⟩ := spl_cells hSw; clear hSw; go_simp; (try with_reducible rfl))); (try simp only [Act.put, List.setIfInBounds_toArray, List.set_cons_zero, List.set_cons_succ])))
        refine wpSch_nil ?_
        go_wp2_with fail
        refine (restore_any _ _ _ HM2.out.m).mono ?_
        rintro e w3 ⟨⟨_, rfl⟩, h3, k3⟩
        have HM3 := Lib.hid (HM2.out.call h3 k3); clear h3 k3
        go_wp2_with fail
        refine (pifull_any _ _ _ (HM3.out.m.pip HYF.out.res)).mono ?_
        rintro e w' ⟨rfl, rfl⟩
        rw [HFU.out]
        obtain ⟨a0, a1, a2, a3, a4, a5, a6, a7, a8⟩ := HM3.out.spl
        clear a1 a2 a3 a4 a5 a6 a7 a8
        go_wp2_with fail
        refine (cruise_any _ _ s.n _ HM3.out.m HYF.out.res HS.out.n).mono ?_
        rintro e w4 ⟨⟨_, rfl⟩, h4, k4⟩
        have HM4 := Lib.hid (HM3.out.call h4 k4); clear h4 k4 a0
        go_wp2
        go_end0
        exact ⟨⟨_, rfl⟩, by rw [HE.out]; exact HM4.out.m, HM4.out.k⟩
      · have HFU : Hid (fullP (resM y).p = false) := Lib.hid (by rw [show (resM y).p = y.p from rfl, HYP.out]; simpa using hfu)
        have HE : Hid (looM x st s = { resM y with m := 0 }) := Lib.hid (by simp [looM, hp, hq, hy, hfu])
        clear hp hq hy hfu
        go_enter Tryz.func36, Tryz.ntmps36
        go_upto_region 1 with fail
        generalize hw1 : World.alloc w _ = w1 at *
        have HM1 : Hid (SM Fm oo w g w.heap.size x s w1) := HM
        clear HM hw1
        generalize w.heap.size = B at *
        obtain ⟨a0, a1, a2, a3, a4, a5, a6, a7, a8⟩ := HM1.out.spl
        clear a0 a1 a2 a3 a4 a5 a6 a7 a8
        refine wp_region_sch (fun W => Whole W B 34 s.c) [(true, 0), (true, 1), (true, 2), (true, 3), (true, 4), (true, 5), (true, 6), (true, 7), (true, 8), (true, 9), (true, 10), (false, 11), (false, 12), (true, 13), (true, 14), (true, 15), (true, 16), (true, 17)] (by kernel_rfl) (by kernel_rfl) (by kernel_rfl) (by kernel_rfl) HM1.out.drew.b ?_
        (repeat (refine wpSch_yes (v := ?_) rfl (fun _ _ _ h => h) (by rfl) ?_ ?_; rotate_left; (next => (intro w hSw; obtain ⟨a0, a1, a2, a3, a4, a5, a6, a7, a8⟩ := spl_cells hSw; clear hSw; go_simp; (try with_reducible rfl))); (try simp only [Act.put, List.setIfInBounds_toArray, List.set_cons_zero, List.set_cons_succ])))
        refine wpSch_call rfl (by rfl) (fun K hK => ?_)
        go_simp
        refine (floor_any _ _ _ HM1.out.drew.m HF.out).mono ?_
        rintro e w' ⟨rfl, rfl⟩
        refine hK.out _ _ HM1.out.drew.b (fun hHeld => ?_)
        clear hK K hHeld
        (try simp only [Act.put, List.setIfInBounds_toArray, List.set_cons_zero, List.set_cons_succ])
        refine wpSch_call rfl (by rfl) (fun K hK => ?_)
        go_simp
        refine (prupd_any _ _ (looL x st s) _ (HM1.out.drew.m.prb HF.out) HS.out.n HS.out.r).mono ?_
        rintro e w2 ⟨rfl, h2, k2⟩
        have HM2 : Hid (SM Fm oo w g B y s w2) := Lib.hid (by rw [HY.out]; exact HM1.out.drew.call (MdlAt.prb' h2) k2)
        clear h2 k2 HM1
        rw [HB.out, HL.out]
        refine hK.out _ _ HM2.out.b (fun hHeld => ?_)
        clear hK K hHeld
        (try simp only [Act.put, List.setIfInBounds_toArray, List.set_cons_zero, List.set_cons_succ])
        (repeat (refine wpSch_yes (v := ?_) rfl (fun _ _ _ h => h) (by rfl) ?_ ?_; rotate_left; (next => (intro w hSw; obtain ⟨a0, a1, a2, a3, a4, a5, a6, a7, a8⟩ := spl_cells hSw; clear hSw; go_simp; (try with_reducible rfl))); (try simp only [Act.put, List.setIfInBounds_toArray, List.set_cons_zero, List.set_cons_succ])))
        refine wpSch_nil ?_
        go_wp2_with fail
        refine (restore_any _ _ _ HM2.out.m).mono ?_
        rintro e w3 ⟨⟨_, rfl⟩, h3, k3⟩
        have HM3 := Lib.hid (HM2.out.call h3 k3); clear h3 k3
        go_wp2_with fail
        refine (pifull_any _ _ _ (HM3.out.m.pip HYF.out.res)).mono ?_
        rintro e w' ⟨rfl, rfl⟩
        rw [HFU.out]
        have c : w3.cell? ⟨g, oo + 28, none⟩ = some (.int .i64 (resM y).m) := Part.cell HM3.out.m 28
        have f := Part.free HM3.out.m 28
        have HM4 := Lib.hid (HM3.out.put (y := { resM y with m := 0 }) 28 (.int .i64 0) (e := rfl))
        go_wp2
        go_end0
        exact ⟨⟨_, rfl⟩, by rw [HE.out]; exact HM4.out.m, HM4.out.k⟩
  · have hl0 : leaB x.q (looL x st s) = false := by
      cases hi : x.q.i
      · simp [leaB, hi]
      · simp [begB, hi] at hp
    obtain rfl : q = false := by rw [← hq]; exact hl0
    have HE : Hid (looM x st s = { keepM y with m := 3 }) := Lib.hid (by simp [looM, hp, hy])
    clear hp hq hy hl0
    go_enter Tryz.func36, Tryz.ntmps36
    go_upto_region 1 with fail
    generalize hw1 : World.alloc w _ = w1 at *
    have HM1 : Hid (SM Fm oo w g w.heap.size x s w1) := HM
    clear HM hw1
    generalize w.heap.size = B at *
    obtain ⟨a0, a1, a2, a3, a4, a5, a6, a7, a8⟩ := HM1.out.spl
    clear a0 a1 a2 a3 a4 a5 a6 a7 a8
    refine wp_region_sch (fun W => Whole W B 34 s.c) [(true, 0), (true, 1), (true, 2), (true, 3), (true, 4), (true, 5), (true, 6), (true, 7), (true, 8), (true, 9), (true, 10), (false, 11), (false, 12), (true, 13), (true, 14), (true, 15), (true, 16), (true, 17)] (by kernel_rfl) (by kernel_rfl) (by kernel_rfl) (by kernel_rfl) HM1.out.drew.b ?_
    (repeat (refine wpSch_yes (v := ?_) rfl (fun _ _ _ h => h) (by rfl) ?_ ?_; rotate_left; (next => (intro w hSw; obtain ⟨a0, a1, a2, a3, a4, a5, a6, a7, a8⟩ := spl_cells hSw; clear hSw; go_simp; (try with_reducible rfl))); (try simp only [Act.put, List.setIfInBounds_toArray, List.set_cons_zero, List.set_cons_succ])))
    refine wpSch_call rfl (by rfl) (fun K hK => ?_)
    go_simp
    refine (floor_any _ _ _ HM1.out.drew.m HF.out).mono ?_
    rintro e w' ⟨rfl, rfl⟩
    refine hK.out _ _ HM1.out.drew.b (fun hHeld => ?_)
    clear hK K hHeld
    (try simp only [Act.put, List.setIfInBounds_toArray, List.set_cons_zero, List.set_cons_succ])
    refine wpSch_call rfl (by rfl) (fun K hK => ?_)
    go_simp
    refine (prupd_any _ _ (looL x st s) _ (HM1.out.drew.m.prb HF.out) HS.out.n HS.out.r).mono ?_
    rintro e w2 ⟨rfl, h2, k2⟩
    have HM2 : Hid (SM Fm oo w g B y s w2) := Lib.hid (by rw [HY.out]; exact HM1.out.drew.call (MdlAt.prb' h2) k2)
    clear h2 k2 HM1
    rw [HB.out, HL.out]
    refine hK.out _ _ HM2.out.b (fun hHeld => ?_)
    clear hK K hHeld
    (try simp only [Act.put, List.setIfInBounds_toArray, List.set_cons_zero, List.set_cons_succ])
    (repeat (refine wpSch_yes (v := ?_) rfl (fun _ _ _ h => h) (by rfl) ?_ ?_; rotate_left; (next => (intro w hSw; obtain ⟨a0, a1, a2, a3, a4, a5, a6, a7, a8⟩ := spl_cells hSw; clear hSw; go_simp; (try with_reducible rfl))); (try simp only [Act.put, List.setIfInBounds_toArray, List.set_cons_zero, List.set_cons_succ])))
    refine wpSch_nil ?_
    go_wp2_with fail
    refine (keep_any _ _ _ HM2.out.m).mono ?_
    rintro e w3 ⟨⟨_, rfl⟩, h3, k3⟩
    have HM3 := Lib.hid (HM2.out.call h3 k3); clear h3 k3
    have c : w3.cell? ⟨g, oo + 28, none⟩ = some (.int .i64 (keepM y).m) := Part.cell HM3.out.m 28
    have f := Part.free HM3.out.m 28
    have HM4 := Lib.hid (HM3.out.put (y := { keepM y with m := 3 }) 28 (.int .i64 3) (e := rfl))
    go_wp2
    go_end0
    exact ⟨⟨_, rfl⟩, by rw [HE.out]; exact HM4.out.m, HM4.out.k⟩
end Go.Proofs.YtbimmadllfgmiaaGreat
