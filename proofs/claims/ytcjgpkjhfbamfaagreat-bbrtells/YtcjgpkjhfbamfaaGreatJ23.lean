/-
  A model and the sample that it is told, side by side in memory, through a call of package bbr. No program is spoken of. Conditions: none.
  Package bbr's look: what it leaves. Conditions: the Model lies in memory as New makes it, be it inside a block; numbers are of 64 bits.
  The document's own model and the sample that it is told, side by side in memory. No program is spoken of. Conditions: none.
  The document's own answers Bdp, Window, Rate (package canterref01) are the same numbers as those of package target. Conditions: none beyond that the arguments are numbers of their kind.
-/
import Derived.Test.YtcjgpkjhfbamfaaGreatJ22
import Derived.Test.YtcjgpkjhfbamfaaGreatJ02
import Derived.Test.YtcjgpkjhfbamfaaGreatJ14
import Derived.Test.YtcjgpkjhfbamfaaGreatJ13
set_option linter.unusedVariables false
namespace Go.Proofs.YtcjgpkjhfbamfaaGreat
open Go.RowKit
set_option maxRecDepth 100000

/-- Since w0: the model x in block g, the sample s in block B. -/
structure SM (Fm : Fr) (oo : Nat) (w0 : World) (g B : Nat) (x : Mdl) (s : Spl) (W : World) : Prop where
  m : MdlAt Fm oo W g x
  b : Whole W B 34 s.c
  ne : g ≠ B
  k : Keep (fun k => k = g) w0 W
section
variable {Fm : Fr} {oo : Nat} {w0 w w' : World} {g B : Nat} {x y : Mdl} {s : Spl}
theorem SM.begin (h : MdlAt Fm oo w g x) : SM Fm oo w g w.heap.size x s (w.alloc (.cells s.c 34)) := ⟨h.alloc _, Whole.new _ _ _, Nat.ne_of_lt h.lt, (Keep.refl _ _).alloc _⟩
theorem SM.call (h : SM Fm oo w0 g B x s w) (m : MdlAt Fm oo w' g y) (k : Keep (fun k => k = g) w w') : SM Fm oo w0 g B y s w' := ⟨m, h.b.keep k (fun e => h.ne e.symm), h.ne, h.k.trans k⟩
theorem SM.quiet (h : SM Fm oo w0 g B x s w) (k : Keep (fun _ => False) w w') : SM Fm oo w0 g B x s w' := ⟨h.m.kept k, h.b.keep k id, h.ne, h.k.trans (k.mono fun _ e => e.elim)⟩
theorem SM.drew (h : SM Fm oo w0 g B x s w) : SM Fm oo w0 g B x s w.drew := h.quiet (Keep.refl _ _).drew
theorem SM.drewN (h : SM Fm oo w0 g B x s w) (n : Nat) : SM Fm oo w0 g B x s (w.drewN n) := h.quiet ((Keep.refl _ _).drewN n)
theorem SM.put (h : SM Fm oo w0 g B x s w) (i : Nat) (u : Value) (hi : i < (mdlL x).length := by exact Nat.le_of_ble_eq_true rfl) (e : (mdlL x).set i u = mdlL y) : SM Fm oo w0 g B y s (w.setCell ⟨g, oo + i, none⟩ u) :=
  ⟨by have := Part.put h.m i u hi; rw [e] at this; exact this, h.b.far (p := ⟨g, oo + i, none⟩) (fun e => h.ne e.symm) u, h.ne, h.k.setCell (p := ⟨g, oo + i, none⟩) (.inl rfl) u⟩
theorem SM.spl (h : SM Fm oo w0 g B x s w) : w.cell? ⟨B, 0, none⟩ = some (.int .u64 s.n) ∧ w.cell? ⟨B, 1, none⟩ = some (.int .u64 s.d) ∧ w.cell? ⟨B, 2, none⟩ = some (.int .u64 s.p) ∧ w.cell? ⟨B, 3, none⟩ = some (.int .u64 s.i) ∧ w.cell? ⟨B, 4, none⟩ = some (.int .u64 s.r) ∧ w.cell? ⟨B, 5, none⟩ = some (.int .u64 s.a) ∧ w.cell? ⟨B, 6, none⟩ = some (.int .u64 s.o) ∧ w.cell? ⟨B, 7, none⟩ = some (.int .u64 s.f) ∧ w.cell? ⟨B, 8, none⟩ = some (.bool s.l) :=
  ⟨h.b.cell 0, h.b.cell 1, h.b.cell 2, h.b.cell 3, h.b.cell 4, h.b.cell 5, h.b.cell 6, h.b.cell 7, h.b.cell 8⟩
theorem MdlAt.own (h : MdlAt Fm oo w g x) : w.cell? ⟨g, oo + 27, none⟩ = some (.int .u64 x.s) ∧ w.cell? ⟨g, oo + 28, none⟩ = some (.int .i64 x.m) ∧ w.cell? ⟨g, oo + 29, none⟩ = some (.int .u64 x.t) ∧ w.cell? ⟨g, oo + 30, none⟩ = some (.int .u64 x.w) ∧ w.cell? ⟨g, oo + 31, none⟩ = some (.int .u64 x.k) ∧ w.cell? ⟨g, oo + 32, none⟩ = some (.bool x.v) ∧ w.cell? ⟨g, oo + 33, none⟩ = some (.int .u64 x.u) ∧ w.cell? ⟨g, oo + 34, none⟩ = some (.bool x.n) :=
  ⟨Part.cell h 27, Part.cell h 28, Part.cell h 29, Part.cell h 30, Part.cell h 31, Part.cell h 32, Part.cell h 33, Part.cell h 34⟩
end
end Go.Proofs.YtcjgpkjhfbamfaaGreat
set_option linter.unusedVariables false
set_option linter.unusedSimpArgs false
namespace Go.Proofs.YtcjgpkjhfbamfaaGreat
open Go.RowKit
set_option maxRecDepth 100000
variable {Fm : Fr} {oo : Nat}
theorem spl_cells {w : World} {B : Nat} {s : Spl} {T : TypeId} (h : Whole w B T s.c) : w.cell? ⟨B, 0, none⟩ = some (.int .u64 s.n) ∧ w.cell? ⟨B, 1, none⟩ = some (.int .u64 s.d) ∧ w.cell? ⟨B, 2, none⟩ = some (.int .u64 s.p) ∧ w.cell? ⟨B, 3, none⟩ = some (.int .u64 s.i) ∧ w.cell? ⟨B, 4, none⟩ = some (.int .u64 s.r) ∧ w.cell? ⟨B, 5, none⟩ = some (.int .u64 s.a) ∧ w.cell? ⟨B, 6, none⟩ = some (.int .u64 s.o) ∧ w.cell? ⟨B, 7, none⟩ = some (.int .u64 s.f) ∧ w.cell? ⟨B, 8, none⟩ = some (.bool s.l) :=
  ⟨h.cell 0, h.cell 1, h.cell 2, h.cell 3, h.cell 4, h.cell 5, h.cell 6, h.cell 7, h.cell 8⟩
set_option maxHeartbeats 2000000 in
theorem look_any (g : Nat) (x : Mdl) (st : Bool) (s : Spl) (w : World) (h : MdlAt Fm oo w g x) (hf : x.Fit) (hs : s.Fit) : Calls Tryz.prog 36 #[.pointer (some ⟨g, oo, none⟩), .bool st, s.v] w fun e w' => (∃ v, e = .returned v) ∧ MdlAt Fm oo w' g (looM x st s) ∧ Keep (fun k => k = g) w w' := by
  have HM := Lib.hid (SM.begin (s := s) h)
  have HF := Lib.hid hf
  have HS := Lib.hid hs
  clear h hf hs
  obtain ⟨y, hy⟩ : ∃ y : Mdl, y = { x with q := updB x.q (looL x st s) } := ⟨_, rfl⟩
  have HY := Lib.hid hy
  have HYF : Hid y.Fit := Lib.hid (by rw [hy]; exact { HF.out with q := HF.out.q.upd HS.out.n HS.out.r })
  have HYP : Hid (y.p = x.p) := Lib.hid (by rw [hy])
  obtain ⟨p, hp⟩ : ∃ p, begB x.q (looL x st s) = p := ⟨_, rfl⟩
  obtain ⟨q, hq⟩ : ∃ q, leaB x.q (looL x st s) = q := ⟨_, rfl⟩
  have HB := Lib.hid hp
  have HL := Lib.hid hq
  cases p
  · cases q
    · have HE : Hid (looM x st s = y) := Lib.hid (by simp [looM, hp, hq, hy])
      clear hp hq hy
      go_enter Tryz.func36, Tryz.ntmps36
      go_upto_region 1 with fail
      generalize hw1 : World.alloc w _ = w1 at *
      have HM1 : Hid (SM Fm oo w g w.heap.size x s w1) := HM
      clear HM hw1
      generalize w.heap.size = B at *
      obtain ⟨a0, a1, a2, a3, a4, a5, a6, a7, a8⟩ := HM1.out.spl
      clear a0 a1 a2 a3 a4 a5 a6 a7 a8
      refine wp_region_sch (fun W => Whole W B 34 s.c) [(true, 0), (true, 1), (true, 2), (true, 3), (true, 4), (true, 5), (true, 6), (true, 7), (true, 8), (true, 9), (true, 10), (false, 11), (false, 12), (true, 13), (true, 14), (true, 15), (true, 16), (true, 17)] (by kernel_rfl) (by kernel_rfl) (by kernel_rfl) (by kernel_rfl) HM1.out.drew.b ?_
      (repeat (refine wpSch_yes (v := ?_) rfl (fun _ _ _ h => h) (by rfl) ?_ ?_; rotate_left; (next => (intro w hSw; obtain ⟨a0, a1, a2, a3, a4, a5, a6, a7, a8⟩ := spl_cells hSw; clear hSw; go_simp; (try with_reducible rfl))); (try simp only [Act.put, List.setIfInBounds_toArray, List.set_cons_zero, List.set_cons_succ])))
      refine wpSch_call rfl (by rfl) (fun K hK => ?_)
      go_simp
      refine (floor_any _ _ _ HM1.out.drew.m HF.out).mono ?_
      rintro e w' ⟨rfl, rfl⟩
      refine hK.out _ _ HM1.out.drew.b (fun hHeld => ?_)
      clear hK K hHeld
      (try simp only [Act.put, List.setIfInBounds_toArray, List.set_cons_zero, List.set_cons_succ])
      refine wpSch_call rfl (by rfl) (fun K hK => ?_)
      go_simp
      refine (prupd_any _ _ (looL x st s) _ (HM1.out.drew.m.prb HF.out) HS.out.n HS.out.r).mono ?_
      rintro e w2 ⟨rfl, h2, k2⟩
      have HM2 : Hid (SM Fm oo w g B y s w2) := Lib.hid (by rw [HY.out]; exact HM1.out.drew.call (MdlAt.prb' h2) k2)
      clear h2 k2 HM1
      rw [HB.out, HL.out]
      refine hK.out _ _ HM2.out.b (fun hHeld => ?_)
      clear hK K hHeld
      (try simp only [Act.put, List.setIfInBounds_toArray, List.set_cons_zero, List.set_cons_succ])
      (repeat (refine wpSch_yes (v := ?_) rfl (fun _ _ _ h => h) (by rfl) ?_ ?_; rotate_left; (next => (intro w hSw; obtain ⟨a0, a1, a2, a3, a4, a5, a6, a7, a8⟩ := spl_cells hSw; clear hSw; go_simp; (try with_reducible rfl))); (try simp only [Act.put, List.setIfInBounds_toArray, List.set_cons_zero, List.set_cons_succ])))
      refine wpSch_nil ?_
      go_wp2
      go_end0
      exact ⟨⟨_, rfl⟩, by rw [HE.out]; exact HM2.out.m, HM2.out.k⟩
    · by_cases hfu : fullP x.p = true
      · have HFU : Hid (fullP (resM y).p = true) := Lib.hid (by rw [show (resM y).p = y.p from rfl, HYP.out]; exact hfu)
        have HE : Hid (looM x st s = cruM (resM y) s.n) := Lib.hid (by simp [looM, hp, hq, hy, hfu])
        clear hp hq hy hfu
        go_enter Tryz.func36, Tryz.ntmps36
        go_upto_region 1 with fail
        generalize hw1 : World.alloc w _ = w1 at *
        have HM1 : Hid (SM Fm oo w g w.heap.size x s w1) := HM
        clear HM hw1
        generalize w.heap.size = B at *
        obtain ⟨a0, a1, a2, a3, a4, a5, a6, a7, a8⟩ := HM1.out.spl
        clear a0 a1 a2 a3 a4 a5 a6 a7 a8
        refine wp_region_sch (fun W => Whole W B 34 s.c) [(true, 0), (true, 1), (true, 2), (true, 3), (true, 4), (true, 5), (true, 6), (true, 7), (true, 8), (true, 9), (true, 10), (false, 11), (false, 12), (true, 13), (true, 14), (true, 15), (true, 16), (true, 17)] (by kernel_rfl) (by kernel_rfl) (by kernel_rfl) (by kernel_rfl) HM1.out.drew.b ?_
        (repeat (refine wpSch_yes (v := ?_) rfl (fun _ _ _ h => h) (by rfl) ?_ ?_; rotate_left; (next => (intro w hSw; obtain ⟨a0, a1, a2, a3, a4, a5, a6, a7, a8⟩ := spl_cells hSw; clear hSw; go_simp; (try with_reducible rfl))); (try simp only [Act.put, List.setIfInBounds_toArray, List.set_cons_zero, List.set_cons_succ])))
        refine wpSch_call rfl (by rfl) (fun K hK => ?_)
        go_simp
        refine (floor_any _ _ _ HM1.out.drew.m HF.out).mono ?_
        rintro e w' ⟨rfl, rfl⟩
        refine hK.out _ _ HM1.out.drew.b (fun hHeld => ?_)
        clear hK K hHeld
        (try simp only [Act.put, List.setIfInBounds_toArray, List.set_cons_zero, List.set_cons_succ])
        refine wpSch_call rfl (by rfl) (fun K hK => ?_)
        go_simp
        refine (prupd_any _ _ (looL x st s) _ (HM1.out.drew.m.prb HF.out) HS.out.n HS.out.r).mono ?_
        rintro e w2 ⟨rfl, h2, k2⟩
        have HM2 : Hid (SM Fm oo w g B y s w2) := Lib.hid (by rw [HY.out]; exact HM1.out.drew.call (MdlAt.prb' h2) k2)
        clear h2 k2 HM1
        rw [HB.out, HL.out]
        refine hK.out _ _ HM2.out.b (fun hHeld => ?_)
        clear hK K hHeld
        (try simp only [Act.put, List.setIfInBounds_toArray, List.set_cons_zero, List.set_cons_succ])
        (repeat (refine wpSch_yes (v := ?_) rfl (fun _ _ _ h => h) (by rfl) ?_ ?_; rotate_left; (next => (intro w hSw; obtain ⟨a0, a1, a2, a3, a4, a5, a6, a7, a8⟩ := spl_cells hSw; clear hSw; go_simp; (try with_reducible rfl))); (try simp only [Act.put, List.setIfInBounds_toArray, List.set_cons_zero, List.set_cons_succ])))
        refine wpSch_nil ?_
        go_wp2_with fail
        refine (restore_any _ _ _ HM2.out.m).mono ?_
        rintro e w3 ⟨⟨_, rfl⟩, h3, k3⟩
        have HM3 := Lib.hid (HM2.out.call h3 k3); clear h3 k3
        go_wp2_with fail
        refine (pifull_any _ _ _ (HM3.out.m.pip HYF.out.res)).mono ?_
        rintro e w' ⟨rfl, rfl⟩
        rw [HFU.out]
        obtain ⟨a0, a1, a2, a3, a4, a5, a6, a7, a8⟩ := HM3.out.spl
        clear a1 a2 a3 a4 a5 a6 a7 a8
        go_wp2_with fail
        refine (cruise_any _ _ s.n _ HM3.out.m HYF.out.res HS.out.n).mono ?_
        rintro e w4 ⟨⟨_, rfl⟩, h4, k4⟩
        have HM4 := Lib.hid (HM3.out.call h4 k4); clear h4 k4 a0
        go_wp2
        go_end0
        exact ⟨⟨_, rfl⟩, by rw [HE.out]; exact HM4.out.m, HM4.out.k⟩
      · have HFU : Hid (fullP (resM y).p = false) := Lib.hid (by rw [show (resM y).p = y.p from rfl, HYP.out]; simpa using hfu)
        have HE : Hid (looM x st s = { resM y with m := 0 }) := Lib.hid (by simp [looM, hp, hq, hy, hfu])
        clear hp hq hy hfu
        go_enter Tryz.func36, Tryz.ntmps36
        go_upto_region 1 with fail
        generalize hw1 : World.alloc w _ = w1 at *
        have HM1 : Hid (SM Fm oo w g w.heap.size x s w1) := HM
        clear HM hw1
        generalize w.heap.size = B at *
        obtain ⟨a0, a1, a2, a3, a4, a5, a6, a7, a8⟩ := HM1.out.spl
        clear a0 a1 a2 a3 a4 a5 a6 a7 a8
        refine wp_region_sch (fun W => Whole W B 34 s.c) [(true, 0), (true, 1), (true, 2), (true, 3), (true, 4), (true, 5), (true, 6), (true, 7), (true, 8), (true, 9), (true, 10), (false, 11), (false, 12), (true, 13), (true, 14), (true, 15), (true, 16), (true, 17)] (by kernel_rfl) (by kernel_rfl) (by kernel_rfl) (by kernel_rfl) HM1.out.drew.b ?_
        (repeat (refine wpSch_yes (v := ?_) rfl (fun _ _ _ h => h) (by rfl) ?_ ?_; rotate_left; (next => (intro w hSw; obtain ⟨a0, a1, a2, a3, a4, a5, a6, a7, a8⟩ := spl_cells hSw; clear hSw; go_simp; (try with_reducible rfl))); (try simp only [Act.put, List.setIfInBounds_toArray, List.set_cons_zero, List.set_cons_succ])))
        refine wpSch_call rfl (by rfl) (fun K hK => ?_)
        go_simp
        refine (floor_any _ _ _ HM1.out.drew.m HF.out).mono ?_
        rintro e w' ⟨rfl, rfl⟩
        refine hK.out _ _ HM1.out.drew.b (fun hHeld => ?_)
        clear hK K hHeld
        (try simp only [Act.put, List.setIfInBounds_toArray, List.set_cons_zero, List.set_cons_succ])
        refine wpSch_call rfl (by rfl) (fun K hK => ?_)
        go_simp
        refine (prupd_any _ _ (looL x st s) _ (HM1.out.drew.m.prb HF.out) HS.out.n HS.out.r).mono ?_
        rintro e w2 ⟨rfl, h2, k2⟩
        have HM2 : Hid (SM Fm oo w g B y s w2) := Lib.hid (by rw [HY.out]; exact HM1.out.drew.call (MdlAt.prb' h2) k2)
        clear h2 k2 HM1
        rw [HB.out, HL.out]
        refine hK.out _ _ HM2.out.b (fun hHeld => ?_)
        clear hK K hHeld
        (try simp only [Act.put, List.setIfInBounds_toArray, List.set_cons_zero, List.set_cons_succ])
        (repeat (refine wpSch_yes (v := ?_) rfl (fun _ _ _ h => h) (by rfl) ?_ ?_; rotate_left; (next => (intro w hSw; obtain ⟨a0, a1, a2, a3, a4, a5, a6, a7, a8⟩ := spl_cells hSw; clear hSw; go_simp; (try with_reducible rfl))); (try simp only [Act.put, List.setIfInBounds_toArray, List.set_cons_zero, List.set_cons_succ])))
        refine wpSch_nil ?_
        go_wp2_with fail
        refine (restore_any _ _ _ HM2.out.m).mono ?_
        rintro e w3 ⟨⟨_, rfl⟩, h3, k3⟩
        have HM3 := Lib.hid (HM2.out.call h3 k3); clear h3 k3
        go_wp2_with fail
        refine (pifull_any _ _ _ (HM3.out.m.pip HYF.out.res)).mono ?_
        rintro e w' ⟨rfl, rfl⟩
        rw [HFU.out]
        have c : w3.cell? ⟨g, oo + 28, none⟩ = some (.int .i64 (resM y).m) := Part.cell HM3.out.m 28
        have f := Part.free HM3.out.m 28
        have HM4 := Lib.hid (HM3.out.put (y := { resM y with m := 0 }) 28 (.int .i64 0) (e := rfl))
        go_wp2
        go_end0
        exact ⟨⟨_, rfl⟩, by rw [HE.out]; exact HM4.out.m, HM4.out.k⟩
  · have hl0 : leaB x.q (looL x st s) = false := by
      cases hi : x.q.i
      · simp [leaB, hi]
      · simp [begB, hi] at hp
    obtain rfl : q = false := by rw [← hq]; exact hl0
    have HE : Hid (looM x st s = { keepM y with m := 3 }) := Lib.hid (by simp [looM, hp, hy])
    clear hp hq hy hl0
    go_enter Tryz.func36, Tryz.ntmps36
    go_upto_region 1 with fail
    generalize hw1 : World.alloc w _ = w1 at *
    have HM1 : Hid (SM Fm oo w g w.heap.size x s w1) := HM
    clear HM hw1
    generalize w.heap.size = B at *
    obtain ⟨a0, a1, a2, a3, a4, a5, a6, a7, a8⟩ := HM1.out.spl
    clear a0 a1 a2 a3 a4 a5 a6 a7 a8
    refine wp_region_sch (fun W => Whole W B 34 s.c) [(true, 0), (true, 1), (true, 2), (true, 3), (true, 4), (true, 5), (true, 6), (true, 7), (true, 8), (true, 9), (true, 10), (false, 11), (false, 12), (true, 13), (true, 14), (true, 15), (true, 16), (true, 17)] (by kernel_rfl) (by kernel_rfl) (by kernel_rfl) (by kernel_rfl) HM1.out.drew.b ?_
    (repeat (refine wpSch_yes (v := ?_) rfl (fun _ _ _ h => h) (by rfl) ?_ ?_; rotate_left; (next => (intro w hSw; obtain ⟨a0, a1, a2, a3, a4, a5, a6, a7, a8⟩ := spl_cells hSw; clear hSw; go_simp; (try with_reducible rfl))); (try simp only [Act.put, List.setIfInBounds_toArray, List.set_cons_zero, List.set_cons_succ])))
    refine wpSch_call rfl (by rfl) (fun K hK => ?_)
    go_simp
    refine (floor_any _ _ _ HM1.out.drew.m HF.out).mono ?_
    rintro e w' ⟨rfl, rfl⟩
    refine hK.out _ _ HM1.out.drew.b (fun hHeld => ?_)
    clear hK K hHeld
    (try simp only [Act.put, List.setIfInBounds_toArray, List.set_cons_zero, List.set_cons_succ])
    refine wpSch_call rfl (by rfl) (fun K hK => ?_)
    go_simp
    refine (prupd_any _ _ (looL x st s) _ (HM1.out.drew.m.prb HF.out) HS.out.n HS.out.r).mono ?_
    rintro e w2 ⟨rfl, h2, k2⟩
    have HM2 : Hid (SM Fm oo w g B y s w2) := Lib.hid (by rw [HY.out]; exact HM1.out.drew.call (MdlAt.prb' h2) k2)
    clear h2 k2 HM1
    rw [HB.out, HL.out]
    refine hK.out _ _ HM2.out.b (fun hHeld => ?_)
    clear hK K hHeld
    (try simp only [Act.put, List.setIfInBounds_toArray, List.set_cons_zero, List.set_cons_succ])
    (repeat (refine wpSch_yes (v := ?_) rfl (fun _ _ _ h => h) (by rfl) ?_ ?_; rotate_left; (next => (intro w hSw; obtain ⟨a0, a1, a2, a3, a4, a5, a6, a7, a8⟩ := spl_cells hSw; clear hSw; go_simp; (try with_reducible rfl))); (try simp only [Act.put, List.setIfInBounds_toArray, List.set_cons_zero, List.set_cons_succ])))
    refine wpSch_nil ?_
    go_wp2_with fail
    refine (keep_any _ _ _ HM2.out.m).mono ?_
    rintro e w3 ⟨⟨_, rfl⟩, h3, k3⟩
    have HM3 := Lib.hid (HM2.out.call h3 k3); clear h3 k3
    have c : w3.cell? ⟨g, oo + 28, none⟩ = some (.int .i64 (keepM y).m) := Part.cell HM3.out.m 28
    have f := Part.free HM3.out.m 28
    have HM4 := Lib.hid (HM3.out.put (y := { keepM y with m := 3 }) 28 (.int .i64 3) (e := rfl))
    go_wp2
    go_end0
    exact ⟨⟨_, rfl⟩, by rw [HE.out]; exact HM4.out.m, HM4.out.k⟩
end Go.Proofs.YtcjgpkjhfbamfaaGreat
set_option linter.unusedVariables false
namespace Go.Proofs.YtcjgpkjhfbamfaaGreat
open Go.RowKit
set_option maxRecDepth 100000
/-- Since w0: the document's model x in blocks g and k, the sample s in block B. -/
structure RS (w0 : World) (g k B : Nat) (x : Mdl) (G : Int) (s : Spl) (W : World) : Prop where
  m : RM W g k x G
  b : Whole W B 34 s.c
  neg : g ≠ B
  nek : k ≠ B
  kp : Keep (own2 g k) w0 W
section
variable {w0 w w' : World} {g k B : Nat} {x y : Mdl} {G H : Int} {s : Spl}
theorem RS.begin (h : RM w g k x G) : RS w g k w.heap.size x G s (w.alloc (.cells s.c 34)) := ⟨h.kept ((Keep.refl _ _).alloc _), Whole.new _ _ _, Nat.ne_of_lt h.lt, Nat.ne_of_lt h.m.lt, (Keep.refl _ _).alloc _⟩
theorem RS.call (h : RS w0 g k B x G s w) (m : RM w' g k y H) (kk : Keep (own2 g k) w w') : RS w0 g k B y H s w' := ⟨m, h.b.keep kk (fun e => by rcases e with e | e; exact h.neg e.symm; exact h.nek e.symm), h.neg, h.nek, h.kp.trans kk⟩
theorem RS.callg (h : RS w0 g k B x G s w) (m : RM w' g k y H) (kk : Keep (fun i => i = g) w w') : RS w0 g k B y H s w' := h.call m (kk.mono fun _ e => .inl e)
theorem RS.callk (h : RS w0 g k B x G s w) (m : RM w' g k y H) (kk : Keep (fun i => i = k) w w') : RS w0 g k B y H s w' := h.call m (kk.mono fun _ e => .inr e)
theorem RS.quiet (h : RS w0 g k B x G s w) (kk : Keep (fun _ => False) w w') : RS w0 g k B x G s w' := ⟨h.m.kept kk, h.b.keep kk id, h.neg, h.nek, h.kp.trans (kk.mono fun _ e => e.elim)⟩
theorem RS.drew (h : RS w0 g k B x G s w) : RS w0 g k B x G s w.drew := h.quiet (Keep.refl _ _).drew
theorem RS.put (h : RS w0 g k B x G s w) (i : Nat) (u : Value) (hi : i < 31) (e : ∀ z, (rmL x k G z).set i u = rmL y k H z) (hb : y.b = x.b) (hq : y.q = x.q) (ho : y.o = x.o) : RS w0 g k B y H s (w.setCell ⟨g, i, none⟩ u) :=
  ⟨h.m.put i u hi e hb hq ho, h.b.far (p := ⟨g, i, none⟩) (fun e => h.neg e.symm) u, h.neg, h.nek, h.kp.setCell (p := ⟨g, i, none⟩) (.inl (.inl rfl)) u⟩
end
end Go.Proofs.YtcjgpkjhfbamfaaGreat
set_option linter.unusedVariables false
namespace Go.Proofs.YtcjgpkjhfbamfaaGreat
open Go.RowKit
set_option maxRecDepth 100000
set_option maxHeartbeats 400000 in
theorem rrate_any (bw gain : Int) (v0 : 0 ≤ bw) (v1 : bw ≤ 18446744073709551615) (g0 : 0 ≤ gain) (g1 : gain ≤ 18446744073709551615) (w : World) :
    Calls Tryz.prog 20 #[.int .u64 bw, .int .u64 gain] w fun e w' => e = .returned (.int .u64 (rateV bw gain)) ∧ w = w' := by
  go_enter Tryz.func20, Tryz.ntmps20
  go_wp2_with fail
  refine (rmuldiv_any _ _ _ v0 v1 g0 g1 (by decide) (by decide) _).mono ?_
  rintro e w' ⟨rfl, rfl⟩
  go_wp2
  go_ret
  exact ⟨rfl, rfl⟩
set_option maxHeartbeats 400000 in
theorem rbdp_any (bw rtt gain : Int) (v0 : 0 ≤ bw) (v1 : bw ≤ 18446744073709551615) (r0 : 0 ≤ rtt) (r1 : rtt ≤ 18446744073709551615) (g0 : 0 ≤ gain) (g1 : gain ≤ 18446744073709551615) (w : World) :
    Calls Tryz.prog 78 #[.int .u64 bw, .int .u64 rtt, .int .u64 gain] w fun e w' => e = .returned (.int .u64 (bdpV bw rtt gain)) ∧ w = w' := by
  have HM := Lib.hid (mulDivV_num v0 r0 (show (0 : Int) ≤ 1000000000 by decide))
  have HE : Hid (mulDivV (mulDivV bw rtt 1000000000) gain 256 = bdpV bw rtt gain) := Lib.hid rfl
  go_enter Tryz.func78, Tryz.ntmps78
  go_wp2_with fail
  refine (rmuldiv_any _ _ _ v0 v1 r0 r1 (by decide) (by decide) _).mono ?_
  rintro e w' ⟨rfl, rfl⟩
  generalize mulDivV bw rtt 1000000000 = m at *
  go_wp2_with fail
  refine (rmuldiv_any _ _ _ HM.out.1 HM.out.2 g0 g1 (by decide) (by decide) _).mono ?_
  rintro e w' ⟨rfl, rfl⟩
  go_wp2
  go_ret
  exact ⟨ret_int HE.out, rfl⟩
set_option maxHeartbeats 400000 in
theorem rwin_any (bw rtt gain tso mss : Int) (v0 : 0 ≤ bw) (v1 : bw ≤ 18446744073709551615) (r0 : 0 ≤ rtt) (r1 : rtt ≤ 18446744073709551615) (g0 : 0 ≤ gain) (g1 : gain ≤ 18446744073709551615)
    (t0 : 0 ≤ tso) (t1 : tso ≤ 18446744073709551615) (m0 : 0 ≤ mss) (m1 : mss ≤ 18446744073709551615) (w : World) :
    Calls Tryz.prog 83 #[.int .u64 bw, .int .u64 rtt, .int .u64 gain, .int .u64 tso, .int .u64 mss] w fun e w' => e = .returned (.int .u64 (winV bw rtt gain tso mss)) ∧ w = w' := by
  by_cases hr : rtt = 0
  · have HE : Hid (satMul 10 mss = winV bw rtt gain tso mss) := Lib.hid (by unfold winV; rw [if_pos hr])
    have hr' : (rtt == 0) = true := by simp [hr]
    clear hr
    go_enter Tryz.func83, Tryz.ntmps83
    go_wp2_with fail
    refine (rmul_any _ _ (by decide) (by decide) m0 m1 _).mono ?_
    rintro e w' ⟨rfl, rfl⟩
    go_wp2
    go_ret
    exact ⟨ret_int HE.out, rfl⟩
  · have hr' : (rtt == 0) = false := by rw [beq_eq_false_iff_ne]; exact hr
    have HB := Lib.hid (bdpV_num v0 r0 g0)
    have HT := Lib.hid (satMul_num (show (0 : Int) ≤ 3 by decide) t0)
    have hE : winV bw rtt gain tso mss = if satAdd (bdpV bw rtt gain) (satMul 3 tso) < satMul 4 mss then satMul 4 mss else satAdd (bdpV bw rtt gain) (satMul 3 tso) := by unfold winV overV; rw [if_neg hr]
    have HE := Lib.hid hE
    clear hr hE
    go_enter Tryz.func83, Tryz.ntmps83
    go_wp2_with fail
    refine (rbdp_any _ _ _ v0 v1 r0 r1 g0 g1 _).mono ?_
    rintro e w1 ⟨rfl, rfl⟩
    generalize bdpV bw rtt gain = x at *
    go_wp2_with fail
    refine (rmul_any _ _ (by decide) (by decide) t0 t1 _).mono ?_
    rintro e w' ⟨rfl, rfl⟩
    generalize satMul 3 tso = y at *
    go_wp2_with fail
    refine (radd_any _ _ HB.out.1 HB.out.2 HT.out.1 HT.out.2 _).mono ?_
    rintro e w' ⟨rfl, rfl⟩
    generalize satAdd x y = z at *
    go_wp2_with fail
    refine (rmul_any _ _ (by decide) (by decide) m0 m1 _).mono ?_
    rintro e w' ⟨rfl, rfl⟩
    generalize satMul 4 mss = u at *
    rcases Int.lt_trichotomy z u with h | h | h
    · go_wp2
      go_ret
      exact ⟨ret_int (by rw [HE.out, if_pos h]), rfl⟩
    · subst h
      go_wp2
      go_ret
      exact ⟨ret_int (by rw [HE.out]; simp), rfl⟩
    · have h2 : ¬ z < u := by omega
      go_wp2
      go_ret
      exact ⟨ret_int (by rw [HE.out, if_neg (by omega)]), rfl⟩
end Go.Proofs.YtcjgpkjhfbamfaaGreat
