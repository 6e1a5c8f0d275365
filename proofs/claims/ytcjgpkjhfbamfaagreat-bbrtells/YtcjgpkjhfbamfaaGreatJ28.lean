/-
  The document's own model: recover (step 7): what it leaves. Conditions: numbers are of 64 bits.
-/
import Derived.Test.YtcjgpkjhfbamfaaGreatJ23
import Derived.Test.YtcjgpkjhfbamfaaGreatJ25
import Derived.Test.YtcjgpkjhfbamfaaGreatJ26
set_option linter.unusedVariables false
set_option linter.unusedSimpArgs false
namespace Go.Proofs.YtcjgpkjhfbamfaaGreat
open Go.RowKit
set_option maxRecDepth 100000
/-- As 'menM', but that in ProbeRtt the window is the greater one for a moment (step 8 makes it the floor). -/
def rmeM (x : Mdl) (st : Bool) (s : Spl) : Mdl :=
  if (decide (0 < s.o) && !x.v) = true then keepM { x with v := true, n := true, u := satAdd s.d s.f }
  else if (x.v && decide (x.u ≤ s.d)) = true then (if x.m = 3 then { x with v := false, n := false, w := maxI x.w x.k } else resM { x with v := false, n := false })
  else if (x.v && st) = true then { x with n := false }
  else x
theorem fit_rme {x : Mdl} {st : Bool} {s : Spl} {tso : Int} : fitM (rmeM x st s) s tso = fitM (menM x st s) s tso := by
  unfold rmeM menM
  split
  · rfl
  · split
    · split
      · rename_i h3
        have e : ∀ a b : Int, fitM { x with v := false, n := false, w := a } s tso = fitM { x with v := false, n := false, w := b } s tso := fun a b => by
          have hz : ∀ z : Mdl, z.m = 3 → fitM z s tso = { z with w := floorM z } := fun z hz => by
            have hk := fit_same (x := z) (s := s) (tso := tso)
            have : (ackM (losM z s) s tso) = { losM z s with w := (ackM (losM z s) s tso).w } := by
              unfold ackM; split
              · rfl
              · split
                · unfold groM; split
                  · rfl
                  · split <;> rfl
                · rfl
            unfold fitM
            rw [this]
            unfold finM
            show ({ losM z s with w := if (losM z s).m = 3 then floorM _ else _ } : Mdl) = _
            rw [if_pos (show (losM z s).m = 3 from hz)]
            rfl
          rw [hz { x with v := false, n := false, w := a } h3, hz { x with v := false, n := false, w := b } h3]; rfl
        exact e _ _
      · rfl
    · rfl
set_option maxHeartbeats 8000000 in
set_option maxRecDepth 100000 in
theorem recover_any (g k : Nat) (x : Mdl) (G : Int) (st : Bool) (s : Spl) (w : World) (h : RM w g k x G) (hf : x.Fit) (hs : s.Fit) : Calls Tryz.prog 47 #[.pointer (some ⟨g, 0, none⟩), s.v, .bool st] w fun e w' => (∃ v, e = .returned v) ∧ RM w' g k (rmeM x st s) G ∧ Keep (own2 g k) w w' := by
  have HM := Lib.hid (RS.begin (s := s) h)
  have HF := Lib.hid hf
  have HS := Lib.hid hs
  clear h hf hs
  obtain ⟨V, hV⟩ : ∃ V, x.v = V := ⟨_, rfl⟩
  by_cases ho : 0 < s.o
  · cases V
    · obtain ⟨U, hU⟩ : ∃ U, satAdd s.d s.f = U := ⟨_, rfl⟩
      obtain ⟨y, hy⟩ : ∃ y : Mdl, y = { x with v := true, n := true } := ⟨_, rfl⟩
      obtain ⟨mA, hmA⟩ : ∃ S, y.k = S := ⟨_, rfl⟩
      obtain ⟨mB, hmB⟩ : ∃ S, y.w = S := ⟨_, rfl⟩
      have HE : Hid (rmeM x st s = { y with u := U, k := maxI mA mB }) := Lib.hid (by rw [← hmA, ← hmB, hy]; simp [rmeM, ho, hV, keepM, hU])
      have HY := Lib.hid hy
      have HA := Lib.hid hmA
      have HB := Lib.hid hmB
      clear hy
      have HU := Lib.hid hU
      have HV := Lib.hid hV
      clear hV hU hmA hmB
      go_enter Tryz.func47, Tryz.ntmps47
      go_upto_region 1 with fail
      generalize hw1 : World.alloc w _ = w1 at *
      have HM1 : Hid (RS w g k w.heap.size x G s w1) := HM
      clear HM hw1
      generalize w.heap.size = B at *
      obtain ⟨a0, a1, a2, a3, a4, a5, a6, a7, a8⟩ := spl_cells HM1.out.b
      obtain ⟨m0, m1, m2, m3, m4, m5, m6, m7⟩ := HM1.out.m.own'
      clear m0 m1 m2 m3 m6 m7 a0 a1 a2 a3 a4 a5 a7 a8
      rw [HV.out] at m4
      have f4 := HM1.out.m.free 27
      have HMA := Lib.hid (HM1.out.put (y := { x with v := true }) (H := G) 27 (.bool true) (by decide) (fun _ => rfl) rfl rfl rfl)
      have n5 := HMA.out.m.own'.2.2.2.2.2.1
      have f5 := HMA.out.m.free 28
      have HMB : Hid (RS w g k B y G s ((w1.setCell ⟨g, 27, none⟩ (.bool true)).setCell ⟨g, 28, none⟩ (.bool true))) := Lib.hid (by rw [HY.out]; exact HMA.out.put (y := { x with v := true, n := true }) (H := G) 28 (.bool true) (by decide) (fun _ => rfl) rfl rfl rfl)
      go_upto_region 3 with fail
      clear m4 m5 f4 n5 f5 HM1 HMA a6
      generalize World.setCell (World.setCell w1 _ _) _ _ = w4 at *
      obtain ⟨m0, m1, m2, m3, m4, m5, m6, m7⟩ := HMB.out.drew.m.own'
      rw [HA.out] at m7
      rw [HB.out] at m2
      refine wp_region_late (fun W => Whole W B 34 s.c ∧ W.cell? ⟨g, 25, none⟩ = some (.int .u64 mB) ∧ W.cell? ⟨g, 30, none⟩ = some (.int .u64 mA)) [21] (.yes 0 (.yes 1 (.yes 2 (.yes 3 (.yes 4 (.yes 5 (.yes 7 (.yes 8 (.yes 9 (.yes 10 (.yes 11 (.yes 12 (.yes 13 (.yes 14 (.yes 15 (.one 6 (.yes 16 (.yes 17 (.one 18 (.yes 19 (.yes 20 (.one 21 .nil)))))))))))))))))))))) (by kernel_rfl) (by kernel_rfl) (by kernel_rfl) (by kernel_rfl) ⟨HMB.out.drew.b, m2, m7⟩ ?_
      iterate 14 (refine wpSchL_yes (v := ?_) rfl (fun _ _ _ h => h) (by rfl) ?_ ?_; rotate_left; (next => (intro w hSw; obtain ⟨hb, d2, d7⟩ := hSw; obtain ⟨a0, a1, a2, a3, a4, a5, a6, a7, a8⟩ := spl_cells hb; clear hb; go_simp; (try with_reducible rfl))); (try simp only [Act.put, List.setIfInBounds_toArray, List.set_cons_zero, List.set_cons_succ]))
      refine wpSchL_yes (v := .int .u64 (maxI mA mB)) rfl (fun _ _ _ h => h) (by rfl) ?_ ?_
      · (intro w hSw; clear hSw; rcases Int.lt_trichotomy mA mB with hl | hl | hl; (have hn : ¬ mB < mA := (by omega)); (rw [maxI_lt hl]); go_simp; (try with_reducible rfl); subst hl; (rw [maxI_ge (Int.lt_irrefl _)]); (have hn := Int.lt_irrefl mA); go_simp; (try with_reducible rfl); (have hn : ¬ mA < mB := (by omega)); (rw [maxI_ge hn]); go_simp; (try with_reducible rfl))
      (try simp only [Act.put, List.setIfInBounds_toArray, List.set_cons_zero, List.set_cons_succ])
      refine wpSchL_one ?_
      refine wpOneL_call rfl (by rfl) (fun K hK => ?_)
      go_simp
      refine (radd_any _ _ HS.out.d.1 HS.out.d.2 HS.out.f.1 HS.out.f.2 _).mono ?_
      rintro e w' ⟨rfl, rfl⟩
      rw [HU.out]
      refine hK.out _ _ (fun _ => ⟨HMB.out.drew.b, m2, m7⟩) (fun hHeld => ?_)
      clear hK K hHeld
      (try simp only [Act.put, List.setIfInBounds_toArray, List.set_cons_zero, List.set_cons_succ])
      (repeat (refine wpSchL_yes (v := ?_) rfl (fun _ _ _ h => h) (by rfl) ?_ ?_; rotate_left; (next => (intro w hSw; obtain ⟨hb, d2, d7⟩ := hSw; obtain ⟨a0, a1, a2, a3, a4, a5, a6, a7, a8⟩ := spl_cells hb; clear hb; go_simp; (try with_reducible rfl))); (try simp only [Act.put, List.setIfInBounds_toArray, List.set_cons_zero, List.set_cons_succ])))
      have f6 := HMB.out.m.free 29
      have HMC := Lib.hid (HMB.out.put (y := { y with u := U }) (H := G) 29 (.int .u64 U) (by decide) (fun _ => rfl) rfl rfl rfl)
      have n2 : (w4.setCell ⟨g, 29, none⟩ (.int .u64 U)).cell? ⟨g, 25, none⟩ = some (.int .u64 mB) := HB.out ▸ HMC.out.m.own'.2.2.1
      have n7 : (w4.setCell ⟨g, 29, none⟩ (.int .u64 U)).cell? ⟨g, 30, none⟩ = some (.int .u64 mA) := HA.out ▸ HMC.out.m.own'.2.2.2.2.2.2.2
      have f7 := HMC.out.m.free 30
      have HMD := Lib.hid (HMC.out.put (y := { y with u := U, k := maxI mA mB }) (H := G) 30 (.int .u64 (maxI mA mB)) (by decide) (fun _ => rfl) rfl rfl rfl).drew
      refine wpSchL_one ?_
      refine wpOneL_call rfl (by rfl) (fun K hK => ?_)
      go_simp
      refine hK.out _ _ (fun _ => ⟨HMC.out.drew.b, n2, n7⟩) (fun hHeld => ?_)
      clear hK K hHeld
      (try simp only [Act.put, List.setIfInBounds_toArray, List.set_cons_zero, List.set_cons_succ])
      (repeat (refine wpSchL_yes (v := ?_) rfl (fun _ _ _ h => h) (by rfl) ?_ ?_; rotate_left; (next => (intro w hSw; obtain ⟨hb, d2, d7⟩ := hSw; obtain ⟨a0, a1, a2, a3, a4, a5, a6, a7, a8⟩ := spl_cells hb; clear hb; go_simp; (try with_reducible rfl))); (try simp only [Act.put, List.setIfInBounds_toArray, List.set_cons_zero, List.set_cons_succ])))
      refine wpSchL_one ?_
      refine wpOneL_call rfl (by rfl) (fun K hK => ?_)
      go_simp
      refine hK.out _ _ (fun h => absurd h (by decide)) (fun hHeld => ?_)
      clear hK K hHeld
      (try simp only [Act.put, List.setIfInBounds_toArray, List.set_cons_zero, List.set_cons_succ])
      clear m0 m1 m2 m3 m4 m5 m6 m7 n2
      clear f6 n7 f7 HMB HMC
      generalize World.drew _ = w5 at *
      refine wpSchL_nil ?_
      go_wp2
      refine bodyPost_ret (results_none rfl _ _ _) rfl ?_
      exact ⟨⟨_, rfl⟩, by rw [HE.out]; exact HMD.out.m, HMD.out.kp⟩
    · have hv := hV
      have HV := Lib.hid hV
      clear hV
      cases st
      · obtain ⟨y, hy⟩ : ∃ y, y = x := ⟨_, rfl⟩
        have HY := Lib.hid hy
        by_cases hu : x.u ≤ s.d
        · have hu' : y.u ≤ s.d := by rw [hy]; exact hu
          by_cases h3 : x.m = 3
          · have HE : Hid (rmeM x false s = { y with v := false, n := false, w := maxI y.w y.k }) := Lib.hid (by rw [hy]; simp [rmeM, hv, hu, h3])
            have e3 : (y.m != 3) = false := by rw [hy]; simp [h3]
            clear hv h3 hy hu
            go_enter Tryz.func47, Tryz.ntmps47
            go_upto_region 1 with fail
            generalize hw1 : World.alloc w _ = w1 at *
            have HM1 : Hid (RS w g k w.heap.size x G s w1) := HM
            clear HM hw1
            generalize w.heap.size = B at *
            obtain ⟨a0, a1, a2, a3, a4, a5, a6, a7, a8⟩ := spl_cells HM1.out.b
            obtain ⟨m0, m1, m2, m3, m4, m5, m6, m7⟩ := HM1.out.m.own'
            clear m0 m1 m2 m3 m6 m7 a0 a1 a2 a3 a4 a5 a7 a8
            rw [HV.out] at m4
            have HM2 : Hid (RS w g k B y G s w1) := Lib.hid (by rw [HY.out]; exact HM1.out)
            clear HM1
            go_upto_region 7 with fail
            refine wp_region_sch (RS w g k B y G s) [(true, 0), (true, 1), (true, 2), (true, 3), (true, 4), (true, 5), (true, 6)] (by kernel_rfl) (by kernel_rfl) (by kernel_rfl) (by kernel_rfl) HM2.out.drew ?_
            (repeat (first | (refine wpSch_yes (v := ?_) rfl (fun _ _ _ h => h) (by rfl) ?_ ?_; rotate_left; (next => (intro w hSw; obtain ⟨a0, a1, a2, a3, a4, a5, a6, a7, a8⟩ := spl_cells (RS.b hSw); obtain ⟨c0, c1, c2, c3, c4, c5, c6, c7⟩ := RM.own (RS.m hSw); obtain ⟨m0, m1, m2, m3, m4, m5, m6, m7⟩ := RM.own' (RS.m hSw); have cb := RM.best (RS.m hSw); clear hSw; go_simp; (try with_reducible rfl))); (try simp only [Act.put, List.setIfInBounds_toArray, List.set_cons_zero, List.set_cons_succ])) | (refine wpSch_no rfl (fun _ _ _ h => h) (by rfl) ?_; (try simp only [Act.put, List.setIfInBounds_toArray, List.set_cons_zero, List.set_cons_succ]))))
            refine wpSch_nil ?_
            have HM3 := Lib.hid HM2.out.drew
            clear HM2
            generalize World.drew _ = w3 at *
            obtain ⟨m0, m1, m2, m3, m4, m5, m6, m7⟩ := HM3.out.m.own'
            clear m0 m1 m2 m3 m6 m7
            have f4 := HM3.out.m.free 27
            have HMA := Lib.hid (HM3.out.put (y := { y with v := false }) (H := G) 27 (.bool false) (by decide) (fun _ => rfl) rfl rfl rfl)
            have n5 := HMA.out.m.own'.2.2.2.2.2.1
            have f5 := HMA.out.m.free 28
            have HMB := Lib.hid (HMA.out.put (y := { y with v := false, n := false }) (H := G) 28 (.bool false) (by decide) (fun _ => rfl) rfl rfl rfl)
            go_upto_region 9 with fail
            clear m4 m5 f4 n5 f5 HM3 HMA
            generalize World.setCell _ _ _ = w4 at *
            obtain ⟨mA, hmA⟩ : ∃ S, y.w = S := ⟨_, rfl⟩
            obtain ⟨mB, hmB⟩ : ∃ S, y.k = S := ⟨_, rfl⟩
            have HA := Lib.hid hmA
            have HB := Lib.hid hmB
            clear hmA hmB
            refine wp_region_late (RS w g k B { y with v := false, n := false } G s) [12] (.yes 0 (.yes 1 (.yes 2 (.yes 3 (.yes 4 (.yes 5 (.yes 6 (.yes 7 (.yes 8 (.yes 9 (.yes 10 (.yes 11 (.one 12 .nil))))))))))))) (by kernel_rfl) (by kernel_rfl) (by kernel_rfl) (by kernel_rfl) HMB.out.drew ?_
            iterate 9 (refine wpSchL_yes (v := ?_) rfl (fun _ _ _ h => h) (by rfl) ?_ ?_; rotate_left; (next => (intro w hSw; obtain ⟨a0, a1, a2, a3, a4, a5, a6, a7, a8⟩ := spl_cells (RS.b hSw); obtain ⟨c0, c1, c2, c3, c4, c5, c6, c7⟩ := RM.own (RS.m hSw); obtain ⟨m0, m1, m2, m3, m4, m5, m6, m7⟩ := RM.own' (RS.m hSw); have cb := RM.best (RS.m hSw); clear hSw; go_simp; (try with_reducible rfl))); (try simp only [Act.put, List.setIfInBounds_toArray, List.set_cons_zero, List.set_cons_succ]))
            rw [HA.out, HB.out]
            refine wpSchL_yes (v := .int .u64 (maxI mA mB)) rfl (fun _ _ _ h => h) (by rfl) ?_ ?_
            · (intro w hSw; clear hSw; rcases Int.lt_trichotomy mA mB with hl | hl | hl; (have hn : ¬ mB < mA := (by omega)); (rw [maxI_lt hl]); go_simp; (try with_reducible rfl); subst hl; (rw [maxI_ge (Int.lt_irrefl _)]); (have hn := Int.lt_irrefl mA); go_simp; (try with_reducible rfl); (have hn : ¬ mA < mB := (by omega)); (rw [maxI_ge hn]); go_simp; (try with_reducible rfl))
            (try simp only [Act.put, List.setIfInBounds_toArray, List.set_cons_zero, List.set_cons_succ])
            (repeat (refine wpSchL_yes (v := ?_) rfl (fun _ _ _ h => h) (by rfl) ?_ ?_; rotate_left; (next => (intro w hSw; obtain ⟨a0, a1, a2, a3, a4, a5, a6, a7, a8⟩ := spl_cells (RS.b hSw); obtain ⟨c0, c1, c2, c3, c4, c5, c6, c7⟩ := RM.own (RS.m hSw); obtain ⟨m0, m1, m2, m3, m4, m5, m6, m7⟩ := RM.own' (RS.m hSw); have cb := RM.best (RS.m hSw); clear hSw; go_simp; (try with_reducible rfl))); (try simp only [Act.put, List.setIfInBounds_toArray, List.set_cons_zero, List.set_cons_succ])))
            have m2 := HMB.out.m.own'.2.2.1
            have f2 := HMB.out.m.free 25
            have HMC := Lib.hid (HMB.out.put (y := { y with v := false, n := false, w := maxI mA mB }) (H := G) 25 (.int .u64 (maxI mA mB)) (by decide) (fun _ => rfl) rfl rfl rfl).drew
            refine wpSchL_one ?_
            refine wpOneL_call rfl (by rfl) (fun K hK => ?_)
            go_simp
            refine hK.out _ _ (fun h => absurd h (by decide)) (fun hHeld => ?_)
            clear hK K hHeld
            (try simp only [Act.put, List.setIfInBounds_toArray, List.set_cons_zero, List.set_cons_succ])
            clear m2 f2 HMB
            generalize World.drew _ = w5 at *
            refine wpSchL_nil ?_
            obtain ⟨m0, m1, m2, m3, m4, m5, m6, m7⟩ := HMC.out.m.own'
            clear m1 m2 m3 m4 m5 m6
            have f7 := HMC.out.m.free 30
            have HMD := Lib.hid (HMC.out.put (y := { y with v := false, n := false, w := maxI mA mB, k := 0 }) (H := G) 30 (.int .u64 0) (by decide) (fun _ => rfl) rfl rfl rfl)
            go_wp2
            go_end0
            exact ⟨⟨_, rfl⟩, by rw [HE.out]; have hm := HMC.out.m; rw [← HA.out, ← HB.out] at hm; exact hm, HMC.out.kp⟩
          · have HE : Hid (rmeM x false s = { y with v := false, n := false, w := maxI y.w y.k, k := 0 }) := Lib.hid (by rw [hy]; simp [rmeM, hv, hu, h3, resM])
            have e3 : (y.m != 3) = true := by rw [hy]; simp [h3]
            clear hv h3 hy hu
            go_enter Tryz.func47, Tryz.ntmps47
            go_upto_region 1 with fail
            generalize hw1 : World.alloc w _ = w1 at *
            have HM1 : Hid (RS w g k w.heap.size x G s w1) := HM
            clear HM hw1
            generalize w.heap.size = B at *
            obtain ⟨a0, a1, a2, a3, a4, a5, a6, a7, a8⟩ := spl_cells HM1.out.b
            obtain ⟨m0, m1, m2, m3, m4, m5, m6, m7⟩ := HM1.out.m.own'
            clear m0 m1 m2 m3 m6 m7 a0 a1 a2 a3 a4 a5 a7 a8
            rw [HV.out] at m4
            have HM2 : Hid (RS w g k B y G s w1) := Lib.hid (by rw [HY.out]; exact HM1.out)
            clear HM1
            go_upto_region 7 with fail
            refine wp_region_sch (RS w g k B y G s) [(true, 0), (true, 1), (true, 2), (true, 3), (true, 4), (true, 5), (true, 6)] (by kernel_rfl) (by kernel_rfl) (by kernel_rfl) (by kernel_rfl) HM2.out.drew ?_
            (repeat (first | (refine wpSch_yes (v := ?_) rfl (fun _ _ _ h => h) (by rfl) ?_ ?_; rotate_left; (next => (intro w hSw; obtain ⟨a0, a1, a2, a3, a4, a5, a6, a7, a8⟩ := spl_cells (RS.b hSw); obtain ⟨c0, c1, c2, c3, c4, c5, c6, c7⟩ := RM.own (RS.m hSw); obtain ⟨m0, m1, m2, m3, m4, m5, m6, m7⟩ := RM.own' (RS.m hSw); have cb := RM.best (RS.m hSw); clear hSw; go_simp; (try with_reducible rfl))); (try simp only [Act.put, List.setIfInBounds_toArray, List.set_cons_zero, List.set_cons_succ])) | (refine wpSch_no rfl (fun _ _ _ h => h) (by rfl) ?_; (try simp only [Act.put, List.setIfInBounds_toArray, List.set_cons_zero, List.set_cons_succ]))))
            refine wpSch_nil ?_
            have HM3 := Lib.hid HM2.out.drew
            clear HM2
            generalize World.drew _ = w3 at *
            obtain ⟨m0, m1, m2, m3, m4, m5, m6, m7⟩ := HM3.out.m.own'
            clear m0 m1 m2 m3 m6 m7
            have f4 := HM3.out.m.free 27
            have HMA := Lib.hid (HM3.out.put (y := { y with v := false }) (H := G) 27 (.bool false) (by decide) (fun _ => rfl) rfl rfl rfl)
            have n5 := HMA.out.m.own'.2.2.2.2.2.1
            have f5 := HMA.out.m.free 28
            have HMB := Lib.hid (HMA.out.put (y := { y with v := false, n := false }) (H := G) 28 (.bool false) (by decide) (fun _ => rfl) rfl rfl rfl)
            go_upto_region 9 with fail
            clear m4 m5 f4 n5 f5 HM3 HMA
            generalize World.setCell _ _ _ = w4 at *
            obtain ⟨mA, hmA⟩ : ∃ S, y.w = S := ⟨_, rfl⟩
            obtain ⟨mB, hmB⟩ : ∃ S, y.k = S := ⟨_, rfl⟩
            have HA := Lib.hid hmA
            have HB := Lib.hid hmB
            clear hmA hmB
            refine wp_region_late (RS w g k B { y with v := false, n := false } G s) [12] (.yes 0 (.yes 1 (.yes 2 (.yes 3 (.yes 4 (.yes 5 (.yes 6 (.yes 7 (.yes 8 (.yes 9 (.yes 10 (.yes 11 (.one 12 .nil))))))))))))) (by kernel_rfl) (by kernel_rfl) (by kernel_rfl) (by kernel_rfl) HMB.out.drew ?_
            iterate 9 (refine wpSchL_yes (v := ?_) rfl (fun _ _ _ h => h) (by rfl) ?_ ?_; rotate_left; (next => (intro w hSw; obtain ⟨a0, a1, a2, a3, a4, a5, a6, a7, a8⟩ := spl_cells (RS.b hSw); obtain ⟨c0, c1, c2, c3, c4, c5, c6, c7⟩ := RM.own (RS.m hSw); obtain ⟨m0, m1, m2, m3, m4, m5, m6, m7⟩ := RM.own' (RS.m hSw); have cb := RM.best (RS.m hSw); clear hSw; go_simp; (try with_reducible rfl))); (try simp only [Act.put, List.setIfInBounds_toArray, List.set_cons_zero, List.set_cons_succ]))
            rw [HA.out, HB.out]
            refine wpSchL_yes (v := .int .u64 (maxI mA mB)) rfl (fun _ _ _ h => h) (by rfl) ?_ ?_
            · (intro w hSw; clear hSw; rcases Int.lt_trichotomy mA mB with hl | hl | hl; (have hn : ¬ mB < mA := (by omega)); (rw [maxI_lt hl]); go_simp; (try with_reducible rfl); subst hl; (rw [maxI_ge (Int.lt_irrefl _)]); (have hn := Int.lt_irrefl mA); go_simp; (try with_reducible rfl); (have hn : ¬ mA < mB := (by omega)); (rw [maxI_ge hn]); go_simp; (try with_reducible rfl))
            (try simp only [Act.put, List.setIfInBounds_toArray, List.set_cons_zero, List.set_cons_succ])
            (repeat (refine wpSchL_yes (v := ?_) rfl (fun _ _ _ h => h) (by rfl) ?_ ?_; rotate_left; (next => (intro w hSw; obtain ⟨a0, a1, a2, a3, a4, a5, a6, a7, a8⟩ := spl_cells (RS.b hSw); obtain ⟨c0, c1, c2, c3, c4, c5, c6, c7⟩ := RM.own (RS.m hSw); obtain ⟨m0, m1, m2, m3, m4, m5, m6, m7⟩ := RM.own' (RS.m hSw); have cb := RM.best (RS.m hSw); clear hSw; go_simp; (try with_reducible rfl))); (try simp only [Act.put, List.setIfInBounds_toArray, List.set_cons_zero, List.set_cons_succ])))
            have m2 := HMB.out.m.own'.2.2.1
            have f2 := HMB.out.m.free 25
            have HMC := Lib.hid (HMB.out.put (y := { y with v := false, n := false, w := maxI mA mB }) (H := G) 25 (.int .u64 (maxI mA mB)) (by decide) (fun _ => rfl) rfl rfl rfl).drew
            refine wpSchL_one ?_
            refine wpOneL_call rfl (by rfl) (fun K hK => ?_)
            go_simp
            refine hK.out _ _ (fun h => absurd h (by decide)) (fun hHeld => ?_)
            clear hK K hHeld
            (try simp only [Act.put, List.setIfInBounds_toArray, List.set_cons_zero, List.set_cons_succ])
            clear m2 f2 HMB
            generalize World.drew _ = w5 at *
            refine wpSchL_nil ?_
            obtain ⟨m0, m1, m2, m3, m4, m5, m6, m7⟩ := HMC.out.m.own'
            clear m1 m2 m3 m4 m5 m6
            have f7 := HMC.out.m.free 30
            have HMD := Lib.hid (HMC.out.put (y := { y with v := false, n := false, w := maxI mA mB, k := 0 }) (H := G) 30 (.int .u64 0) (by decide) (fun _ => rfl) rfl rfl rfl)
            go_wp2
            go_end0
            exact ⟨⟨_, rfl⟩, by rw [HE.out]; have hm := HMD.out.m; rw [← HA.out, ← HB.out] at hm; exact hm, HMD.out.kp⟩
        · have hu' : decide (y.u ≤ s.d) = false := by rw [hy]; simp [hu]
          have HE : Hid (rmeM x false s = y) := Lib.hid (by rw [hy]; simp [rmeM, hv, hu])
          clear hv hy hu
          go_enter Tryz.func47, Tryz.ntmps47
          go_upto_region 1 with fail
          generalize hw1 : World.alloc w _ = w1 at *
          have HM1 : Hid (RS w g k w.heap.size x G s w1) := HM
          clear HM hw1
          generalize w.heap.size = B at *
          obtain ⟨a0, a1, a2, a3, a4, a5, a6, a7, a8⟩ := spl_cells HM1.out.b
          obtain ⟨m0, m1, m2, m3, m4, m5, m6, m7⟩ := HM1.out.m.own'
          clear m0 m1 m2 m3 m6 m7 a0 a1 a2 a3 a4 a5 a7 a8
          rw [HV.out] at m4
          have HM2 : Hid (RS w g k B y G s w1) := Lib.hid (by rw [HY.out]; exact HM1.out)
          clear HM1
          go_upto_region 7 with fail
          refine wp_region_sch (RS w g k B y G s) [(true, 0), (true, 1), (true, 2), (true, 3), (true, 4), (true, 5), (true, 6)] (by kernel_rfl) (by kernel_rfl) (by kernel_rfl) (by kernel_rfl) HM2.out.drew ?_
          (repeat (first | (refine wpSch_yes (v := ?_) rfl (fun _ _ _ h => h) (by rfl) ?_ ?_; rotate_left; (next => (intro w hSw; obtain ⟨a0, a1, a2, a3, a4, a5, a6, a7, a8⟩ := spl_cells (RS.b hSw); obtain ⟨c0, c1, c2, c3, c4, c5, c6, c7⟩ := RM.own (RS.m hSw); obtain ⟨m0, m1, m2, m3, m4, m5, m6, m7⟩ := RM.own' (RS.m hSw); have cb := RM.best (RS.m hSw); clear hSw; go_simp; (try with_reducible rfl))); (try simp only [Act.put, List.setIfInBounds_toArray, List.set_cons_zero, List.set_cons_succ])) | (refine wpSch_no rfl (fun _ _ _ h => h) (by rfl) ?_; (try simp only [Act.put, List.setIfInBounds_toArray, List.set_cons_zero, List.set_cons_succ]))))
          refine wpSch_nil ?_
          have HM3 := Lib.hid HM2.out.drew
          clear HM2
          generalize World.drew _ = w3 at *
          go_wp2
          go_end0
          exact ⟨⟨_, rfl⟩, by rw [HE.out]; exact HM3.out.m, HM3.out.kp⟩
      · obtain ⟨y, hy⟩ : ∃ y : Mdl, y = { x with n := false } := ⟨_, rfl⟩
        have HY := Lib.hid hy
        by_cases hu : x.u ≤ s.d
        · have hu' : y.u ≤ s.d := by rw [hy]; exact hu
          by_cases h3 : x.m = 3
          · have HE : Hid (rmeM x true s = { y with v := false, n := false, w := maxI y.w y.k }) := Lib.hid (by rw [hy]; simp [rmeM, hv, hu, h3])
            have e3 : (y.m != 3) = false := by rw [hy]; simp [h3]
            clear hv h3 hy hu
            go_enter Tryz.func47, Tryz.ntmps47
            go_upto_region 1 with fail
            generalize hw1 : World.alloc w _ = w1 at *
            have HM1 : Hid (RS w g k w.heap.size x G s w1) := HM
            clear HM hw1
            generalize w.heap.size = B at *
            obtain ⟨a0, a1, a2, a3, a4, a5, a6, a7, a8⟩ := spl_cells HM1.out.b
            obtain ⟨m0, m1, m2, m3, m4, m5, m6, m7⟩ := HM1.out.m.own'
            clear m0 m1 m2 m3 m6 m7 a0 a1 a2 a3 a4 a5 a7 a8
            rw [HV.out] at m4
            have f5 := HM1.out.m.free 28
            have HM2 : Hid (RS w g k B y G s (w1.setCell ⟨g, 28, none⟩ (.bool false))) := Lib.hid (by rw [HY.out]; exact HM1.out.put (y := { x with n := false }) (H := G) 28 (.bool false) (by decide) (fun _ => rfl) rfl rfl rfl)
            clear HM1
            go_upto_region 7 with fail
            refine wp_region_sch (RS w g k B y G s) [(true, 0), (true, 1), (true, 2), (true, 3), (true, 4), (true, 5), (true, 6)] (by kernel_rfl) (by kernel_rfl) (by kernel_rfl) (by kernel_rfl) HM2.out.drew ?_
            (repeat (first | (refine wpSch_yes (v := ?_) rfl (fun _ _ _ h => h) (by rfl) ?_ ?_; rotate_left; (next => (intro w hSw; obtain ⟨a0, a1, a2, a3, a4, a5, a6, a7, a8⟩ := spl_cells (RS.b hSw); obtain ⟨c0, c1, c2, c3, c4, c5, c6, c7⟩ := RM.own (RS.m hSw); obtain ⟨m0, m1, m2, m3, m4, m5, m6, m7⟩ := RM.own' (RS.m hSw); have cb := RM.best (RS.m hSw); clear hSw; go_simp; (try with_reducible rfl))); (try simp only [Act.put, List.setIfInBounds_toArray, List.set_cons_zero, List.set_cons_succ])) | (refine wpSch_no rfl (fun _ _ _ h => h) (by rfl) ?_; (try simp only [Act.put, List.setIfInBounds_toArray, List.set_cons_zero, List.set_cons_succ]))))
            refine wpSch_nil ?_
            have HM3 := Lib.hid HM2.out.drew
            clear HM2
            generalize World.drew _ = w3 at *
            obtain ⟨m0, m1, m2, m3, m4, m5, m6, m7⟩ := HM3.out.m.own'
            clear m0 m1 m2 m3 m6 m7
            have f4 := HM3.out.m.free 27
            have HMA := Lib.hid (HM3.out.put (y := { y with v := false }) (H := G) 27 (.bool false) (by decide) (fun _ => rfl) rfl rfl rfl)
            have n5 := HMA.out.m.own'.2.2.2.2.2.1
            have f5 := HMA.out.m.free 28
            have HMB := Lib.hid (HMA.out.put (y := { y with v := false, n := false }) (H := G) 28 (.bool false) (by decide) (fun _ => rfl) rfl rfl rfl)
            go_upto_region 9 with fail
            clear m4 m5 f4 n5 f5 HM3 HMA
            generalize World.setCell _ _ _ = w4 at *
            obtain ⟨mA, hmA⟩ : ∃ S, y.w = S := ⟨_, rfl⟩
            obtain ⟨mB, hmB⟩ : ∃ S, y.k = S := ⟨_, rfl⟩
            have HA := Lib.hid hmA
            have HB := Lib.hid hmB
            clear hmA hmB
            refine wp_region_late (RS w g k B { y with v := false, n := false } G s) [12] (.yes 0 (.yes 1 (.yes 2 (.yes 3 (.yes 4 (.yes 5 (.yes 6 (.yes 7 (.yes 8 (.yes 9 (.yes 10 (.yes 11 (.one 12 .nil))))))))))))) (by kernel_rfl) (by kernel_rfl) (by kernel_rfl) (by kernel_rfl) HMB.out.drew ?_
            iterate 9 (refine wpSchL_yes (v := ?_) rfl (fun _ _ _ h => h) (by rfl) ?_ ?_; rotate_left; (next => (intro w hSw; obtain ⟨a0, a1, a2, a3, a4, a5, a6, a7, a8⟩ := spl_cells (RS.b hSw); obtain ⟨c0, c1, c2, c3, c4, c5, c6, c7⟩ := RM.own (RS.m hSw); obtain ⟨m0, m1, m2, m3, m4, m5, m6, m7⟩ := RM.own' (RS.m hSw); have cb := RM.best (RS.m hSw); clear hSw; go_simp; (try with_reducible rfl))); (try simp only [Act.put, List.setIfInBounds_toArray, List.set_cons_zero, List.set_cons_succ]))
            rw [HA.out, HB.out]
            refine wpSchL_yes (v := .int .u64 (maxI mA mB)) rfl (fun _ _ _ h => h) (by rfl) ?_ ?_
            · (intro w hSw; clear hSw; rcases Int.lt_trichotomy mA mB with hl | hl | hl; (have hn : ¬ mB < mA := (by omega)); (rw [maxI_lt hl]); go_simp; (try with_reducible rfl); subst hl; (rw [maxI_ge (Int.lt_irrefl _)]); (have hn := Int.lt_irrefl mA); go_simp; (try with_reducible rfl); (have hn : ¬ mA < mB := (by omega)); (rw [maxI_ge hn]); go_simp; (try with_reducible rfl))
            (try simp only [Act.put, List.setIfInBounds_toArray, List.set_cons_zero, List.set_cons_succ])
            (repeat (refine wpSchL_yes (v := ?_) rfl (fun _ _ _ h => h) (by rfl) ?_ ?_; rotate_left; (next => (intro w hSw; obtain ⟨a0, a1, a2, a3, a4, a5, a6, a7, a8⟩ := spl_cells (RS.b hSw); obtain ⟨c0, c1, c2, c3, c4, c5, c6, c7⟩ := RM.own (RS.m hSw); obtain ⟨m0, m1, m2, m3, m4, m5, m6, m7⟩ := RM.own' (RS.m hSw); have cb := RM.best (RS.m hSw); clear hSw; go_simp; (try with_reducible rfl))); (try simp only [Act.put, List.setIfInBounds_toArray, List.set_cons_zero, List.set_cons_succ])))
            have m2 := HMB.out.m.own'.2.2.1
            have f2 := HMB.out.m.free 25
            have HMC := Lib.hid (HMB.out.put (y := { y with v := false, n := false, w := maxI mA mB }) (H := G) 25 (.int .u64 (maxI mA mB)) (by decide) (fun _ => rfl) rfl rfl rfl).drew
            refine wpSchL_one ?_
            refine wpOneL_call rfl (by rfl) (fun K hK => ?_)
            go_simp
            refine hK.out _ _ (fun h => absurd h (by decide)) (fun hHeld => ?_)
            clear hK K hHeld
            (try simp only [Act.put, List.setIfInBounds_toArray, List.set_cons_zero, List.set_cons_succ])
            clear m2 f2 HMB
            generalize World.drew _ = w5 at *
            refine wpSchL_nil ?_
            obtain ⟨m0, m1, m2, m3, m4, m5, m6, m7⟩ := HMC.out.m.own'
            clear m1 m2 m3 m4 m5 m6
            have f7 := HMC.out.m.free 30
            have HMD := Lib.hid (HMC.out.put (y := { y with v := false, n := false, w := maxI mA mB, k := 0 }) (H := G) 30 (.int .u64 0) (by decide) (fun _ => rfl) rfl rfl rfl)
            go_wp2
            go_end0
            exact ⟨⟨_, rfl⟩, by rw [HE.out]; have hm := HMC.out.m; rw [← HA.out, ← HB.out] at hm; exact hm, HMC.out.kp⟩
          · have HE : Hid (rmeM x true s = { y with v := false, n := false, w := maxI y.w y.k, k := 0 }) := Lib.hid (by rw [hy]; simp [rmeM, hv, hu, h3, resM])
            have e3 : (y.m != 3) = true := by rw [hy]; simp [h3]
            clear hv h3 hy hu
            go_enter Tryz.func47, Tryz.ntmps47
            go_upto_region 1 with fail
            generalize hw1 : World.alloc w _ = w1 at *
            have HM1 : Hid (RS w g k w.heap.size x G s w1) := HM
            clear HM hw1
            generalize w.heap.size = B at *
            obtain ⟨a0, a1, a2, a3, a4, a5, a6, a7, a8⟩ := spl_cells HM1.out.b
            obtain ⟨m0, m1, m2, m3, m4, m5, m6, m7⟩ := HM1.out.m.own'
            clear m0 m1 m2 m3 m6 m7 a0 a1 a2 a3 a4 a5 a7 a8
            rw [HV.out] at m4
            have f5 := HM1.out.m.free 28
            have HM2 : Hid (RS w g k B y G s (w1.setCell ⟨g, 28, none⟩ (.bool false))) := Lib.hid (by rw [HY.out]; exact HM1.out.put (y := { x with n := false }) (H := G) 28 (.bool false) (by decide) (fun _ => rfl) rfl rfl rfl)
            clear HM1
            go_upto_region 7 with fail
            refine wp_region_sch (RS w g k B y G s) [(true, 0), (true, 1), (true, 2), (true, 3), (true, 4), (true, 5), (true, 6)] (by kernel_rfl) (by kernel_rfl) (by kernel_rfl) (by kernel_rfl) HM2.out.drew ?_
            (repeat (first | (refine wpSch_yes (v := ?_) rfl (fun _ _ _ h => h) (by rfl) ?_ ?_; rotate_left; (next => (intro w hSw; obtain ⟨a0, a1, a2, a3, a4, a5, a6, a7, a8⟩ := spl_cells (RS.b hSw); obtain ⟨c0, c1, c2, c3, c4, c5, c6, c7⟩ := RM.own (RS.m hSw); obtain ⟨m0, m1, m2, m3, m4, m5, m6, m7⟩ := RM.own' (RS.m hSw); have cb := RM.best (RS.m hSw); clear hSw; go_simp; (try with_reducible rfl))); (try simp only [Act.put, List.setIfInBounds_toArray, List.set_cons_zero, List.set_cons_succ])) | (refine wpSch_no rfl (fun _ _ _ h => h) (by rfl) ?_; (try simp only [Act.put, List.setIfInBounds_toArray, List.set_cons_zero, List.set_cons_succ]))))
            refine wpSch_nil ?_
            have HM3 := Lib.hid HM2.out.drew
            clear HM2
            generalize World.drew _ = w3 at *
            obtain ⟨m0, m1, m2, m3, m4, m5, m6, m7⟩ := HM3.out.m.own'
            clear m0 m1 m2 m3 m6 m7
            have f4 := HM3.out.m.free 27
            have HMA := Lib.hid (HM3.out.put (y := { y with v := false }) (H := G) 27 (.bool false) (by decide) (fun _ => rfl) rfl rfl rfl)
            have n5 := HMA.out.m.own'.2.2.2.2.2.1
            have f5 := HMA.out.m.free 28
            have HMB := Lib.hid (HMA.out.put (y := { y with v := false, n := false }) (H := G) 28 (.bool false) (by decide) (fun _ => rfl) rfl rfl rfl)
            go_upto_region 9 with fail
            clear m4 m5 f4 n5 f5 HM3 HMA
            generalize World.setCell _ _ _ = w4 at *
            obtain ⟨mA, hmA⟩ : ∃ S, y.w = S := ⟨_, rfl⟩
            obtain ⟨mB, hmB⟩ : ∃ S, y.k = S := ⟨_, rfl⟩
            have HA := Lib.hid hmA
            have HB := Lib.hid hmB
            clear hmA hmB
            refine wp_region_late (RS w g k B { y with v := false, n := false } G s) [12] (.yes 0 (.yes 1 (.yes 2 (.yes 3 (.yes 4 (.yes 5 (.yes 6 (.yes 7 (.yes 8 (.yes 9 (.yes 10 (.yes 11 (.one 12 .nil))))))))))))) (by kernel_rfl) (by kernel_rfl) (by kernel_rfl) (by kernel_rfl) HMB.out.drew ?_
            iterate 9 (refine wpSchL_yes (v := ?_) rfl (fun _ _ _ h => h) (by rfl) ?_ ?_; rotate_left; (next => (intro w hSw; obtain ⟨a0, a1, a2, a3, a4, a5, a6, a7, a8⟩ := spl_cells (RS.b hSw); obtain ⟨c0, c1, c2, c3, c4, c5, c6, c7⟩ := RM.own (RS.m hSw); obtain ⟨m0, m1, m2, m3, m4, m5, m6, m7⟩ := RM.own' (RS.m hSw); have cb := RM.best (RS.m hSw); clear hSw; go_simp; (try with_reducible rfl))); (try simp only [Act.put, List.setIfInBounds_toArray, List.set_cons_zero, List.set_cons_succ]))
            rw [HA.out, HB.out]
            refine wpSchL_yes (v := .int .u64 (maxI mA mB)) rfl (fun _ _ _ h => h) (by rfl) ?_ ?_
            · (intro w hSw; clear hSw; rcases Int.lt_trichotomy mA mB with hl | hl | hl; (have hn : ¬ mB < mA := (by omega)); (rw [maxI_lt hl]); go_simp; (try with_reducible rfl); subst hl; (rw [maxI_ge (Int.lt_irrefl _)]); (have hn := Int.lt_irrefl mA); go_simp; (try with_reducible rfl); (have hn : ¬ mA < mB := (by omega)); (rw [maxI_ge hn]); go_simp; (try with_reducible rfl))
            (try simp only [Act.put, List.setIfInBounds_toArray, List.set_cons_zero, List.set_cons_succ])
            (repeat (refine wpSchL_yes (v := ?_) rfl (fun _ _ _ h => h) (by rfl) ?_ ?_; rotate_left; (next => (intro w hSw; obtain ⟨a0, a1, a2, a3, a4, a5, a6, a7, a8⟩ := spl_cells (RS.b hSw); obtain ⟨c0, c1, c2, c3, c4, c5, c6, c7⟩ := RM.own (RS.m hSw); obtain ⟨m0, m1, m2, m3, m4, m5, m6, m7⟩ := RM.own' (RS.m hSw); have cb := RM.best (RS.m hSw); clear hSw; go_simp; (try with_reducible rfl))); (try simp only [Act.put, List.setIfInBounds_toArray, List.set_cons_zero, List.set_cons_succ])))
            have m2 := HMB.out.m.own'.2.2.1
            have f2 := HMB.out.m.free 25
            have HMC := Lib.hid (HMB.out.put (y := { y with v := false, n := false, w := maxI mA mB }) (H := G) 25 (.int .u64 (maxI mA mB)) (by decide) (fun _ => rfl) rfl rfl rfl).drew
            refine wpSchL_one ?_
            refine wpOneL_call rfl (by rfl) (fun K hK => ?_)
            go_simp
            refine hK.out _ _ (fun h => absurd h (by decide)) (fun hHeld => ?_)
            clear hK K hHeld
            (try simp only [Act.put, List.setIfInBounds_toArray, List.set_cons_zero, List.set_cons_succ])
            clear m2 f2 HMB
            generalize World.drew _ = w5 at *
            refine wpSchL_nil ?_
            obtain ⟨m0, m1, m2, m3, m4, m5, m6, m7⟩ := HMC.out.m.own'
            clear m1 m2 m3 m4 m5 m6
            have f7 := HMC.out.m.free 30
            have HMD := Lib.hid (HMC.out.put (y := { y with v := false, n := false, w := maxI mA mB, k := 0 }) (H := G) 30 (.int .u64 0) (by decide) (fun _ => rfl) rfl rfl rfl)
            go_wp2
            go_end0
            exact ⟨⟨_, rfl⟩, by rw [HE.out]; have hm := HMD.out.m; rw [← HA.out, ← HB.out] at hm; exact hm, HMD.out.kp⟩
        · have hu' : decide (y.u ≤ s.d) = false := by rw [hy]; simp [hu]
          have HE : Hid (rmeM x true s = y) := Lib.hid (by rw [hy]; simp [rmeM, hv, hu])
          clear hv hy hu
          go_enter Tryz.func47, Tryz.ntmps47
          go_upto_region 1 with fail
          generalize hw1 : World.alloc w _ = w1 at *
          have HM1 : Hid (RS w g k w.heap.size x G s w1) := HM
          clear HM hw1
          generalize w.heap.size = B at *
          obtain ⟨a0, a1, a2, a3, a4, a5, a6, a7, a8⟩ := spl_cells HM1.out.b
          obtain ⟨m0, m1, m2, m3, m4, m5, m6, m7⟩ := HM1.out.m.own'
          clear m0 m1 m2 m3 m6 m7 a0 a1 a2 a3 a4 a5 a7 a8
          rw [HV.out] at m4
          have f5 := HM1.out.m.free 28
          have HM2 : Hid (RS w g k B y G s (w1.setCell ⟨g, 28, none⟩ (.bool false))) := Lib.hid (by rw [HY.out]; exact HM1.out.put (y := { x with n := false }) (H := G) 28 (.bool false) (by decide) (fun _ => rfl) rfl rfl rfl)
          clear HM1
          go_upto_region 7 with fail
          refine wp_region_sch (RS w g k B y G s) [(true, 0), (true, 1), (true, 2), (true, 3), (true, 4), (true, 5), (true, 6)] (by kernel_rfl) (by kernel_rfl) (by kernel_rfl) (by kernel_rfl) HM2.out.drew ?_
          (repeat (first | (refine wpSch_yes (v := ?_) rfl (fun _ _ _ h => h) (by rfl) ?_ ?_; rotate_left; (next => (intro w hSw; obtain ⟨a0, a1, a2, a3, a4, a5, a6, a7, a8⟩ := spl_cells (RS.b hSw); obtain ⟨c0, c1, c2, c3, c4, c5, c6, c7⟩ := RM.own (RS.m hSw); obtain ⟨m0, m1, m2, m3, m4, m5, m6, m7⟩ := RM.own' (RS.m hSw); have cb := RM.best (RS.m hSw); clear hSw; go_simp; (try with_reducible rfl))); (try simp only [Act.put, List.setIfInBounds_toArray, List.set_cons_zero, List.set_cons_succ])) | (refine wpSch_no rfl (fun _ _ _ h => h) (by rfl) ?_; (try simp only [Act.put, List.setIfInBounds_toArray, List.set_cons_zero, List.set_cons_succ]))))
          refine wpSch_nil ?_
          have HM3 := Lib.hid HM2.out.drew
          clear HM2
          generalize World.drew _ = w3 at *
          go_wp2
          go_end0
          exact ⟨⟨_, rfl⟩, by rw [HE.out]; exact HM3.out.m, HM3.out.kp⟩
  · have ho' : decide (0 < s.o) = false := by simp [ho]
    cases V
    · have HE : Hid (rmeM x st s = x) := Lib.hid (by simp [rmeM, ho, hV])
      have HV := Lib.hid hV
      clear ho hV
      go_enter Tryz.func47, Tryz.ntmps47
      go_upto_region 1 with fail
      generalize hw1 : World.alloc w _ = w1 at *
      have HM1 : Hid (RS w g k w.heap.size x G s w1) := HM
      clear HM hw1
      generalize w.heap.size = B at *
      obtain ⟨a0, a1, a2, a3, a4, a5, a6, a7, a8⟩ := spl_cells HM1.out.b
      obtain ⟨m0, m1, m2, m3, m4, m5, m6, m7⟩ := HM1.out.m.own'
      clear m0 m1 m2 m3 m6 m7 a0 a1 a2 a3 a4 a5 a7 a8
      rw [HV.out] at m4
      go_wp2
      refine bodyPost_ret (results_none rfl _ _ _) rfl ?_
      exact ⟨⟨_, rfl⟩, by rw [HE.out]; exact HM1.out.m, HM1.out.kp⟩
    · have hv := hV
      have HV := Lib.hid hV
      clear hV
      cases st
      · obtain ⟨y, hy⟩ : ∃ y, y = x := ⟨_, rfl⟩
        have HY := Lib.hid hy
        by_cases hu : x.u ≤ s.d
        · have hu' : y.u ≤ s.d := by rw [hy]; exact hu
          by_cases h3 : x.m = 3
          · have HE : Hid (rmeM x false s = { y with v := false, n := false, w := maxI y.w y.k }) := Lib.hid (by rw [hy]; simp [rmeM, hv, hu, h3])
            have e3 : (y.m != 3) = false := by rw [hy]; simp [h3]
            clear hv h3 hy hu
            go_enter Tryz.func47, Tryz.ntmps47
            go_upto_region 1 with fail
            generalize hw1 : World.alloc w _ = w1 at *
            have HM1 : Hid (RS w g k w.heap.size x G s w1) := HM
            clear HM hw1
            generalize w.heap.size = B at *
            obtain ⟨a0, a1, a2, a3, a4, a5, a6, a7, a8⟩ := spl_cells HM1.out.b
            obtain ⟨m0, m1, m2, m3, m4, m5, m6, m7⟩ := HM1.out.m.own'
            clear m0 m1 m2 m3 m6 m7 a0 a1 a2 a3 a4 a5 a7 a8
            rw [HV.out] at m4
            have HM2 : Hid (RS w g k B y G s w1) := Lib.hid (by rw [HY.out]; exact HM1.out)
            clear HM1
            go_upto_region 7 with fail
            refine wp_region_sch (RS w g k B y G s) [(true, 0), (true, 1), (true, 2), (true, 3), (true, 4), (true, 5), (true, 6)] (by kernel_rfl) (by kernel_rfl) (by kernel_rfl) (by kernel_rfl) HM2.out.drew ?_
            (repeat (first | (refine wpSch_yes (v := ?_) rfl (fun _ _ _ h => h) (by rfl) ?_ ?_; rotate_left; (next => (intro w hSw; obtain ⟨a0, a1, a2, a3, a4, a5, a6, a7, a8⟩ := spl_cells (RS.b hSw); obtain ⟨c0, c1, c2, c3, c4, c5, c6, c7⟩ := RM.own (RS.m hSw); obtain ⟨m0, m1, m2, m3, m4, m5, m6, m7⟩ := RM.own' (RS.m hSw); have cb := RM.best (RS.m hSw); clear hSw; go_simp; (try with_reducible rfl))); (try simp only [Act.put, List.setIfInBounds_toArray, List.set_cons_zero, List.set_cons_succ])) | (refine wpSch_no rfl (fun _ _ _ h => h) (by rfl) ?_; (try simp only [Act.put, List.setIfInBounds_toArray, List.set_cons_zero, List.set_cons_succ]))))
            refine wpSch_nil ?_
            have HM3 := Lib.hid HM2.out.drew
            clear HM2
            generalize World.drew _ = w3 at *
            obtain ⟨m0, m1, m2, m3, m4, m5, m6, m7⟩ := HM3.out.m.own'
            clear m0 m1 m2 m3 m6 m7
            have f4 := HM3.out.m.free 27
            have HMA := Lib.hid (HM3.out.put (y := { y with v := false }) (H := G) 27 (.bool false) (by decide) (fun _ => rfl) rfl rfl rfl)
            have n5 := HMA.out.m.own'.2.2.2.2.2.1
            have f5 := HMA.out.m.free 28
            have HMB := Lib.hid (HMA.out.put (y := { y with v := false, n := false }) (H := G) 28 (.bool false) (by decide) (fun _ => rfl) rfl rfl rfl)
            go_upto_region 9 with fail
            clear m4 m5 f4 n5 f5 HM3 HMA
            generalize World.setCell _ _ _ = w4 at *
            obtain ⟨mA, hmA⟩ : ∃ S, y.w = S := ⟨_, rfl⟩
            obtain ⟨mB, hmB⟩ : ∃ S, y.k = S := ⟨_, rfl⟩
            have HA := Lib.hid hmA
            have HB := Lib.hid hmB
            clear hmA hmB
            refine wp_region_late (RS w g k B { y with v := false, n := false } G s) [12] (.yes 0 (.yes 1 (.yes 2 (.yes 3 (.yes 4 (.yes 5 (.yes 6 (.yes 7 (.yes 8 (.yes 9 (.yes 10 (.yes 11 (.one 12 .nil))))))))))))) (by kernel_rfl) (by kernel_rfl) (by kernel_rfl) (by kernel_rfl) HMB.out.drew ?_
            iterate 9 (refine wpSchL_yes (v := ?_) rfl (fun _ _ _ h => h) (by rfl) ?_ ?_; rotate_left; (next => (intro w hSw; obtain ⟨a0, a1, a2, a3, a4, a5, a6, a7, a8⟩ := spl_cells (RS.b hSw); obtain ⟨c0, c1, c2, c3, c4, c5, c6, c7⟩ := RM.own (RS.m hSw); obtain ⟨m0, m1, m2, m3, m4, m5, m6, m7⟩ := RM.own' (RS.m hSw); have cb := RM.best (RS.m hSw); clear hSw; go_simp; (try with_reducible rfl))); (try simp only [Act.put, List.setIfInBounds_toArray, List.set_cons_zero, List.set_cons_succ]))
            rw [HA.out, HB.out]
            refine wpSchL_yes (v := .int .u64 (maxI mA mB)) rfl (fun _ _ _ h => h) (by rfl) ?_ ?_
            · (intro w hSw; clear hSw; rcases Int.lt_trichotomy mA mB with hl | hl | hl; (have hn : ¬ mB < mA := (by omega)); (rw [maxI_lt hl]); go_simp; (try with_reducible rfl); subst hl; (rw [maxI_ge (Int.lt_irrefl _)]); (have hn := Int.lt_irrefl mA); go_simp; (try with_reducible rfl); (have hn : ¬ mA < mB := (by omega)); (rw [maxI_ge hn]); go_simp; (try with_reducible rfl))
            (try simp only [Act.put, List.setIfInBounds_toArray, List.set_cons_zero, List.set_cons_succ])
            (repeat (refine wpSchL_yes (v := ?_) rfl (fun _ _ _ h => h) (by rfl) ?_ ?_; rotate_left; (next => (intro w hSw; obtain ⟨a0, a1, a2, a3, a4, a5, a6, a7, a8⟩ := spl_cells (RS.b hSw); obtain ⟨c0, c1, c2, c3, c4, c5, c6, c7⟩ := RM.own (RS.m hSw); obtain ⟨m0, m1, m2, m3, m4, m5, m6, m7⟩ := RM.own' (RS.m hSw); have cb := RM.best (RS.m hSw); clear hSw; go_simp; (try with_reducible rfl))); (try simp only [Act.put, List.setIfInBounds_toArray, List.set_cons_zero, List.set_cons_succ])))
            have m2 := HMB.out.m.own'.2.2.1
            have f2 := HMB.out.m.free 25
            have HMC := Lib.hid (HMB.out.put (y := { y with v := false, n := false, w := maxI mA mB }) (H := G) 25 (.int .u64 (maxI mA mB)) (by decide) (fun _ => rfl) rfl rfl rfl).drew
            refine wpSchL_one ?_
            refine wpOneL_call rfl (by rfl) (fun K hK => ?_)
            go_simp
            refine hK.out _ _ (fun h => absurd h (by decide)) (fun hHeld => ?_)
            clear hK K hHeld
            (try simp only [Act.put, List.setIfInBounds_toArray, List.set_cons_zero, List.set_cons_succ])
            clear m2 f2 HMB
            generalize World.drew _ = w5 at *
            refine wpSchL_nil ?_
            obtain ⟨m0, m1, m2, m3, m4, m5, m6, m7⟩ := HMC.out.m.own'
            clear m1 m2 m3 m4 m5 m6
            have f7 := HMC.out.m.free 30
            have HMD := Lib.hid (HMC.out.put (y := { y with v := false, n := false, w := maxI mA mB, k := 0 }) (H := G) 30 (.int .u64 0) (by decide) (fun _ => rfl) rfl rfl rfl)
            go_wp2
            go_end0
            exact ⟨⟨_, rfl⟩, by rw [HE.out]; have hm := HMC.out.m; rw [← HA.out, ← HB.out] at hm; exact hm, HMC.out.kp⟩
          · have HE : Hid (rmeM x false s = { y with v := false, n := false, w := maxI y.w y.k, k := 0 }) := Lib.hid (by rw [hy]; simp [rmeM, hv, hu, h3, resM])
            have e3 : (y.m != 3) = true := by rw [hy]; simp [h3]
            clear hv h3 hy hu
            go_enter Tryz.func47, Tryz.ntmps47
            go_upto_region 1 with fail
            generalize hw1 : World.alloc w _ = w1 at *
            have HM1 : Hid (RS w g k w.heap.size x G s w1) := HM
            clear HM hw1
            generalize w.heap.size = B at *
            obtain ⟨a0, a1, a2, a3, a4, a5, a6, a7, a8⟩ := spl_cells HM1.out.b
            obtain ⟨m0, m1, m2, m3, m4, m5, m6, m7⟩ := HM1.out.m.own'
            clear m0 m1 m2 m3 m6 m7 a0 a1 a2 a3 a4 a5 a7 a8
            rw [HV.out] at m4
            have HM2 : Hid (RS w g k B y G s w1) := Lib.hid (by rw [HY.out]; exact HM1.out)
            clear HM1
            go_upto_region 7 with fail
            refine wp_region_sch (RS w g k B y G s) [(true, 0), (true, 1), (true, 2), (true, 3), (true, 4), (true, 5), (true, 6)] (by kernel_rfl) (by kernel_rfl) (by kernel_rfl) (by kernel_rfl) HM2.out.drew ?_
            (repeat (first | (refine wpSch_yes (v := ?_) rfl (fun _ _ _ h => h) (by rfl) ?_ ?_; rotate_left; (next => (intro w hSw; obtain ⟨a0, a1, a2, a3, a4, a5, a6, a7, a8⟩ := spl_cells (RS.b hSw); obtain ⟨c0, c1, c2, c3, c4, c5, c6, c7⟩ := RM.own (RS.m hSw); obtain ⟨m0, m1, m2, m3, m4, m5, m6, m7⟩ := RM.own' (RS.m hSw); have cb := RM.best (RS.m hSw); clear hSw; go_simp; (try with_reducible rfl))); (try simp only [Act.put, List.setIfInBounds_toArray, List.set_cons_zero, List.set_cons_succ])) | (refine wpSch_no rfl (fun _ _ _ h => h) (by rfl) ?_; (try simp only [Act.put, List.setIfInBounds_toArray, List.set_cons_zero, List.set_cons_succ]))))
            refine wpSch_nil ?_
            have HM3 := Lib.hid HM2.out.drew
            clear HM2
            generalize World.drew _ = w3 at *
            obtain ⟨m0, m1, m2, m3, m4, m5, m6, m7⟩ := HM3.out.m.own'
            clear m0 m1 m2 m3 m6 m7
            have f4 := HM3.out.m.free 27
            have HMA := Lib.hid (HM3.out.put (y := { y with v := false }) (H := G) 27 (.bool false) (by decide) (fun _ => rfl) rfl rfl rfl)
            have n5 := HMA.out.m.own'.2.2.2.2.2.1
            have f5 := HMA.out.m.free 28
            have HMB := Lib.hid (HMA.out.put (y := { y with v := false, n := false }) (H := G) 28 (.bool false) (by decide) (fun _ => rfl) rfl rfl rfl)
            go_upto_region 9 with fail
            clear m4 m5 f4 n5 f5 HM3 HMA
            generalize World.setCell _ _ _ = w4 at *
            obtain ⟨mA, hmA⟩ : ∃ S, y.w = S := ⟨_, rfl⟩
            obtain ⟨mB, hmB⟩ : ∃ S, y.k = S := ⟨_, rfl⟩
            have HA := Lib.hid hmA
            have HB := Lib.hid hmB
            clear hmA hmB
            refine wp_region_late (RS w g k B { y with v := false, n := false } G s) [12] (.yes 0 (.yes 1 (.yes 2 (.yes 3 (.yes 4 (.yes 5 (.yes 6 (.yes 7 (.yes 8 (.yes 9 (.yes 10 (.yes 11 (.one 12 .nil))))))))))))) (by kernel_rfl) (by kernel_rfl) (by kernel_rfl) (by kernel_rfl) HMB.out.drew ?_
            iterate 9 (refine wpSchL_yes (v := ?_) rfl (fun _ _ _ h => h) (by rfl) ?_ ?_; rotate_left; (next => (intro w hSw; obtain ⟨a0, a1, a2, a3, a4, a5, a6, a7, a8⟩ := spl_cells (RS.b hSw); obtain ⟨c0, c1, c2, c3, c4, c5, c6, c7⟩ := RM.own (RS.m hSw); obtain ⟨m0, m1, m2, m3, m4, m5, m6, m7⟩ := RM.own' (RS.m hSw); have cb := RM.best (RS.m hSw); clear hSw; go_simp; (try with_reducible rfl))); (try simp only [Act.put, List.setIfInBounds_toArray, List.set_cons_zero, List.set_cons_succ]))
            rw [HA.out, HB.out]
            refine wpSchL_yes (v := .int .u64 (maxI mA mB)) rfl (fun _ _ _ h => h) (by rfl) ?_ ?_
            · (intro w hSw; clear hSw; rcases Int.lt_trichotomy mA mB with hl | hl | hl; (have hn : ¬ mB < mA := (by omega)); (rw [maxI_lt hl]); go_simp; (try with_reducible rfl); subst hl; (rw [maxI_ge (Int.lt_irrefl _)]); (have hn := Int.lt_irrefl mA); go_simp; (try with_reducible rfl); (have hn : ¬ mA < mB := (by omega)); (rw [maxI_ge hn]); go_simp; (try with_reducible rfl))
            (try simp only [Act.put, List.setIfInBounds_toArray, List.set_cons_zero, List.set_cons_succ])
            (repeat (refine wpSchL_yes (v := ?_) rfl (fun _ _ _ h => h) (by rfl) ?_ ?_; rotate_left; (next => (intro w hSw; obtain ⟨a0, a1, a2, a3, a4, a5, a6, a7, a8⟩ := spl_cells (RS.b hSw); obtain ⟨c0, c1, c2, c3, c4, c5, c6, c7⟩ := RM.own (RS.m hSw); obtain ⟨m0, m1, m2, m3, m4, m5, m6, m7⟩ := RM.own' (RS.m hSw); have cb := RM.best (RS.m hSw); clear hSw; go_simp; (try with_reducible rfl))); (try simp only [Act.put, List.setIfInBounds_toArray, List.set_cons_zero, List.set_cons_succ])))
            have m2 := HMB.out.m.own'.2.2.1
            have f2 := HMB.out.m.free 25
            have HMC := Lib.hid (HMB.out.put (y := { y with v := false, n := false, w := maxI mA mB }) (H := G) 25 (.int .u64 (maxI mA mB)) (by decide) (fun _ => rfl) rfl rfl rfl).drew
            refine wpSchL_one ?_
            refine wpOneL_call rfl (by rfl) (fun K hK => ?_)
            go_simp
            refine hK.out _ _ (fun h => absurd h (by decide)) (fun hHeld => ?_)
            clear hK K hHeld
            (try simp only [Act.put, List.setIfInBounds_toArray, List.set_cons_zero, List.set_cons_succ])
            clear m2 f2 HMB
            generalize World.drew _ = w5 at *
            refine wpSchL_nil ?_
            obtain ⟨m0, m1, m2, m3, m4, m5, m6, m7⟩ := HMC.out.m.own'
            clear m1 m2 m3 m4 m5 m6
            have f7 := HMC.out.m.free 30
            have HMD := Lib.hid (HMC.out.put (y := { y with v := false, n := false, w := maxI mA mB, k := 0 }) (H := G) 30 (.int .u64 0) (by decide) (fun _ => rfl) rfl rfl rfl)
            go_wp2
            go_end0
            exact ⟨⟨_, rfl⟩, by rw [HE.out]; have hm := HMD.out.m; rw [← HA.out, ← HB.out] at hm; exact hm, HMD.out.kp⟩
        · have hu' : decide (y.u ≤ s.d) = false := by rw [hy]; simp [hu]
          have HE : Hid (rmeM x false s = y) := Lib.hid (by rw [hy]; simp [rmeM, hv, hu])
          clear hv hy hu
          go_enter Tryz.func47, Tryz.ntmps47
          go_upto_region 1 with fail
          generalize hw1 : World.alloc w _ = w1 at *
          have HM1 : Hid (RS w g k w.heap.size x G s w1) := HM
          clear HM hw1
          generalize w.heap.size = B at *
          obtain ⟨a0, a1, a2, a3, a4, a5, a6, a7, a8⟩ := spl_cells HM1.out.b
          obtain ⟨m0, m1, m2, m3, m4, m5, m6, m7⟩ := HM1.out.m.own'
          clear m0 m1 m2 m3 m6 m7 a0 a1 a2 a3 a4 a5 a7 a8
          rw [HV.out] at m4
          have HM2 : Hid (RS w g k B y G s w1) := Lib.hid (by rw [HY.out]; exact HM1.out)
          clear HM1
          go_upto_region 7 with fail
          refine wp_region_sch (RS w g k B y G s) [(true, 0), (true, 1), (true, 2), (true, 3), (true, 4), (true, 5), (true, 6)] (by kernel_rfl) (by kernel_rfl) (by kernel_rfl) (by kernel_rfl) HM2.out.drew ?_
          (repeat (first | (refine wpSch_yes (v := ?_) rfl (fun _ _ _ h => h) (by rfl) ?_ ?_; rotate_left; (next => (intro w hSw; obtain ⟨a0, a1, a2, a3, a4, a5, a6, a7, a8⟩ := spl_cells (RS.b hSw); obtain ⟨c0, c1, c2, c3, c4, c5, c6, c7⟩ := RM.own (RS.m hSw); obtain ⟨m0, m1, m2, m3, m4, m5, m6, m7⟩ := RM.own' (RS.m hSw); have cb := RM.best (RS.m hSw); clear hSw; go_simp; (try with_reducible rfl))); (try simp only [Act.put, List.setIfInBounds_toArray, List.set_cons_zero, List.set_cons_succ])) | (refine wpSch_no rfl (fun _ _ _ h => h) (by rfl) ?_; (try simp only [Act.put, List.setIfInBounds_toArray, List.set_cons_zero, List.set_cons_succ]))))
          refine wpSch_nil ?_
          have HM3 := Lib.hid HM2.out.drew
          clear HM2
          generalize World.drew _ = w3 at *
          go_wp2
          go_end0
          exact ⟨⟨_, rfl⟩, by rw [HE.out]; exact HM3.out.m, HM3.out.kp⟩
      · obtain ⟨y, hy⟩ : ∃ y : Mdl, y = { x with n := false } := ⟨_, rfl⟩
        have HY := Lib.hid hy
        by_cases hu : x.u ≤ s.d
        · have hu' : y.u ≤ s.d := by rw [hy]; exact hu
          by_cases h3 : x.m = 3
          · have HE : Hid (rmeM x true s = { y with v := false, n := false, w := maxI y.w y.k }) := Lib.hid (by rw [hy]; simp [rmeM, hv, hu, h3])
            have e3 : (y.m != 3) = false := by rw [hy]; simp [h3]
            clear hv h3 hy hu
            go_enter Tryz.func47, Tryz.ntmps47
            go_upto_region 1 with fail
            generalize hw1 : World.alloc w _ = w1 at *
            have HM1 : Hid (RS w g k w.heap.size x G s w1) := HM
            clear HM hw1
            generalize w.heap.size = B at *
            obtain ⟨a0, a1, a2, a3, a4, a5, a6, a7, a8⟩ := spl_cells HM1.out.b
            obtain ⟨m0, m1, m2, m3, m4, m5, m6, m7⟩ := HM1.out.m.own'
            clear m0 m1 m2 m3 m6 m7 a0 a1 a2 a3 a4 a5 a7 a8
            rw [HV.out] at m4
            have f5 := HM1.out.m.free 28
            have HM2 : Hid (RS w g k B y G s (w1.setCell ⟨g, 28, none⟩ (.bool false))) := Lib.hid (by rw [HY.out]; exact HM1.out.put (y := { x with n := false }) (H := G) 28 (.bool false) (by decide) (fun _ => rfl) rfl rfl rfl)
            clear HM1
            go_upto_region 7 with fail
            refine wp_region_sch (RS w g k B y G s) [(true, 0), (true, 1), (true, 2), (true, 3), (true, 4), (true, 5), (true, 6)] (by kernel_rfl) (by kernel_rfl) (by kernel_rfl) (by kernel_rfl) HM2.out.drew ?_
            (repeat (first | (refine wpSch_yes (v := ?_) rfl (fun _ _ _ h => h) (by rfl) ?_ ?_; rotate_left; (next => (intro w hSw; obtain ⟨a0, a1, a2, a3, a4, a5, a6, a7, a8⟩ := spl_cells (RS.b hSw); obtain ⟨c0, c1, c2, c3, c4, c5, c6, c7⟩ := RM.own (RS.m hSw); obtain ⟨m0, m1, m2, m3, m4, m5, m6, m7⟩ := RM.own' (RS.m hSw); have cb := RM.best (RS.m hSw); clear hSw; go_simp; (try with_reducible rfl))); (try simp only [Act.put, List.setIfInBounds_toArray, List.set_cons_zero, List.set_cons_succ])) | (refine wpSch_no rfl (fun _ _ _ h => h) (by rfl) ?_; (try simp only [Act.put, List.setIfInBounds_toArray, List.set_cons_zero, List.set_cons_succ]))))
            refine wpSch_nil ?_
            have HM3 := Lib.hid HM2.out.drew
            clear HM2
            generalize World.drew _ = w3 at *
            obtain ⟨m0, m1, m2, m3, m4, m5, m6, m7⟩ := HM3.out.m.own'
            clear m0 m1 m2 m3 m6 m7
            have f4 := HM3.out.m.free 27
            have HMA := Lib.hid (HM3.out.put (y := { y with v := false }) (H := G) 27 (.bool false) (by decide) (fun _ => rfl) rfl rfl rfl)
            have n5 := HMA.out.m.own'.2.2.2.2.2.1
            have f5 := HMA.out.m.free 28
            have HMB := Lib.hid (HMA.out.put (y := { y with v := false, n := false }) (H := G) 28 (.bool false) (by decide) (fun _ => rfl) rfl rfl rfl)
            go_upto_region 9 with fail
            clear m4 m5 f4 n5 f5 HM3 HMA
            generalize World.setCell _ _ _ = w4 at *
            obtain ⟨mA, hmA⟩ : ∃ S, y.w = S := ⟨_, rfl⟩
            obtain ⟨mB, hmB⟩ : ∃ S, y.k = S := ⟨_, rfl⟩
            have HA := Lib.hid hmA
            have HB := Lib.hid hmB
            clear hmA hmB
            refine wp_region_late (RS w g k B { y with v := false, n := false } G s) [12] (.yes 0 (.yes 1 (.yes 2 (.yes 3 (.yes 4 (.yes 5 (.yes 6 (.yes 7 (.yes 8 (.yes 9 (.yes 10 (.yes 11 (.one 12 .nil))))))))))))) (by kernel_rfl) (by kernel_rfl) (by kernel_rfl) (by kernel_rfl) HMB.out.drew ?_
            iterate 9 (refine wpSchL_yes (v := ?_) rfl (fun _ _ _ h => h) (by rfl) ?_ ?_; rotate_left; (next => (intro w hSw; obtain ⟨a0, a1, a2, a3, a4, a5, a6, a7, a8⟩ := spl_cells (RS.b hSw); obtain ⟨c0, c1, c2, c3, c4, c5, c6, c7⟩ := RM.own (RS.m hSw); obtain ⟨m0, m1, m2, m3, m4, m5, m6, m7⟩ := RM.own' (RS.m hSw); have cb := RM.best (RS.m hSw); clear hSw; go_simp; (try with_reducible rfl))); (try simp only [Act.put, List.setIfInBounds_toArray, List.set_cons_zero, List.set_cons_succ]))
            rw [HA.out, HB.out]
            refine wpSchL_yes (v := .int .u64 (maxI mA mB)) rfl (fun _ _ _ h => h) (by rfl) ?_ ?_
            · (intro w hSw; clear hSw; rcases Int.lt_trichotomy mA mB with hl | hl | hl; (have hn : ¬ mB < mA := (by omega)); (rw [maxI_lt hl]); go_simp; (try with_reducible rfl); subst hl; (rw [maxI_ge (Int.lt_irrefl _)]); (have hn := Int.lt_irrefl mA); go_simp; (try with_reducible rfl); (have hn : ¬ mA < mB := (by omega)); (rw [maxI_ge hn]); go_simp; (try with_reducible rfl))
            (try simp only [Act.put, List.setIfInBounds_toArray, List.set_cons_zero, List.set_cons_succ])
            (repeat (refine wpSchL_yes (v := ?_) rfl (fun _ _ _ h => h) (by rfl) ?_ ?_; rotate_left; (next => (intro w hSw; obtain ⟨a0, a1, a2, a3, a4, a5, a6, a7, a8⟩ := spl_cells (RS.b hSw); obtain ⟨c0, c1, c2, c3, c4, c5, c6, c7⟩ := RM.own (RS.m hSw); obtain ⟨m0, m1, m2, m3, m4, m5, m6, m7⟩ := RM.own' (RS.m hSw); have cb := RM.best (RS.m hSw); clear hSw; go_simp; (try with_reducible rfl))); (try simp only [Act.put, List.setIfInBounds_toArray, List.set_cons_zero, List.set_cons_succ])))
            have m2 := HMB.out.m.own'.2.2.1
            have f2 := HMB.out.m.free 25
            have HMC := Lib.hid (HMB.out.put (y := { y with v := false, n := false, w := maxI mA mB }) (H := G) 25 (.int .u64 (maxI mA mB)) (by decide) (fun _ => rfl) rfl rfl rfl).drew
            refine wpSchL_one ?_
            refine wpOneL_call rfl (by rfl) (fun K hK => ?_)
            go_simp
            refine hK.out _ _ (fun h => absurd h (by decide)) (fun hHeld => ?_)
            clear hK K hHeld
            (try simp only [Act.put, List.setIfInBounds_toArray, List.set_cons_zero, List.set_cons_succ])
            clear m2 f2 HMB
            generalize World.drew _ = w5 at *
            refine wpSchL_nil ?_
            obtain ⟨m0, m1, m2, m3, m4, m5, m6, m7⟩ := HMC.out.m.own'
            clear m1 m2 m3 m4 m5 m6
            have f7 := HMC.out.m.free 30
            have HMD := Lib.hid (HMC.out.put (y := { y with v := false, n := false, w := maxI mA mB, k := 0 }) (H := G) 30 (.int .u64 0) (by decide) (fun _ => rfl) rfl rfl rfl)
            go_wp2
            go_end0
            exact ⟨⟨_, rfl⟩, by rw [HE.out]; have hm := HMC.out.m; rw [← HA.out, ← HB.out] at hm; exact hm, HMC.out.kp⟩
          · have HE : Hid (rmeM x true s = { y with v := false, n := false, w := maxI y.w y.k, k := 0 }) := Lib.hid (by rw [hy]; simp [rmeM, hv, hu, h3, resM])
            have e3 : (y.m != 3) = true := by rw [hy]; simp [h3]
            clear hv h3 hy hu
            go_enter Tryz.func47, Tryz.ntmps47
            go_upto_region 1 with fail
            generalize hw1 : World.alloc w _ = w1 at *
            have HM1 : Hid (RS w g k w.heap.size x G s w1) := HM
            clear HM hw1
            generalize w.heap.size = B at *
            obtain ⟨a0, a1, a2, a3, a4, a5, a6, a7, a8⟩ := spl_cells HM1.out.b
            obtain ⟨m0, m1, m2, m3, m4, m5, m6, m7⟩ := HM1.out.m.own'
            clear m0 m1 m2 m3 m6 m7 a0 a1 a2 a3 a4 a5 a7 a8
            rw [HV.out] at m4
            have f5 := HM1.out.m.free 28
            have HM2 : Hid (RS w g k B y G s (w1.setCell ⟨g, 28, none⟩ (.bool false))) := Lib.hid (by rw [HY.out]; exact HM1.out.put (y := { x with n := false }) (H := G) 28 (.bool false) (by decide) (fun _ => rfl) rfl rfl rfl)
            clear HM1
            go_upto_region 7 with fail
            refine wp_region_sch (RS w g k B y G s) [(true, 0), (true, 1), (true, 2), (true, 3), (true, 4), (true, 5), (true, 6)] (by kernel_rfl) (by kernel_rfl) (by kernel_rfl) (by kernel_rfl) HM2.out.drew ?_
            (repeat (first | (refine wpSch_yes (v := ?_) rfl (fun _ _ _ h => h) (by rfl) ?_ ?_; rotate_left; (next => (intro w hSw; obtain ⟨a0, a1, a2, a3, a4, a5, a6, a7, a8⟩ := spl_cells (RS.b hSw); obtain ⟨c0, c1, c2, c3, c4, c5, c6, c7⟩ := RM.own (RS.m hSw); obtain ⟨m0, m1, m2, m3, m4, m5, m6, m7⟩ := RM.own' (RS.m hSw); have cb := RM.best (RS.m hSw); clear hSw; go_simp; (try with_reducible rfl))); (try simp only [Act.put, List.setIfInBounds_toArray, List.set_cons_zero, List.set_cons_succ])) | (refine wpSch_no rfl (fun _ _ _ h => h) (by rfl) ?_; (try simp only [Act.put, List.setIfInBounds_toArray, List.set_cons_zero, List.set_cons_succ]))))
            refine wpSch_nil ?_
            have HM3 := Lib.hid HM2.out.drew
            clear HM2
            generalize World.drew _ = w3 at *
            obtain ⟨m0, m1, m2, m3, m4, m5, m6, m7⟩ := HM3.out.m.own'
            clear m0 m1 m2 m3 m6 m7
            have f4 := HM3.out.m.free 27
            have HMA := Lib.hid (HM3.out.put (y := { y with v := false }) (H := G) 27 (.bool false) (by decide) (fun _ => rfl) rfl rfl rfl)
            have n5 := HMA.out.m.own'.2.2.2.2.2.1
            have f5 := HMA.out.m.free 28
            have HMB := Lib.hid (HMA.out.put (y := { y with v := false, n := false }) (H := G) 28 (.bool false) (by decide) (fun _ => rfl) rfl rfl rfl)
            go_upto_region 9 with fail
            clear m4 m5 f4 n5 f5 HM3 HMA
            generalize World.setCell _ _ _ = w4 at *
            obtain ⟨mA, hmA⟩ : ∃ S, y.w = S := ⟨_, rfl⟩
            obtain ⟨mB, hmB⟩ : ∃ S, y.k = S := ⟨_, rfl⟩
            have HA := Lib.hid hmA
            have HB := Lib.hid hmB
            clear hmA hmB
            refine wp_region_late (RS w g k B { y with v := false, n := false } G s) [12] (.yes 0 (.yes 1 (.yes 2 (.yes 3 (.yes 4 (.yes 5 (.yes 6 (.yes 7 (.yes 8 (.yes 9 (.yes 10 (.yes 11 (.one 12 .nil))))))))))))) (by kernel_rfl) (by kernel_rfl) (by kernel_rfl) (by kernel_rfl) HMB.out.drew ?_
            iterate 9 (refine wpSchL_yes (v := ?_) rfl (fun _ _ _ h => h) (by rfl) ?_ ?_; rotate_left; (next => (intro w hSw; obtain ⟨a0, a1, a2, a3, a4, a5, a6, a7, a8⟩ := spl_cells (RS.b hSw); obtain ⟨c0, c1, c2, c3, c4, c5, c6, c7⟩ := RM.own (RS.m hSw); obtain ⟨m0, m1, m2, m3, m4, m5, m6, m7⟩ := RM.own' (RS.m hSw); have cb := RM.best (RS.m hSw); clear hSw; go_simp; (try with_reducible rfl))); (try simp only [Act.put, List.setIfInBounds_toArray, List.set_cons_zero, List.set_cons_succ]))
            rw [HA.out, HB.out]
            refine wpSchL_yes (v := .int .u64 (maxI mA mB)) rfl (fun _ _ _ h => h) (by rfl) ?_ ?_
            · (intro w hSw; clear hSw; rcases Int.lt_trichotomy mA mB with hl | hl | hl; (have hn : ¬ mB < mA := (by omega)); (rw [maxI_lt hl]); go_simp; (try with_reducible rfl); subst hl; (rw [maxI_ge (Int.lt_irrefl _)]); (have hn := Int.lt_irrefl mA); go_simp; (try with_reducible rfl); (have hn : ¬ mA < mB := (by omega)); (rw [maxI_ge hn]); go_simp; (try with_reducible rfl))
            (try simp only [Act.put, List.setIfInBounds_toArray, List.set_cons_zero, List.set_cons_succ])
            (repeat (refine wpSchL_yes (v := ?_) rfl (fun _ _ _ h => h) (by rfl) ?_ ?_; rotate_left; (next => (intro w hSw; obtain ⟨a0, a1, a2, a3, a4, a5, a6, a7, a8⟩ := spl_cells (RS.b hSw); obtain ⟨c0, c1, c2, c3, c4, c5, c6, c7⟩ := RM.own (RS.m hSw); obtain ⟨m0, m1, m2, m3, m4, m5, m6, m7⟩ := RM.own' (RS.m hSw); have cb := RM.best (RS.m hSw); clear hSw; go_simp; (try with_reducible rfl))); (try simp only [Act.put, List.setIfInBounds_toArray, List.set_cons_zero, List.set_cons_succ])))
            have m2 := HMB.out.m.own'.2.2.1
            have f2 := HMB.out.m.free 25
            have HMC := Lib.hid (HMB.out.put (y := { y with v := false, n := false, w := maxI mA mB }) (H := G) 25 (.int .u64 (maxI mA mB)) (by decide) (fun _ => rfl) rfl rfl rfl).drew
            refine wpSchL_one ?_
            refine wpOneL_call rfl (by rfl) (fun K hK => ?_)
            go_simp
            refine hK.out _ _ (fun h => absurd h (by decide)) (fun hHeld => ?_)
            clear hK K hHeld
            (try simp only [Act.put, List.setIfInBounds_toArray, List.set_cons_zero, List.set_cons_succ])
            clear m2 f2 HMB
            generalize World.drew _ = w5 at *
            refine wpSchL_nil ?_
            obtain ⟨m0, m1, m2, m3, m4, m5, m6, m7⟩ := HMC.out.m.own'
            clear m1 m2 m3 m4 m5 m6
            have f7 := HMC.out.m.free 30
            have HMD := Lib.hid (HMC.out.put (y := { y with v := false, n := false, w := maxI mA mB, k := 0 }) (H := G) 30 (.int .u64 0) (by decide) (fun _ => rfl) rfl rfl rfl)
            go_wp2
            go_end0
            exact ⟨⟨_, rfl⟩, by rw [HE.out]; have hm := HMD.out.m; rw [← HA.out, ← HB.out] at hm; exact hm, HMD.out.kp⟩
        · have hu' : decide (y.u ≤ s.d) = false := by rw [hy]; simp [hu]
          have HE : Hid (rmeM x true s = y) := Lib.hid (by rw [hy]; simp [rmeM, hv, hu])
          clear hv hy hu
          go_enter Tryz.func47, Tryz.ntmps47
          go_upto_region 1 with fail
          generalize hw1 : World.alloc w _ = w1 at *
          have HM1 : Hid (RS w g k w.heap.size x G s w1) := HM
          clear HM hw1
          generalize w.heap.size = B at *
          obtain ⟨a0, a1, a2, a3, a4, a5, a6, a7, a8⟩ := spl_cells HM1.out.b
          obtain ⟨m0, m1, m2, m3, m4, m5, m6, m7⟩ := HM1.out.m.own'
          clear m0 m1 m2 m3 m6 m7 a0 a1 a2 a3 a4 a5 a7 a8
          rw [HV.out] at m4
          have f5 := HM1.out.m.free 28
          have HM2 : Hid (RS w g k B y G s (w1.setCell ⟨g, 28, none⟩ (.bool false))) := Lib.hid (by rw [HY.out]; exact HM1.out.put (y := { x with n := false }) (H := G) 28 (.bool false) (by decide) (fun _ => rfl) rfl rfl rfl)
          clear HM1
          go_upto_region 7 with fail
          refine wp_region_sch (RS w g k B y G s) [(true, 0), (true, 1), (true, 2), (true, 3), (true, 4), (true, 5), (true, 6)] (by kernel_rfl) (by kernel_rfl) (by kernel_rfl) (by kernel_rfl) HM2.out.drew ?_
          (repeat (first | (refine wpSch_yes (v := ?_) rfl (fun _ _ _ h => h) (by rfl) ?_ ?_; rotate_left; (next => (intro w hSw; obtain ⟨a0, a1, a2, a3, a4, a5, a6, a7, a8⟩ := spl_cells (RS.b hSw); obtain ⟨c0, c1, c2, c3, c4, c5, c6, c7⟩ := RM.own (RS.m hSw); obtain ⟨m0, m1, m2, m3, m4, m5, m6, m7⟩ := RM.own' (RS.m hSw); have cb := RM.best (RS.m hSw); clear hSw; go_simp; (try with_reducible rfl))); (try simp only [Act.put, List.setIfInBounds_toArray, List.set_cons_zero, List.set_cons_succ])) | (refine wpSch_no rfl (fun _ _ _ h => h) (by rfl) ?_; (try simp only [Act.put, List.setIfInBounds_toArray, List.set_cons_zero, List.set_cons_succ]))))
          refine wpSch_nil ?_
          have HM3 := Lib.hid HM2.out.drew
          clear HM2
          generalize World.drew _ = w3 at *
          go_wp2
          go_end0
          exact ⟨⟨_, rfl⟩, by rw [HE.out]; exact HM3.out.m, HM3.out.kp⟩
end Go.Proofs.YtcjgpkjhfbamfaaGreat
