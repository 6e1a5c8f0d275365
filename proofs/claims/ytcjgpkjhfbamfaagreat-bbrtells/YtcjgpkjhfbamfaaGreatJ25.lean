/-
  Package bbr's fit: what it leaves. Conditions: the Model lies in memory as New makes it, be it inside a block; numbers are of 64 bits.
-/
import Derived.Test.YtcjgpkjhfbamfaaGreatJ24
set_option linter.unusedVariables false
set_option linter.unusedSimpArgs false
namespace Go.Proofs.YtcjgpkjhfbamfaaGreat
open Go.RowKit
set_option maxRecDepth 100000
variable {Fm : Fr} {oo : Nat}
theorem maxI_lt {a b : Int} (h : a < b) : maxI a b = b := if_pos h
theorem maxI_ge {a b : Int} (h : ¬ a < b) : maxI a b = a := if_neg h
set_option maxHeartbeats 4000000 in
theorem fit_any (g : Nat) (x : Mdl) (s : Spl) (tso : Int) (w : World) (h : MdlAt Fm oo w g x) (hf : x.Fit) (hs : s.Fit) (ht : Num tso) : Calls Tryz.prog 39 #[.pointer (some ⟨g, oo, none⟩), s.v, .int .u64 tso] w fun e w' => (∃ v, e = .returned v) ∧ MdlAt Fm oo w' g (fitM x s tso) ∧ Keep (fun k => k = g) w w' := by
  obtain ⟨y, hy⟩ : ∃ y, y = losM x s := ⟨_, rfl⟩
  obtain ⟨z, hz⟩ : ∃ z, z = ackM y s tso := ⟨_, rfl⟩
  obtain ⟨N, hN⟩ : ∃ N, y.n = N := ⟨_, rfl⟩
  have HY := Lib.hid hy
  have HFY : Hid y.Fit := Lib.hid (hy ▸ hf.los hs)
  have HFZ : Hid z.Fit := Lib.hid (hz ▸ HFY.out.ack hs ht.1)
  have HFI : Hid (fitM x s tso = finM z) := Lib.hid (by rw [hz, hy]; rfl)
  have HYN := Lib.hid hN
  have HWN := Lib.hid hf.w
  have HT := Lib.hid ht
  clear hy ht
  have HM := Lib.hid (SM.begin (s := s) h)
  have HF := Lib.hid hf
  have HS := Lib.hid hs
  clear h hf hs
  cases N
  · by_cases ha : 0 < s.a
    · have HZ : Hid (z = groM y s tso) := Lib.hid (by rw [hz]; simp [ackM, hN, ha])
      clear hz hN
      go_enter Tryz.func39, Tryz.ntmps39
      go_upto_region 1 with fail
      generalize hw1 : World.alloc w _ = w1 at *
      have HM1 : Hid (SM Fm oo w g w.heap.size x s w1) := HM
      clear HM hw1
      generalize w.heap.size = B at *
      obtain ⟨a0, a1, a2, a3, a4, a5, a6, a7, a8⟩ := HM1.out.spl
      clear a0 a1 a2 a3 a4 a5 a6 a7 a8
      obtain ⟨mA, hmA⟩ : ∃ L, satSub x.w s.o = L := ⟨_, rfl⟩
      obtain ⟨mB, hmB⟩ : ∃ S, x.s = S := ⟨_, rfl⟩
      have HB := Lib.hid hmB
      have HYL : Hid (mdlL y = (mdlL x).set 30 (.int .u64 (maxI mA mB))) := Lib.hid (by rw [HY.out, ← hmA, ← hmB]; rfl)
      have HL := Lib.hid hmA
      clear hmA hmB
      refine wp_region_late (SM Fm oo w g B x s) [15] (.yes 0 (.yes 1 (.yes 2 (.yes 3 (.yes 4 (.yes 5 (.yes 6 (.yes 8 (.yes 9 (.yes 10 (.yes 11 (.one 7 (.yes 12 (.yes 13 (.yes 14 (.one 15 .nil)))))))))))))))) (by kernel_rfl) (by kernel_rfl) (by kernel_rfl) (by kernel_rfl) HM1.out.drew ?_
      (repeat (refine wpSchL_yes (v := ?_) rfl (fun _ _ _ h => h) (by rfl) ?_ ?_; rotate_left; (next => (intro w hSw; obtain ⟨a0, a1, a2, a3, a4, a5, a6, a7, a8⟩ := SM.spl hSw; obtain ⟨m0, m1, m2, m3, m4, m5, m6, m7⟩ := MdlAt.own (SM.m hSw); clear hSw; go_simp; (try with_reducible rfl))); (try simp only [Act.put, List.setIfInBounds_toArray, List.set_cons_zero, List.set_cons_succ])))
      refine wpSchL_one ?_
      refine wpOneL_call rfl (by rfl) (fun K hK => ?_)
      go_simp
      refine (sub_any _ _ HWN.out.1 HWN.out.2 HS.out.o.1 HS.out.o.2 _).mono ?_
      rintro e w' ⟨rfl, rfl⟩
      rw [HL.out]
      refine hK.out _ _ (fun _ => HM1.out.drew) (fun hHeld => ?_)
      clear hK K hHeld
      (try simp only [Act.put, List.setIfInBounds_toArray, List.set_cons_zero, List.set_cons_succ])
      rw [HB.out]
      refine wpSchL_yes (v := .int .u64 (maxI mA mB)) rfl (fun _ _ _ h => h) (by rfl) ?_ ?_
      · (intro w hSw; clear hSw; rcases Int.lt_trichotomy mA mB with hl | hl | hl; (have hn : ¬ mB < mA := (by omega)); (rw [maxI_lt hl]); go_simp; (try with_reducible rfl); subst hl; (rw [maxI_ge (Int.lt_irrefl _)]); (have hn := Int.lt_irrefl mA); go_simp; (try with_reducible rfl); (have hn : ¬ mA < mB := (by omega)); (rw [maxI_ge hn]); go_simp; (try with_reducible rfl))
      (try simp only [Act.put, List.setIfInBounds_toArray, List.set_cons_zero, List.set_cons_succ])
      (repeat (refine wpSchL_yes (v := ?_) rfl (fun _ _ _ h => h) (by rfl) ?_ ?_; rotate_left; (next => (intro w hSw; obtain ⟨a0, a1, a2, a3, a4, a5, a6, a7, a8⟩ := SM.spl hSw; obtain ⟨m0, m1, m2, m3, m4, m5, m6, m7⟩ := MdlAt.own (SM.m hSw); clear hSw; go_simp; (try with_reducible rfl))); (try simp only [Act.put, List.setIfInBounds_toArray, List.set_cons_zero, List.set_cons_succ])))
      have c := Part.cell HM1.out.m 30
      have f := Part.free HM1.out.m 30
      have HM2 := Lib.hid (HM1.out.put (y := y) 30 (.int .u64 (maxI mA mB)) (e := HYL.out.symm)).drew
      refine wpSchL_one ?_
      refine wpOneL_call rfl (by rfl) (fun K hK => ?_)
      go_simp
      refine hK.out _ _ (fun h => absurd h (by decide)) (fun hHeld => ?_)
      clear hK K hHeld
      (try simp only [Act.put, List.setIfInBounds_toArray, List.set_cons_zero, List.set_cons_succ])
      clear c f HM1 HYL HL HB
      generalize World.drew _ = w2 at *
      refine wpSchL_nil ?_
      obtain ⟨m0, m1, m2, m3, m4, m5, m6, m7⟩ := HM2.out.m.own
      clear m0 m1 m2 m3 m4 m5 m6
      rw [HYN.out] at m7
      obtain ⟨a0, a1, a2, a3, a4, a5, a6, a7, a8⟩ := HM2.out.spl
      go_wp2_with fail
      refine (grow_any _ _ s tso _ HM2.out.m HFY.out HS.out HT.out).mono ?_
      rintro e w3 ⟨⟨_, rfl⟩, h3, k3⟩
      have HM3 : Hid (SM Fm oo w g B z s w3) := Lib.hid (by rw [HZ.out]; exact HM2.out.call h3 k3)
      clear h3 k3 a0 a1 a2 a3 a4 a5 a6 a7 a8 m7 HM2
      go_upto_region 6 with fail
      obtain ⟨mB, hmB⟩ : ∃ L, floorM z = L := ⟨_, rfl⟩
      obtain ⟨mA, hmA⟩ : ∃ S, z.w = S := ⟨_, rfl⟩
      have HB := Lib.hid hmA
      have HL := Lib.hid hmB
      clear hmA hmB
      refine wp_region_late (SM Fm oo w g B z s) [10] (.yes 0 (.yes 1 (.yes 2 (.yes 3 (.yes 4 (.yes 5 (.one 6 (.yes 7 (.yes 8 (.yes 9 (.one 10 .nil))))))))))) (by kernel_rfl) (by kernel_rfl) (by kernel_rfl) (by kernel_rfl) HM3.out.drew ?_
      (repeat (refine wpSchL_yes (v := ?_) rfl (fun _ _ _ h => h) (by rfl) ?_ ?_; rotate_left; (next => (intro w hSw; obtain ⟨a0, a1, a2, a3, a4, a5, a6, a7, a8⟩ := SM.spl hSw; obtain ⟨m0, m1, m2, m3, m4, m5, m6, m7⟩ := MdlAt.own (SM.m hSw); clear hSw; go_simp; (try with_reducible rfl))); (try simp only [Act.put, List.setIfInBounds_toArray, List.set_cons_zero, List.set_cons_succ])))
      refine wpSchL_one ?_
      refine wpOneL_call rfl (by rfl) (fun K hK => ?_)
      go_simp
      refine (floor_any _ _ _ HM3.out.drew.m HFZ.out).mono ?_
      rintro e w' ⟨rfl, rfl⟩
      rw [HL.out]
      refine hK.out _ _ (fun _ => HM3.out.drew) (fun hHeld => ?_)
      clear hK K hHeld
      (try simp only [Act.put, List.setIfInBounds_toArray, List.set_cons_zero, List.set_cons_succ])
      rw [HB.out]
      refine wpSchL_yes (v := .int .u64 (maxI mA mB)) rfl (fun _ _ _ h => h) (by rfl) ?_ ?_
      · (intro w hSw; clear hSw; rcases Int.lt_trichotomy mA mB with hl | hl | hl; (have hn : ¬ mB < mA := (by omega)); (rw [maxI_lt hl]); go_simp; (try with_reducible rfl); subst hl; (rw [maxI_ge (Int.lt_irrefl _)]); (have hn := Int.lt_irrefl mA); go_simp; (try with_reducible rfl); (have hn : ¬ mA < mB := (by omega)); (rw [maxI_ge hn]); go_simp; (try with_reducible rfl))
      (try simp only [Act.put, List.setIfInBounds_toArray, List.set_cons_zero, List.set_cons_succ])
      (repeat (refine wpSchL_yes (v := ?_) rfl (fun _ _ _ h => h) (by rfl) ?_ ?_; rotate_left; (next => (intro w hSw; obtain ⟨a0, a1, a2, a3, a4, a5, a6, a7, a8⟩ := SM.spl hSw; obtain ⟨m0, m1, m2, m3, m4, m5, m6, m7⟩ := MdlAt.own (SM.m hSw); clear hSw; go_simp; (try with_reducible rfl))); (try simp only [Act.put, List.setIfInBounds_toArray, List.set_cons_zero, List.set_cons_succ])))
      have c := Part.cell HM3.out.m 30
      have f := Part.free HM3.out.m 30
      have HM4 := Lib.hid (HM3.out.put (y := { z with w := maxI mA mB }) 30 (.int .u64 (maxI mA mB)) (e := rfl)).drew
      have HMA : Hid (maxI mA mB = maxI z.w (floorM z)) := Lib.hid (by rw [HB.out, HL.out])
      have HF4 : Hid (Mdl.Fit { z with w := maxI mA mB }) := Lib.hid { HFZ.out with w := by rw [HMA.out]; exact maxI_num HFZ.out.w (floorM_num HFZ.out) }
      refine wpSchL_one ?_
      refine wpOneL_call rfl (by rfl) (fun K hK => ?_)
      go_simp
      refine hK.out _ _ (fun h => absurd h (by decide)) (fun hHeld => ?_)
      clear hK K hHeld
      (try simp only [Act.put, List.setIfInBounds_toArray, List.set_cons_zero, List.set_cons_succ])
      clear c f HM3 HB
      generalize World.drew _ = w4 at *
      generalize maxI mA mB = X at *
      refine wpSchL_nil ?_
      have c : w4.cell? ⟨g, oo + 28, none⟩ = some (.int .i64 z.m) := Part.cell HM4.out.m 28
      have c1 : w4.cell? ⟨g, oo + 30, none⟩ = some (.int .u64 X) := Part.cell HM4.out.m 30
      have f1 := Part.free HM4.out.m 30
      by_cases h3 : z.m = 3
      · have e3 : (z.m == 3) = true := by simp [h3]
        have HE : Hid (fitM x s tso = { z with w := mB }) := Lib.hid (by rw [HFI.out]; simp [finM, h3, HL.out])
        have HFL : Hid (floorM { z with w := X } = mB) := Lib.hid HL.out
        clear h3
        go_wp2_with fail
        refine (floor_any _ _ _ HM4.out.m HF4.out).mono ?_
        rintro e w' ⟨rfl, rfl⟩
        rw [HFL.out]
        have HM5 := Lib.hid (HM4.out.put (y := { z with w := mB }) 30 (.int .u64 mB) (e := rfl))
        go_wp2
        go_end0
        exact ⟨⟨_, rfl⟩, by rw [HE.out]; exact HM5.out.m, HM5.out.k⟩
      · have e3 : (z.m == 3) = false := by simp [h3]
        have HE : Hid (fitM x s tso = { z with w := X }) := Lib.hid (by rw [HFI.out, HMA.out]; simp [finM, h3])
        clear h3
        go_wp2
        go_end0
        exact ⟨⟨_, rfl⟩, by rw [HE.out]; exact HM4.out.m, HM4.out.k⟩
    · have HZ : Hid (z = y) := Lib.hid (by rw [hz]; simp [ackM, hN, ha])
      have ha' : decide (0 < s.a) = false := by simp [ha]
      clear hz hN ha
      go_enter Tryz.func39, Tryz.ntmps39
      go_upto_region 1 with fail
      generalize hw1 : World.alloc w _ = w1 at *
      have HM1 : Hid (SM Fm oo w g w.heap.size x s w1) := HM
      clear HM hw1
      generalize w.heap.size = B at *
      obtain ⟨a0, a1, a2, a3, a4, a5, a6, a7, a8⟩ := HM1.out.spl
      clear a0 a1 a2 a3 a4 a5 a6 a7 a8
      obtain ⟨mA, hmA⟩ : ∃ L, satSub x.w s.o = L := ⟨_, rfl⟩
      obtain ⟨mB, hmB⟩ : ∃ S, x.s = S := ⟨_, rfl⟩
      have HB := Lib.hid hmB
      have HYL : Hid (mdlL y = (mdlL x).set 30 (.int .u64 (maxI mA mB))) := Lib.hid (by rw [HY.out, ← hmA, ← hmB]; rfl)
      have HL := Lib.hid hmA
      clear hmA hmB
      refine wp_region_late (SM Fm oo w g B x s) [15] (.yes 0 (.yes 1 (.yes 2 (.yes 3 (.yes 4 (.yes 5 (.yes 6 (.yes 8 (.yes 9 (.yes 10 (.yes 11 (.one 7 (.yes 12 (.yes 13 (.yes 14 (.one 15 .nil)))))))))))))))) (by kernel_rfl) (by kernel_rfl) (by kernel_rfl) (by kernel_rfl) HM1.out.drew ?_
      (repeat (refine wpSchL_yes (v := ?_) rfl (fun _ _ _ h => h) (by rfl) ?_ ?_; rotate_left; (next => (intro w hSw; obtain ⟨a0, a1, a2, a3, a4, a5, a6, a7, a8⟩ := SM.spl hSw; obtain ⟨m0, m1, m2, m3, m4, m5, m6, m7⟩ := MdlAt.own (SM.m hSw); clear hSw; go_simp; (try with_reducible rfl))); (try simp only [Act.put, List.setIfInBounds_toArray, List.set_cons_zero, List.set_cons_succ])))
      refine wpSchL_one ?_
      refine wpOneL_call rfl (by rfl) (fun K hK => ?_)
      go_simp
      refine (sub_any _ _ HWN.out.1 HWN.out.2 HS.out.o.1 HS.out.o.2 _).mono ?_
      rintro e w' ⟨rfl, rfl⟩
      rw [HL.out]
      refine hK.out _ _ (fun _ => HM1.out.drew) (fun hHeld => ?_)
      clear hK K hHeld
      (try simp only [Act.put, List.setIfInBounds_toArray, List.set_cons_zero, List.set_cons_succ])
      rw [HB.out]
      refine wpSchL_yes (v := .int .u64 (maxI mA mB)) rfl (fun _ _ _ h => h) (by rfl) ?_ ?_
      · (intro w hSw; clear hSw; rcases Int.lt_trichotomy mA mB with hl | hl | hl; (have hn : ¬ mB < mA := (by omega)); (rw [maxI_lt hl]); go_simp; (try with_reducible rfl); subst hl; (rw [maxI_ge (Int.lt_irrefl _)]); (have hn := Int.lt_irrefl mA); go_simp; (try with_reducible rfl); (have hn : ¬ mA < mB := (by omega)); (rw [maxI_ge hn]); go_simp; (try with_reducible rfl))
      (try simp only [Act.put, List.setIfInBounds_toArray, List.set_cons_zero, List.set_cons_succ])
      (repeat (refine wpSchL_yes (v := ?_) rfl (fun _ _ _ h => h) (by rfl) ?_ ?_; rotate_left; (next => (intro w hSw; obtain ⟨a0, a1, a2, a3, a4, a5, a6, a7, a8⟩ := SM.spl hSw; obtain ⟨m0, m1, m2, m3, m4, m5, m6, m7⟩ := MdlAt.own (SM.m hSw); clear hSw; go_simp; (try with_reducible rfl))); (try simp only [Act.put, List.setIfInBounds_toArray, List.set_cons_zero, List.set_cons_succ])))
      have c := Part.cell HM1.out.m 30
      have f := Part.free HM1.out.m 30
      have HM2 := Lib.hid (HM1.out.put (y := y) 30 (.int .u64 (maxI mA mB)) (e := HYL.out.symm)).drew
      refine wpSchL_one ?_
      refine wpOneL_call rfl (by rfl) (fun K hK => ?_)
      go_simp
      refine hK.out _ _ (fun h => absurd h (by decide)) (fun hHeld => ?_)
      clear hK K hHeld
      (try simp only [Act.put, List.setIfInBounds_toArray, List.set_cons_zero, List.set_cons_succ])
      clear c f HM1 HYL HL HB
      generalize World.drew _ = w2 at *
      refine wpSchL_nil ?_
      obtain ⟨m0, m1, m2, m3, m4, m5, m6, m7⟩ := HM2.out.m.own
      clear m0 m1 m2 m3 m4 m5 m6
      rw [HYN.out] at m7
      obtain ⟨a0, a1, a2, a3, a4, a5, a6, a7, a8⟩ := HM2.out.spl
      clear a0 a1 a2 a3 a4 a6 a7 a8
      have HM3 : Hid (SM Fm oo w g B z s w2) := Lib.hid (by rw [HZ.out]; exact HM2.out)
      go_upto_region 6 with fail
      obtain ⟨mB, hmB⟩ : ∃ L, floorM z = L := ⟨_, rfl⟩
      obtain ⟨mA, hmA⟩ : ∃ S, z.w = S := ⟨_, rfl⟩
      have HB := Lib.hid hmA
      have HL := Lib.hid hmB
      clear hmA hmB
      refine wp_region_late (SM Fm oo w g B z s) [10] (.yes 0 (.yes 1 (.yes 2 (.yes 3 (.yes 4 (.yes 5 (.one 6 (.yes 7 (.yes 8 (.yes 9 (.one 10 .nil))))))))))) (by kernel_rfl) (by kernel_rfl) (by kernel_rfl) (by kernel_rfl) HM3.out.drew ?_
      (repeat (refine wpSchL_yes (v := ?_) rfl (fun _ _ _ h => h) (by rfl) ?_ ?_; rotate_left; (next => (intro w hSw; obtain ⟨a0, a1, a2, a3, a4, a5, a6, a7, a8⟩ := SM.spl hSw; obtain ⟨m0, m1, m2, m3, m4, m5, m6, m7⟩ := MdlAt.own (SM.m hSw); clear hSw; go_simp; (try with_reducible rfl))); (try simp only [Act.put, List.setIfInBounds_toArray, List.set_cons_zero, List.set_cons_succ])))
      refine wpSchL_one ?_
      refine wpOneL_call rfl (by rfl) (fun K hK => ?_)
      go_simp
      refine (floor_any _ _ _ HM3.out.drew.m HFZ.out).mono ?_
      rintro e w' ⟨rfl, rfl⟩
      rw [HL.out]
      refine hK.out _ _ (fun _ => HM3.out.drew) (fun hHeld => ?_)
      clear hK K hHeld
      (try simp only [Act.put, List.setIfInBounds_toArray, List.set_cons_zero, List.set_cons_succ])
      rw [HB.out]
      refine wpSchL_yes (v := .int .u64 (maxI mA mB)) rfl (fun _ _ _ h => h) (by rfl) ?_ ?_
      · (intro w hSw; clear hSw; rcases Int.lt_trichotomy mA mB with hl | hl | hl; (have hn : ¬ mB < mA := (by omega)); (rw [maxI_lt hl]); go_simp; (try with_reducible rfl); subst hl; (rw [maxI_ge (Int.lt_irrefl _)]); (have hn := Int.lt_irrefl mA); go_simp; (try with_reducible rfl); (have hn : ¬ mA < mB := (by omega)); (rw [maxI_ge hn]); go_simp; (try with_reducible rfl))
      (try simp only [Act.put, List.setIfInBounds_toArray, List.set_cons_zero, List.set_cons_succ])
      (repeat (refine wpSchL_yes (v := ?_) rfl (fun _ _ _ h => h) (by rfl) ?_ ?_; rotate_left; (next => (intro w hSw; obtain ⟨a0, a1, a2, a3, a4, a5, a6, a7, a8⟩ := SM.spl hSw; obtain ⟨m0, m1, m2, m3, m4, m5, m6, m7⟩ := MdlAt.own (SM.m hSw); clear hSw; go_simp; (try with_reducible rfl))); (try simp only [Act.put, List.setIfInBounds_toArray, List.set_cons_zero, List.set_cons_succ])))
      have c := Part.cell HM3.out.m 30
      have f := Part.free HM3.out.m 30
      have HM4 := Lib.hid (HM3.out.put (y := { z with w := maxI mA mB }) 30 (.int .u64 (maxI mA mB)) (e := rfl)).drew
      have HMA : Hid (maxI mA mB = maxI z.w (floorM z)) := Lib.hid (by rw [HB.out, HL.out])
      have HF4 : Hid (Mdl.Fit { z with w := maxI mA mB }) := Lib.hid { HFZ.out with w := by rw [HMA.out]; exact maxI_num HFZ.out.w (floorM_num HFZ.out) }
      refine wpSchL_one ?_
      refine wpOneL_call rfl (by rfl) (fun K hK => ?_)
      go_simp
      refine hK.out _ _ (fun h => absurd h (by decide)) (fun hHeld => ?_)
      clear hK K hHeld
      (try simp only [Act.put, List.setIfInBounds_toArray, List.set_cons_zero, List.set_cons_succ])
      clear c f HM3 HB
      generalize World.drew _ = w4 at *
      generalize maxI mA mB = X at *
      refine wpSchL_nil ?_
      have c : w4.cell? ⟨g, oo + 28, none⟩ = some (.int .i64 z.m) := Part.cell HM4.out.m 28
      have c1 : w4.cell? ⟨g, oo + 30, none⟩ = some (.int .u64 X) := Part.cell HM4.out.m 30
      have f1 := Part.free HM4.out.m 30
      by_cases h3 : z.m = 3
      · have e3 : (z.m == 3) = true := by simp [h3]
        have HE : Hid (fitM x s tso = { z with w := mB }) := Lib.hid (by rw [HFI.out]; simp [finM, h3, HL.out])
        have HFL : Hid (floorM { z with w := X } = mB) := Lib.hid HL.out
        clear h3
        go_wp2_with fail
        refine (floor_any _ _ _ HM4.out.m HF4.out).mono ?_
        rintro e w' ⟨rfl, rfl⟩
        rw [HFL.out]
        have HM5 := Lib.hid (HM4.out.put (y := { z with w := mB }) 30 (.int .u64 mB) (e := rfl))
        go_wp2
        go_end0
        exact ⟨⟨_, rfl⟩, by rw [HE.out]; exact HM5.out.m, HM5.out.k⟩
      · have e3 : (z.m == 3) = false := by simp [h3]
        have HE : Hid (fitM x s tso = { z with w := X }) := Lib.hid (by rw [HFI.out, HMA.out]; simp [finM, h3])
        clear h3
        go_wp2
        go_end0
        exact ⟨⟨_, rfl⟩, by rw [HE.out]; exact HM4.out.m, HM4.out.k⟩
  · have HZ : Hid (z = { y with w := maxI y.w (satAdd s.f s.a) }) := Lib.hid (by rw [hz]; simp [ackM, hN])
    clear hz hN
    go_enter Tryz.func39, Tryz.ntmps39
    go_upto_region 1 with fail
    generalize hw1 : World.alloc w _ = w1 at *
    have HM1 : Hid (SM Fm oo w g w.heap.size x s w1) := HM
    clear HM hw1
    generalize w.heap.size = B at *
    obtain ⟨a0, a1, a2, a3, a4, a5, a6, a7, a8⟩ := HM1.out.spl
    clear a0 a1 a2 a3 a4 a5 a6 a7 a8
    obtain ⟨mA, hmA⟩ : ∃ L, satSub x.w s.o = L := ⟨_, rfl⟩
    obtain ⟨mB, hmB⟩ : ∃ S, x.s = S := ⟨_, rfl⟩
    have HB := Lib.hid hmB
    have HYL : Hid (mdlL y = (mdlL x).set 30 (.int .u64 (maxI mA mB))) := Lib.hid (by rw [HY.out, ← hmA, ← hmB]; rfl)
    have HL := Lib.hid hmA
    clear hmA hmB
    refine wp_region_late (SM Fm oo w g B x s) [15] (.yes 0 (.yes 1 (.yes 2 (.yes 3 (.yes 4 (.yes 5 (.yes 6 (.yes 8 (.yes 9 (.yes 10 (.yes 11 (.one 7 (.yes 12 (.yes 13 (.yes 14 (.one 15 .nil)))))))))))))))) (by kernel_rfl) (by kernel_rfl) (by kernel_rfl) (by kernel_rfl) HM1.out.drew ?_
    (repeat (refine wpSchL_yes (v := ?_) rfl (fun _ _ _ h => h) (by rfl) ?_ ?_; rotate_left; (next => (intro w hSw; obtain ⟨a0, a1, a2, a3, a4, a5, a6, a7, a8⟩ := SM.spl hSw; obtain ⟨m0, m1, m2, m3, m4, m5, m6, m7⟩ := MdlAt.own (SM.m hSw); clear hSw; go_simp; (try with_reducible rfl))); (try simp only [Act.put, List.setIfInBounds_toArray, List.set_cons_zero, List.set_cons_succ])))
    refine wpSchL_one ?_
    refine wpOneL_call rfl (by rfl) (fun K hK => ?_)
    go_simp
    refine (sub_any _ _ HWN.out.1 HWN.out.2 HS.out.o.1 HS.out.o.2 _).mono ?_
    rintro e w' ⟨rfl, rfl⟩
    rw [HL.out]
    refine hK.out _ _ (fun _ => HM1.out.drew) (fun hHeld => ?_)
    clear hK K hHeld
    (try simp only [Act.put, List.setIfInBounds_toArray, List.set_cons_zero, List.set_cons_succ])
    rw [HB.out]
    refine wpSchL_yes (v := .int .u64 (maxI mA mB)) rfl (fun _ _ _ h => h) (by rfl) ?_ ?_
    · (intro w hSw; clear hSw; rcases Int.lt_trichotomy mA mB with hl | hl | hl; (have hn : ¬ mB < mA := (by omega)); (rw [maxI_lt hl]); go_simp; (try with_reducible rfl); subst hl; (rw [maxI_ge (Int.lt_irrefl _)]); (have hn := Int.lt_irrefl mA); go_simp; (try with_reducible rfl); (have hn : ¬ mA < mB := (by omega)); (rw [maxI_ge hn]); go_simp; (try with_reducible rfl))
    (try simp only [Act.put, List.setIfInBounds_toArray, List.set_cons_zero, List.set_cons_succ])
    (repeat (refine wpSchL_yes (v := ?_) rfl (fun _ _ _ h => h) (by rfl) ?_ ?_; rotate_left; (next => (intro w hSw; obtain ⟨a0, a1, a2, a3, a4, a5, a6, a7, a8⟩ := SM.spl hSw; obtain ⟨m0, m1, m2, m3, m4, m5, m6, m7⟩ := MdlAt.own (SM.m hSw); clear hSw; go_simp; (try with_reducible rfl))); (try simp only [Act.put, List.setIfInBounds_toArray, List.set_cons_zero, List.set_cons_succ])))
    have c := Part.cell HM1.out.m 30
    have f := Part.free HM1.out.m 30
    have HM2 := Lib.hid (HM1.out.put (y := y) 30 (.int .u64 (maxI mA mB)) (e := HYL.out.symm)).drew
    refine wpSchL_one ?_
    refine wpOneL_call rfl (by rfl) (fun K hK => ?_)
    go_simp
    refine hK.out _ _ (fun h => absurd h (by decide)) (fun hHeld => ?_)
    clear hK K hHeld
    (try simp only [Act.put, List.setIfInBounds_toArray, List.set_cons_zero, List.set_cons_succ])
    clear c f HM1 HYL HL HB
    generalize World.drew _ = w2 at *
    refine wpSchL_nil ?_
    obtain ⟨m0, m1, m2, m3, m4, m5, m6, m7⟩ := HM2.out.m.own
    clear m0 m1 m2 m3 m4 m5 m6
    rw [HYN.out] at m7
    go_upto_region 3 with fail
    clear m7
    obtain ⟨mB, hmB⟩ : ∃ L, satAdd s.f s.a = L := ⟨_, rfl⟩
    obtain ⟨mA, hmA⟩ : ∃ S, y.w = S := ⟨_, rfl⟩
    have HB := Lib.hid hmA
    have HZL : Hid (mdlL z = (mdlL y).set 30 (.int .u64 (maxI mA mB))) := Lib.hid (by rw [HZ.out, ← hmA, ← hmB]; rfl)
    have HL := Lib.hid hmB
    clear hmA hmB
    refine wp_region_late (SM Fm oo w g B y s) [13] (.yes 0 (.yes 1 (.yes 2 (.yes 3 (.yes 4 (.yes 5 (.yes 6 (.yes 7 (.yes 8 (.one 9 (.yes 10 (.yes 11 (.yes 12 (.one 13 .nil)))))))))))))) (by kernel_rfl) (by kernel_rfl) (by kernel_rfl) (by kernel_rfl) HM2.out.drew ?_
    (repeat (refine wpSchL_yes (v := ?_) rfl (fun _ _ _ h => h) (by rfl) ?_ ?_; rotate_left; (next => (intro w hSw; obtain ⟨a0, a1, a2, a3, a4, a5, a6, a7, a8⟩ := SM.spl hSw; obtain ⟨m0, m1, m2, m3, m4, m5, m6, m7⟩ := MdlAt.own (SM.m hSw); clear hSw; go_simp; (try with_reducible rfl))); (try simp only [Act.put, List.setIfInBounds_toArray, List.set_cons_zero, List.set_cons_succ])))
    refine wpSchL_one ?_
    refine wpOneL_call rfl (by rfl) (fun K hK => ?_)
    go_simp
    refine (add_any _ _ HS.out.f.1 HS.out.f.2 HS.out.a.1 HS.out.a.2 _).mono ?_
    rintro e w' ⟨rfl, rfl⟩
    rw [HL.out]
    refine hK.out _ _ (fun _ => HM2.out.drew) (fun hHeld => ?_)
    clear hK K hHeld
    (try simp only [Act.put, List.setIfInBounds_toArray, List.set_cons_zero, List.set_cons_succ])
    rw [HB.out]
    refine wpSchL_yes (v := .int .u64 (maxI mA mB)) rfl (fun _ _ _ h => h) (by rfl) ?_ ?_
    · (intro w hSw; clear hSw; rcases Int.lt_trichotomy mA mB with hl | hl | hl; (have hn : ¬ mB < mA := (by omega)); (rw [maxI_lt hl]); go_simp; (try with_reducible rfl); subst hl; (rw [maxI_ge (Int.lt_irrefl _)]); (have hn := Int.lt_irrefl mA); go_simp; (try with_reducible rfl); (have hn : ¬ mA < mB := (by omega)); (rw [maxI_ge hn]); go_simp; (try with_reducible rfl))
    (try simp only [Act.put, List.setIfInBounds_toArray, List.set_cons_zero, List.set_cons_succ])
    (repeat (refine wpSchL_yes (v := ?_) rfl (fun _ _ _ h => h) (by rfl) ?_ ?_; rotate_left; (next => (intro w hSw; obtain ⟨a0, a1, a2, a3, a4, a5, a6, a7, a8⟩ := SM.spl hSw; obtain ⟨m0, m1, m2, m3, m4, m5, m6, m7⟩ := MdlAt.own (SM.m hSw); clear hSw; go_simp; (try with_reducible rfl))); (try simp only [Act.put, List.setIfInBounds_toArray, List.set_cons_zero, List.set_cons_succ])))
    have c := Part.cell HM2.out.m 30
    have f := Part.free HM2.out.m 30
    have HM3 := Lib.hid (HM2.out.put (y := z) 30 (.int .u64 (maxI mA mB)) (e := HZL.out.symm)).drew
    refine wpSchL_one ?_
    refine wpOneL_call rfl (by rfl) (fun K hK => ?_)
    go_simp
    refine hK.out _ _ (fun h => absurd h (by decide)) (fun hHeld => ?_)
    clear hK K hHeld
    (try simp only [Act.put, List.setIfInBounds_toArray, List.set_cons_zero, List.set_cons_succ])
    clear c f HM2 HZL HL HB
    generalize World.drew _ = w3 at *
    refine wpSchL_nil ?_
    go_upto_region 6 with fail
    obtain ⟨mB, hmB⟩ : ∃ L, floorM z = L := ⟨_, rfl⟩
    obtain ⟨mA, hmA⟩ : ∃ S, z.w = S := ⟨_, rfl⟩
    have HB := Lib.hid hmA
    have HL := Lib.hid hmB
    clear hmA hmB
    refine wp_region_late (SM Fm oo w g B z s) [10] (.yes 0 (.yes 1 (.yes 2 (.yes 3 (.yes 4 (.yes 5 (.one 6 (.yes 7 (.yes 8 (.yes 9 (.one 10 .nil))))))))))) (by kernel_rfl) (by kernel_rfl) (by kernel_rfl) (by kernel_rfl) HM3.out.drew ?_
    (repeat (refine wpSchL_yes (v := ?_) rfl (fun _ _ _ h => h) (by rfl) ?_ ?_; rotate_left; (next => (intro w hSw; obtain ⟨a0, a1, a2, a3, a4, a5, a6, a7, a8⟩ := SM.spl hSw; obtain ⟨m0, m1, m2, m3, m4, m5, m6, m7⟩ := MdlAt.own (SM.m hSw); clear hSw; go_simp; (try with_reducible rfl))); (try simp only [Act.put, List.setIfInBounds_toArray, List.set_cons_zero, List.set_cons_succ])))
    refine wpSchL_one ?_
    refine wpOneL_call rfl (by rfl) (fun K hK => ?_)
    go_simp
    refine (floor_any _ _ _ HM3.out.drew.m HFZ.out).mono ?_
    rintro e w' ⟨rfl, rfl⟩
    rw [HL.out]
    refine hK.out _ _ (fun _ => HM3.out.drew) (fun hHeld => ?_)
    clear hK K hHeld
    (try simp only [Act.put, List.setIfInBounds_toArray, List.set_cons_zero, List.set_cons_succ])
    rw [HB.out]
    refine wpSchL_yes (v := .int .u64 (maxI mA mB)) rfl (fun _ _ _ h => h) (by rfl) ?_ ?_
    · (intro w hSw; clear hSw; rcases Int.lt_trichotomy mA mB with hl | hl | hl; (have hn : ¬ mB < mA := (by omega)); (rw [maxI_lt hl]); go_simp; (try with_reducible rfl); subst hl; (rw [maxI_ge (Int.lt_irrefl _)]); (have hn := Int.lt_irrefl mA); go_simp; (try with_reducible rfl); (have hn : ¬ mA < mB := (by omega)); (rw [maxI_ge hn]); go_simp; (try with_reducible rfl))
    (try simp only [Act.put, List.setIfInBounds_toArray, List.set_cons_zero, List.set_cons_succ])
    (repeat (refine wpSchL_yes (v := ?_) rfl (fun _ _ _ h => h) (by rfl) ?_ ?_; rotate_left; (next => (intro w hSw; obtain ⟨a0, a1, a2, a3, a4, a5, a6, a7, a8⟩ := SM.spl hSw; obtain ⟨m0, m1, m2, m3, m4, m5, m6, m7⟩ := MdlAt.own (SM.m hSw); clear hSw; go_simp; (try with_reducible rfl))); (try simp only [Act.put, List.setIfInBounds_toArray, List.set_cons_zero, List.set_cons_succ])))
    have c := Part.cell HM3.out.m 30
    have f := Part.free HM3.out.m 30
    have HM4 := Lib.hid (HM3.out.put (y := { z with w := maxI mA mB }) 30 (.int .u64 (maxI mA mB)) (e := rfl)).drew
    have HMA : Hid (maxI mA mB = maxI z.w (floorM z)) := Lib.hid (by rw [HB.out, HL.out])
    have HF4 : Hid (Mdl.Fit { z with w := maxI mA mB }) := Lib.hid { HFZ.out with w := by rw [HMA.out]; exact maxI_num HFZ.out.w (floorM_num HFZ.out) }
    refine wpSchL_one ?_
    refine wpOneL_call rfl (by rfl) (fun K hK => ?_)
    go_simp
    refine hK.out _ _ (fun h => absurd h (by decide)) (fun hHeld => ?_)
    clear hK K hHeld
    (try simp only [Act.put, List.setIfInBounds_toArray, List.set_cons_zero, List.set_cons_succ])
    clear c f HM3 HB
    generalize World.drew _ = w4 at *
    generalize maxI mA mB = X at *
    refine wpSchL_nil ?_
    have c : w4.cell? ⟨g, oo + 28, none⟩ = some (.int .i64 z.m) := Part.cell HM4.out.m 28
    have c1 : w4.cell? ⟨g, oo + 30, none⟩ = some (.int .u64 X) := Part.cell HM4.out.m 30
    have f1 := Part.free HM4.out.m 30
    by_cases h3 : z.m = 3
    · have e3 : (z.m == 3) = true := by simp [h3]
      have HE : Hid (fitM x s tso = { z with w := mB }) := Lib.hid (by rw [HFI.out]; simp [finM, h3, HL.out])
      have HFL : Hid (floorM { z with w := X } = mB) := Lib.hid HL.out
      clear h3
      go_wp2_with fail
      refine (floor_any _ _ _ HM4.out.m HF4.out).mono ?_
      rintro e w' ⟨rfl, rfl⟩
      rw [HFL.out]
      have HM5 := Lib.hid (HM4.out.put (y := { z with w := mB }) 30 (.int .u64 mB) (e := rfl))
      go_wp2
      go_end0
      exact ⟨⟨_, rfl⟩, by rw [HE.out]; exact HM5.out.m, HM5.out.k⟩
    · have e3 : (z.m == 3) = false := by simp [h3]
      have HE : Hid (fitM x s tso = { z with w := X }) := Lib.hid (by rw [HFI.out, HMA.out]; simp [finM, h3])
      clear h3
      go_wp2
      go_end0
      exact ⟨⟨_, rfl⟩, by rw [HE.out]; exact HM4.out.m, HM4.out.k⟩
end Go.Proofs.YtcjgpkjhfbamfaaGreat
