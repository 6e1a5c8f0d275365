/-
  The document's own model: window (step 8): what it leaves. Conditions: numbers are of 64 bits; the gain is the window's.
-/
import Derived.Test.YtcjgpkjhfbamfaaGreatJ23
import Derived.Test.YtcjgpkjhfbamfaaGreatJ25
import Derived.Test.YtcjgpkjhfbamfaaGreatJ26
set_option linter.unusedVariables false
set_option linter.unusedSimpArgs false
namespace Go.Proofs.YtcjgpkjhfbamfaaGreat
open Go.RowKit
set_option maxRecDepth 100000
theorem minI_lt {a b : Int} (h : a < b) : minI a b = a := if_pos h
theorem minI_ge {a b : Int} (h : ¬ a < b) : minI a b = b := if_neg h
set_option maxHeartbeats 8000000 in
set_option maxRecDepth 100000 in
theorem window_any (g k : Nat) (x : Mdl) (G : Int) (s : Spl) (tso gn : Int) (w : World) (h : RM w g k x G) (hf : x.Fit) (hs : s.Fit) (ht : Num tso) (hgn : roomM x = gn) : Calls Tryz.prog 48 #[.pointer (some ⟨g, 0, none⟩), s.v, .int .u64 tso, .int .u64 gn] w fun e w' => (∃ v, e = .returned v) ∧ RM w' g k (fitM x s tso) G ∧ Keep (own2 g k) w w' := by
  obtain ⟨y, hy⟩ : ∃ y, y = losM x s := ⟨_, rfl⟩
  obtain ⟨z, hz⟩ : ∃ z, z = ackM y s tso := ⟨_, rfl⟩
  obtain ⟨N, hN⟩ : ∃ N, y.n = N := ⟨_, rfl⟩
  obtain ⟨FU, hFU⟩ : ∃ b, fullP y.p = b := ⟨_, rfl⟩
  obtain ⟨W, hW⟩ : ∃ W, wantM y tso = W := ⟨_, rfl⟩
  have HY := Lib.hid hy
  have HFY : Hid y.Fit := Lib.hid (hy ▸ hf.los hs)
  have HFZ : Hid z.Fit := Lib.hid (hz ▸ HFY.out.ack hs ht.1)
  have HFI : Hid (fitM x s tso = finM z) := Lib.hid (by rw [hz, hy]; rfl)
  have HYN := Lib.hid hN
  have HFU := Lib.hid hFU
  have HWN := Lib.hid hf.w
  have HYW := Lib.hid HFY.out.w
  have HBN := Lib.hid (bwM_num HFY.out)
  have HQN := Lib.hid HFY.out.q.b
  have HRN : Hid (Num gn) := Lib.hid (hgn ▸ roomM_num)
  have HTN := Lib.hid ht
  have HSN := Lib.hid HFY.out.mss
  have HW : Hid (winV (bwM y) y.q.b gn tso y.s = W) := Lib.hid (by rw [← hW, ← hgn, hy]; rfl)
  have hw10 : IntKind.u64.wrap (10 * y.s) = 10 * y.s := by have := HFY.out.s0; have := HFY.out.s1; rw [IntKind.wrap_u64]; omega
  have h10 : satMul 10 y.s = 10 * y.s := by have := HFY.out.s0; have := HFY.out.s1; unfold satMul; rw [if_pos (by omega)]
  clear hy ht hgn
  have HM := Lib.hid (RS.begin (s := s) h)
  have HF := Lib.hid hf
  have HS := Lib.hid hs
  clear h hf hs
  cases N
  · by_cases ha : s.a = 0
    · have HZ : Hid (z = y) := Lib.hid (by rw [hz]; simp [ackM, hN, ha])
      have ha' : (s.a == 0) = true := by simp [ha]
      clear hz hN hW h10 hFU ha
      go_enter Tryz.func48, Tryz.ntmps48
      go_upto_region 1 with fail
      generalize hw1 : World.alloc w _ = w1 at *
      have HM1 : Hid (RS w g k w.heap.size x G s w1) := HM
      clear HM hw1
      generalize w.heap.size = B at *
      obtain ⟨mA, hmA⟩ : ∃ L, satSub x.w s.o = L := ⟨_, rfl⟩
      obtain ⟨mB, hmB⟩ : ∃ S, x.s = S := ⟨_, rfl⟩
      have HB := Lib.hid hmB
      have HL := Lib.hid hmA
      have HYL : Hid (y = { x with w := maxI mA mB }) := Lib.hid (by rw [HY.out, ← hmA, ← hmB]; rfl)
      clear hmA hmB
      refine wp_region_late (RS w g k B x G s) [15] (.yes 0 (.yes 1 (.yes 2 (.yes 3 (.yes 4 (.yes 5 (.yes 6 (.yes 8 (.yes 9 (.yes 10 (.yes 11 (.one 7 (.yes 12 (.yes 13 (.yes 14 (.one 15 .nil)))))))))))))))) (by kernel_rfl) (by kernel_rfl) (by kernel_rfl) (by kernel_rfl) HM1.out.drew ?_
      (repeat (refine wpSchL_yes (v := ?_) rfl (fun _ _ _ h => h) (by rfl) ?_ ?_; rotate_left; (next => (intro w hSw; obtain ⟨a0, a1, a2, a3, a4, a5, a6, a7, a8⟩ := spl_cells (RS.b hSw); obtain ⟨c0, c1, c2, c3, c4, c5, c6, c7⟩ := RM.own (RS.m hSw); obtain ⟨m0, m1, m2, m3, m4, m5, m6, m7⟩ := RM.own' (RS.m hSw); have cb := RM.best (RS.m hSw); clear hSw; go_simp; (try with_reducible rfl))); (try simp only [Act.put, List.setIfInBounds_toArray, List.set_cons_zero, List.set_cons_succ])))
      refine wpSchL_one ?_
      refine wpOneL_call rfl (by rfl) (fun K hK => ?_)
      go_simp
      refine (rsub_any _ _ HWN.out.1 HWN.out.2 HS.out.o.1 HS.out.o.2 _).mono ?_
      rintro e w' ⟨rfl, rfl⟩
      rw [HL.out]
      refine hK.out _ _ (fun _ => HM1.out.drew) (fun hHeld => ?_)
      clear hK K hHeld
      (try simp only [Act.put, List.setIfInBounds_toArray, List.set_cons_zero, List.set_cons_succ])
      rw [HB.out]
      refine wpSchL_yes (v := .int .u64 (maxI mA mB)) rfl (fun _ _ _ h => h) (by rfl) ?_ ?_
      · (intro w hSw; clear hSw; rcases Int.lt_trichotomy mA mB with hl | hl | hl; (have hn : ¬ mB < mA := (by omega)); (rw [maxI_lt hl]); go_simp; (try with_reducible rfl); subst hl; (rw [maxI_ge (Int.lt_irrefl _)]); (have hn := Int.lt_irrefl mA); go_simp; (try with_reducible rfl); (have hn : ¬ mA < mB := (by omega)); (rw [maxI_ge hn]); go_simp; (try with_reducible rfl))
      (try simp only [Act.put, List.setIfInBounds_toArray, List.set_cons_zero, List.set_cons_succ])
      (repeat (refine wpSchL_yes (v := ?_) rfl (fun _ _ _ h => h) (by rfl) ?_ ?_; rotate_left; (next => (intro w hSw; obtain ⟨a0, a1, a2, a3, a4, a5, a6, a7, a8⟩ := spl_cells (RS.b hSw); obtain ⟨c0, c1, c2, c3, c4, c5, c6, c7⟩ := RM.own (RS.m hSw); obtain ⟨m0, m1, m2, m3, m4, m5, m6, m7⟩ := RM.own' (RS.m hSw); have cb := RM.best (RS.m hSw); clear hSw; go_simp; (try with_reducible rfl))); (try simp only [Act.put, List.setIfInBounds_toArray, List.set_cons_zero, List.set_cons_succ])))
      have m2 := HM1.out.m.own'.2.2.1
      have f2 := HM1.out.m.free 25
      have HM2 : Hid (RS w g k B y G s ((w1.setCell ⟨g, 25, none⟩ (.int .u64 (maxI mA mB))).drew)) := Lib.hid (by rw [HYL.out]; exact (HM1.out.put (y := { x with w := maxI mA mB }) (H := G) 25 (.int .u64 (maxI mA mB)) (by decide) (fun _ => rfl) rfl rfl rfl).drew)
      refine wpSchL_one ?_
      refine wpOneL_call rfl (by rfl) (fun K hK => ?_)
      go_simp
      refine hK.out _ _ (fun h => absurd h (by decide)) (fun hHeld => ?_)
      clear hK K hHeld
      (try simp only [Act.put, List.setIfInBounds_toArray, List.set_cons_zero, List.set_cons_succ])
      clear m2 f2 HM1 HYL HL HB
      generalize World.drew _ = w2 at *
      refine wpSchL_nil ?_
      go_upto_region 2 with fail
      refine wp_region_sch (RS w g k B y G s) [(true, 0), (true, 2), (true, 3), (true, 4), (true, 5), (true, 6), (true, 7), (true, 8), (true, 9), (true, 10), (true, 11), (true, 12), (false, 1), (false, 13), (true, 14)] (by kernel_rfl) (by kernel_rfl) (by kernel_rfl) (by kernel_rfl) HM2.out.drew ?_
      (repeat (first | (refine wpSch_yes (v := ?_) rfl (fun _ _ _ h => h) (by rfl) ?_ ?_; rotate_left; (next => (intro w hSw; obtain ⟨a0, a1, a2, a3, a4, a5, a6, a7, a8⟩ := spl_cells (RS.b hSw); obtain ⟨c0, c1, c2, c3, c4, c5, c6, c7⟩ := RM.own (RS.m hSw); obtain ⟨m0, m1, m2, m3, m4, m5, m6, m7⟩ := RM.own' (RS.m hSw); have cb := RM.best (RS.m hSw); clear hSw; go_simp; (try with_reducible rfl))); (try simp only [Act.put, List.setIfInBounds_toArray, List.set_cons_zero, List.set_cons_succ])) | (refine wpSch_no rfl (fun _ _ _ h => h) (by rfl) ?_; (try simp only [Act.put, List.setIfInBounds_toArray, List.set_cons_zero, List.set_cons_succ]))))
      refine wpSch_call rfl (by rfl) (fun K hK => ?_)
      go_simp
      refine (rbw_any _ HM2.out.drew.m).mono ?_
      rintro e w' ⟨rfl, rfl⟩
      refine hK.out _ _ HM2.out.drew (fun hHeld => ?_)
      clear hK K hHeld
      (try simp only [Act.put, List.setIfInBounds_toArray, List.set_cons_zero, List.set_cons_succ])
      refine wpSch_call rfl (by rfl) (fun K hK => ?_)
      go_simp
      refine (rwin_any _ _ _ _ _ HBN.out.1 HBN.out.2 HQN.out.1 HQN.out.2 HRN.out.1 HRN.out.2 HTN.out.1 HTN.out.2 HSN.out.1 HSN.out.2 _).mono ?_
      rintro e w' ⟨rfl, rfl⟩
      rw [HW.out]
      refine hK.out _ _ HM2.out.drew (fun hHeld => ?_)
      clear hK K hHeld
      (try simp only [Act.put, List.setIfInBounds_toArray, List.set_cons_zero, List.set_cons_succ])
      (repeat (first | (refine wpSch_yes (v := ?_) rfl (fun _ _ _ h => h) (by rfl) ?_ ?_; rotate_left; (next => (intro w hSw; obtain ⟨a0, a1, a2, a3, a4, a5, a6, a7, a8⟩ := spl_cells (RS.b hSw); obtain ⟨c0, c1, c2, c3, c4, c5, c6, c7⟩ := RM.own (RS.m hSw); obtain ⟨m0, m1, m2, m3, m4, m5, m6, m7⟩ := RM.own' (RS.m hSw); have cb := RM.best (RS.m hSw); clear hSw; go_simp; (try with_reducible rfl))); (try simp only [Act.put, List.setIfInBounds_toArray, List.set_cons_zero, List.set_cons_succ])) | (refine wpSch_no rfl (fun _ _ _ h => h) (by rfl) ?_; (try simp only [Act.put, List.setIfInBounds_toArray, List.set_cons_zero, List.set_cons_succ]))))
      refine wpSch_nil ?_
      have HM3 := Lib.hid HM2.out.drew
      clear HM2
      generalize w2.drew = w3 at *
      obtain ⟨c0, c1, c2, c3, c4, c5, c6, c7⟩ := HM3.out.m.own
      obtain ⟨m0, m1, m2, m3, m4, m5, m6, m7⟩ := HM3.out.m.own'
      obtain ⟨a0, a1, a2, a3, a4, a5, a6, a7, a8⟩ := spl_cells HM3.out.b
      clear c0 c1 c2 c4 c5 c6 c7 m0 m1 m2 m3 m4 m6 m7 a0 a1 a2 a3 a4 a6 a7 a8
      rw [HYN.out] at m5
      rw [HFU.out] at c3
      have HM4 : Hid (RS w g k B z G s w3) := Lib.hid (by rw [HZ.out]; exact HM3.out)
      clear HM3
      go_upto_region 10 with fail
      obtain ⟨mA, hmA⟩ : ∃ S, z.w = S := ⟨_, rfl⟩
      obtain ⟨mB, hmB⟩ : ∃ S, 4 * z.s = S := ⟨_, rfl⟩
      have hw4 : IntKind.u64.wrap (4 * z.s) = 4 * z.s := by have := HFZ.out.s0; have := HFZ.out.s1; rw [IntKind.wrap_u64]; omega
      have HA := Lib.hid hmA
      have HB := Lib.hid hmB
      have HFL : Hid (floorM z = mB) := Lib.hid (by rw [floorM_is HFZ.out.s0 HFZ.out.s1]; exact hmB)
      clear hmA hmB
      refine wp_region_late (RS w g k B z G s) [13] (.yes 0 (.yes 1 (.yes 2 (.yes 3 (.yes 4 (.yes 5 (.yes 6 (.yes 7 (.yes 8 (.yes 9 (.yes 10 (.yes 11 (.yes 12 (.one 13 .nil)))))))))))))) (by kernel_rfl) (by kernel_rfl) (by kernel_rfl) (by kernel_rfl) HM4.out.drew ?_
      iterate 10 (refine wpSchL_yes (v := ?_) rfl (fun _ _ _ h => h) (by rfl) ?_ ?_; rotate_left; (next => (intro w hSw; obtain ⟨a0, a1, a2, a3, a4, a5, a6, a7, a8⟩ := spl_cells (RS.b hSw); obtain ⟨c0, c1, c2, c3, c4, c5, c6, c7⟩ := RM.own (RS.m hSw); obtain ⟨m0, m1, m2, m3, m4, m5, m6, m7⟩ := RM.own' (RS.m hSw); have cb := RM.best (RS.m hSw); clear hSw; go_simp; (try with_reducible rfl))); (try simp only [Act.put, List.setIfInBounds_toArray, List.set_cons_zero, List.set_cons_succ]))
      rw [HA.out, HB.out]
      refine wpSchL_yes (v := .int .u64 (maxI mA mB)) rfl (fun _ _ _ h => h) (by rfl) ?_ ?_
      · (intro w hSw; clear hSw; rcases Int.lt_trichotomy mA mB with hl | hl | hl; (have hn : ¬ mB < mA := (by omega)); (rw [maxI_lt hl]); go_simp; (try with_reducible rfl); subst hl; (rw [maxI_ge (Int.lt_irrefl _)]); (have hn := Int.lt_irrefl mA); go_simp; (try with_reducible rfl); (have hn : ¬ mA < mB := (by omega)); (rw [maxI_ge hn]); go_simp; (try with_reducible rfl))
      (try simp only [Act.put, List.setIfInBounds_toArray, List.set_cons_zero, List.set_cons_succ])
      (repeat (refine wpSchL_yes (v := ?_) rfl (fun _ _ _ h => h) (by rfl) ?_ ?_; rotate_left; (next => (intro w hSw; obtain ⟨a0, a1, a2, a3, a4, a5, a6, a7, a8⟩ := spl_cells (RS.b hSw); obtain ⟨c0, c1, c2, c3, c4, c5, c6, c7⟩ := RM.own (RS.m hSw); obtain ⟨m0, m1, m2, m3, m4, m5, m6, m7⟩ := RM.own' (RS.m hSw); have cb := RM.best (RS.m hSw); clear hSw; go_simp; (try with_reducible rfl))); (try simp only [Act.put, List.setIfInBounds_toArray, List.set_cons_zero, List.set_cons_succ])))
      have m2 := HM4.out.m.own'.2.2.1
      have f2 := HM4.out.m.free 25
      have HM5 := Lib.hid (HM4.out.put (y := { z with w := maxI mA mB }) (H := G) 25 (.int .u64 (maxI mA mB)) (by decide) (fun _ => rfl) rfl rfl rfl).drew
      refine wpSchL_one ?_
      refine wpOneL_call rfl (by rfl) (fun K hK => ?_)
      go_simp
      refine hK.out _ _ (fun h => absurd h (by decide)) (fun hHeld => ?_)
      clear hK K hHeld
      (try simp only [Act.put, List.setIfInBounds_toArray, List.set_cons_zero, List.set_cons_succ])
      clear m2 f2 HM4
      generalize World.drew _ = w5 at *
      generalize hX : maxI mA mB = X at *
      have HX := Lib.hid hX
      clear hX
      refine wpSchL_nil ?_
      obtain ⟨c0, c1, c2, c3, c4, c5, c6, c7⟩ := HM5.out.m.own
      obtain ⟨m0, m1, m2, m3, m4, m5, m6, m7⟩ := HM5.out.m.own'
      clear c1 c2 c3 c4 c5 c6 c7 m1 m3 m4 m5 m6 m7
      have f2 := HM5.out.m.free 25
      by_cases h3 : z.m = 3
      · have e3 : (z.m == 3) = true := by simp [h3]
        have HE : Hid (fitM x s tso = { z with w := mB }) := Lib.hid (by rw [HFI.out]; simp [finM, h3, HFL.out])
        have HM6 := Lib.hid (HM5.out.put (y := { z with w := mB }) (H := G) 25 (.int .u64 mB) (by decide) (fun _ => rfl) rfl rfl rfl)
        rw [← HB.out] at HM6
        clear h3
        go_wp2
        go_end0
        exact ⟨⟨_, rfl⟩, by rw [HE.out, ← HB.out]; exact HM6.out.m, HM6.out.kp⟩
      · have e3 : (z.m == 3) = false := by simp [h3]
        have HE : Hid (fitM x s tso = { z with w := X }) := Lib.hid (by rw [HFI.out, ← HX.out, ← HA.out, ← HFL.out]; simp [finM, h3])
        clear h3
        go_wp2
        go_end0
        exact ⟨⟨_, rfl⟩, by rw [HE.out]; exact HM5.out.m, HM5.out.kp⟩
    · have ha' : (s.a == 0) = false := by simp [ha]
      have ha0 : 0 < s.a := by have := HS.out.a.1; omega
      cases FU
      · by_cases hw : y.w < W
        · have HZ : Hid (z = { y with w := satAdd y.w s.a }) := Lib.hid (by rw [hz]; simp [ackM, hN, ha0, groM, hFU, hW, hw])
          clear hz hN hW h10 hFU ha ha0
          go_enter Tryz.func48, Tryz.ntmps48
          go_upto_region 1 with fail
          generalize hw1 : World.alloc w _ = w1 at *
          have HM1 : Hid (RS w g k w.heap.size x G s w1) := HM
          clear HM hw1
          generalize w.heap.size = B at *
          obtain ⟨mA, hmA⟩ : ∃ L, satSub x.w s.o = L := ⟨_, rfl⟩
          obtain ⟨mB, hmB⟩ : ∃ S, x.s = S := ⟨_, rfl⟩
          have HB := Lib.hid hmB
          have HL := Lib.hid hmA
          have HYL : Hid (y = { x with w := maxI mA mB }) := Lib.hid (by rw [HY.out, ← hmA, ← hmB]; rfl)
          clear hmA hmB
          refine wp_region_late (RS w g k B x G s) [15] (.yes 0 (.yes 1 (.yes 2 (.yes 3 (.yes 4 (.yes 5 (.yes 6 (.yes 8 (.yes 9 (.yes 10 (.yes 11 (.one 7 (.yes 12 (.yes 13 (.yes 14 (.one 15 .nil)))))))))))))))) (by kernel_rfl) (by kernel_rfl) (by kernel_rfl) (by kernel_rfl) HM1.out.drew ?_
          (repeat (refine wpSchL_yes (v := ?_) rfl (fun _ _ _ h => h) (by rfl) ?_ ?_; rotate_left; (next => (intro w hSw; obtain ⟨a0, a1, a2, a3, a4, a5, a6, a7, a8⟩ := spl_cells (RS.b hSw); obtain ⟨c0, c1, c2, c3, c4, c5, c6, c7⟩ := RM.own (RS.m hSw); obtain ⟨m0, m1, m2, m3, m4, m5, m6, m7⟩ := RM.own' (RS.m hSw); have cb := RM.best (RS.m hSw); clear hSw; go_simp; (try with_reducible rfl))); (try simp only [Act.put, List.setIfInBounds_toArray, List.set_cons_zero, List.set_cons_succ])))
          refine wpSchL_one ?_
          refine wpOneL_call rfl (by rfl) (fun K hK => ?_)
          go_simp
          refine (rsub_any _ _ HWN.out.1 HWN.out.2 HS.out.o.1 HS.out.o.2 _).mono ?_
          rintro e w' ⟨rfl, rfl⟩
          rw [HL.out]
          refine hK.out _ _ (fun _ => HM1.out.drew) (fun hHeld => ?_)
          clear hK K hHeld
          (try simp only [Act.put, List.setIfInBounds_toArray, List.set_cons_zero, List.set_cons_succ])
          rw [HB.out]
          refine wpSchL_yes (v := .int .u64 (maxI mA mB)) rfl (fun _ _ _ h => h) (by rfl) ?_ ?_
          · (intro w hSw; clear hSw; rcases Int.lt_trichotomy mA mB with hl | hl | hl; (have hn : ¬ mB < mA := (by omega)); (rw [maxI_lt hl]); go_simp; (try with_reducible rfl); subst hl; (rw [maxI_ge (Int.lt_irrefl _)]); (have hn := Int.lt_irrefl mA); go_simp; (try with_reducible rfl); (have hn : ¬ mA < mB := (by omega)); (rw [maxI_ge hn]); go_simp; (try with_reducible rfl))
          (try simp only [Act.put, List.setIfInBounds_toArray, List.set_cons_zero, List.set_cons_succ])
          (repeat (refine wpSchL_yes (v := ?_) rfl (fun _ _ _ h => h) (by rfl) ?_ ?_; rotate_left; (next => (intro w hSw; obtain ⟨a0, a1, a2, a3, a4, a5, a6, a7, a8⟩ := spl_cells (RS.b hSw); obtain ⟨c0, c1, c2, c3, c4, c5, c6, c7⟩ := RM.own (RS.m hSw); obtain ⟨m0, m1, m2, m3, m4, m5, m6, m7⟩ := RM.own' (RS.m hSw); have cb := RM.best (RS.m hSw); clear hSw; go_simp; (try with_reducible rfl))); (try simp only [Act.put, List.setIfInBounds_toArray, List.set_cons_zero, List.set_cons_succ])))
          have m2 := HM1.out.m.own'.2.2.1
          have f2 := HM1.out.m.free 25
          have HM2 : Hid (RS w g k B y G s ((w1.setCell ⟨g, 25, none⟩ (.int .u64 (maxI mA mB))).drew)) := Lib.hid (by rw [HYL.out]; exact (HM1.out.put (y := { x with w := maxI mA mB }) (H := G) 25 (.int .u64 (maxI mA mB)) (by decide) (fun _ => rfl) rfl rfl rfl).drew)
          refine wpSchL_one ?_
          refine wpOneL_call rfl (by rfl) (fun K hK => ?_)
          go_simp
          refine hK.out _ _ (fun h => absurd h (by decide)) (fun hHeld => ?_)
          clear hK K hHeld
          (try simp only [Act.put, List.setIfInBounds_toArray, List.set_cons_zero, List.set_cons_succ])
          clear m2 f2 HM1 HYL HL HB
          generalize World.drew _ = w2 at *
          refine wpSchL_nil ?_
          go_upto_region 2 with fail
          refine wp_region_sch (RS w g k B y G s) [(true, 0), (true, 2), (true, 3), (true, 4), (true, 5), (true, 6), (true, 7), (true, 8), (true, 9), (true, 10), (true, 11), (true, 12), (false, 1), (false, 13), (true, 14)] (by kernel_rfl) (by kernel_rfl) (by kernel_rfl) (by kernel_rfl) HM2.out.drew ?_
          (repeat (first | (refine wpSch_yes (v := ?_) rfl (fun _ _ _ h => h) (by rfl) ?_ ?_; rotate_left; (next => (intro w hSw; obtain ⟨a0, a1, a2, a3, a4, a5, a6, a7, a8⟩ := spl_cells (RS.b hSw); obtain ⟨c0, c1, c2, c3, c4, c5, c6, c7⟩ := RM.own (RS.m hSw); obtain ⟨m0, m1, m2, m3, m4, m5, m6, m7⟩ := RM.own' (RS.m hSw); have cb := RM.best (RS.m hSw); clear hSw; go_simp; (try with_reducible rfl))); (try simp only [Act.put, List.setIfInBounds_toArray, List.set_cons_zero, List.set_cons_succ])) | (refine wpSch_no rfl (fun _ _ _ h => h) (by rfl) ?_; (try simp only [Act.put, List.setIfInBounds_toArray, List.set_cons_zero, List.set_cons_succ]))))
          refine wpSch_call rfl (by rfl) (fun K hK => ?_)
          go_simp
          refine (rbw_any _ HM2.out.drew.m).mono ?_
          rintro e w' ⟨rfl, rfl⟩
          refine hK.out _ _ HM2.out.drew (fun hHeld => ?_)
          clear hK K hHeld
          (try simp only [Act.put, List.setIfInBounds_toArray, List.set_cons_zero, List.set_cons_succ])
          refine wpSch_call rfl (by rfl) (fun K hK => ?_)
          go_simp
          refine (rwin_any _ _ _ _ _ HBN.out.1 HBN.out.2 HQN.out.1 HQN.out.2 HRN.out.1 HRN.out.2 HTN.out.1 HTN.out.2 HSN.out.1 HSN.out.2 _).mono ?_
          rintro e w' ⟨rfl, rfl⟩
          rw [HW.out]
          refine hK.out _ _ HM2.out.drew (fun hHeld => ?_)
          clear hK K hHeld
          (try simp only [Act.put, List.setIfInBounds_toArray, List.set_cons_zero, List.set_cons_succ])
          (repeat (first | (refine wpSch_yes (v := ?_) rfl (fun _ _ _ h => h) (by rfl) ?_ ?_; rotate_left; (next => (intro w hSw; obtain ⟨a0, a1, a2, a3, a4, a5, a6, a7, a8⟩ := spl_cells (RS.b hSw); obtain ⟨c0, c1, c2, c3, c4, c5, c6, c7⟩ := RM.own (RS.m hSw); obtain ⟨m0, m1, m2, m3, m4, m5, m6, m7⟩ := RM.own' (RS.m hSw); have cb := RM.best (RS.m hSw); clear hSw; go_simp; (try with_reducible rfl))); (try simp only [Act.put, List.setIfInBounds_toArray, List.set_cons_zero, List.set_cons_succ])) | (refine wpSch_no rfl (fun _ _ _ h => h) (by rfl) ?_; (try simp only [Act.put, List.setIfInBounds_toArray, List.set_cons_zero, List.set_cons_succ]))))
          refine wpSch_nil ?_
          have HM3 := Lib.hid HM2.out.drew
          clear HM2
          generalize w2.drew = w3 at *
          obtain ⟨c0, c1, c2, c3, c4, c5, c6, c7⟩ := HM3.out.m.own
          obtain ⟨m0, m1, m2, m3, m4, m5, m6, m7⟩ := HM3.out.m.own'
          obtain ⟨a0, a1, a2, a3, a4, a5, a6, a7, a8⟩ := spl_cells HM3.out.b
          clear c0 c1 c2 c4 c5 c6 c7 m0 m1 m2 m3 m4 m6 m7 a0 a1 a2 a3 a4 a6 a7 a8
          rw [HYN.out] at m5
          rw [HFU.out] at c3
          go_upto_region 8 with fail
          refine wp_region_sch (RS w g k B y G s) [(true, 0), (true, 1), (true, 2), (true, 3), (true, 4), (true, 5), (true, 6), (true, 7), (true, 8), (true, 9), (true, 10), (true, 11), (true, 12), (true, 13), (true, 14), (true, 15), (true, 16)] (by kernel_rfl) (by kernel_rfl) (by kernel_rfl) (by kernel_rfl) HM3.out.drew ?_
          (repeat (first | (refine wpSch_yes (v := ?_) rfl (fun _ _ _ h => h) (by rfl) ?_ ?_; rotate_left; (next => (intro w hSw; obtain ⟨a0, a1, a2, a3, a4, a5, a6, a7, a8⟩ := spl_cells (RS.b hSw); obtain ⟨c0, c1, c2, c3, c4, c5, c6, c7⟩ := RM.own (RS.m hSw); obtain ⟨m0, m1, m2, m3, m4, m5, m6, m7⟩ := RM.own' (RS.m hSw); have cb := RM.best (RS.m hSw); clear hSw; go_simp; (try with_reducible rfl))); (try simp only [Act.put, List.setIfInBounds_toArray, List.set_cons_zero, List.set_cons_succ])) | (refine wpSch_no rfl (fun _ _ _ h => h) (by rfl) ?_; (try simp only [Act.put, List.setIfInBounds_toArray, List.set_cons_zero, List.set_cons_succ]))))
          refine wpSch_nil ?_
          clear c3 m5 a5
          go_upto_region 9 with fail
          have HM3' := Lib.hid HM3.out.drew
          clear HM3
          generalize w3.drew = w3' at *
          refine wp_region_late (RS w g k B y G s) [10] (.yes 0 (.yes 1 (.yes 2 (.yes 3 (.yes 4 (.yes 5 (.yes 6 (.one 7 (.yes 8 (.yes 9 (.one 10 .nil))))))))))) (by kernel_rfl) (by kernel_rfl) (by kernel_rfl) (by kernel_rfl) HM3'.out.drew ?_
          (repeat (refine wpSchL_yes (v := ?_) rfl (fun _ _ _ h => h) (by rfl) ?_ ?_; rotate_left; (next => (intro w hSw; obtain ⟨a0, a1, a2, a3, a4, a5, a6, a7, a8⟩ := spl_cells (RS.b hSw); obtain ⟨c0, c1, c2, c3, c4, c5, c6, c7⟩ := RM.own (RS.m hSw); obtain ⟨m0, m1, m2, m3, m4, m5, m6, m7⟩ := RM.own' (RS.m hSw); have cb := RM.best (RS.m hSw); clear hSw; go_simp; (try with_reducible rfl))); (try simp only [Act.put, List.setIfInBounds_toArray, List.set_cons_zero, List.set_cons_succ])))
          refine wpSchL_one ?_
          refine wpOneL_call rfl (by rfl) (fun K hK => ?_)
          go_simp
          refine (radd_any _ _ HYW.out.1 HYW.out.2 HS.out.a.1 HS.out.a.2 _).mono ?_
          rintro e w' ⟨rfl, rfl⟩
          refine hK.out _ _ (fun _ => HM3'.out.drew) (fun hHeld => ?_)
          clear hK K hHeld
          (try simp only [Act.put, List.setIfInBounds_toArray, List.set_cons_zero, List.set_cons_succ])
          (repeat (refine wpSchL_yes (v := ?_) rfl (fun _ _ _ h => h) (by rfl) ?_ ?_; rotate_left; (next => (intro w hSw; obtain ⟨a0, a1, a2, a3, a4, a5, a6, a7, a8⟩ := spl_cells (RS.b hSw); obtain ⟨c0, c1, c2, c3, c4, c5, c6, c7⟩ := RM.own (RS.m hSw); obtain ⟨m0, m1, m2, m3, m4, m5, m6, m7⟩ := RM.own' (RS.m hSw); have cb := RM.best (RS.m hSw); clear hSw; go_simp; (try with_reducible rfl))); (try simp only [Act.put, List.setIfInBounds_toArray, List.set_cons_zero, List.set_cons_succ])))
          have m2 := HM3'.out.m.own'.2.2.1
          have f2 := HM3'.out.m.free 25
          have HM4 : Hid (RS w g k B z G s ((w3'.setCell ⟨g, 25, none⟩ (.int .u64 (satAdd y.w s.a))).drew)) := Lib.hid (by rw [HZ.out]; exact (HM3'.out.put (y := { y with w := satAdd y.w s.a }) (H := G) 25 (.int .u64 (satAdd y.w s.a)) (by decide) (fun _ => rfl) rfl rfl rfl).drew)
          refine wpSchL_one ?_
          refine wpOneL_call rfl (by rfl) (fun K hK => ?_)
          go_simp
          refine hK.out _ _ (fun h => absurd h (by decide)) (fun hHeld => ?_)
          clear hK K hHeld
          (try simp only [Act.put, List.setIfInBounds_toArray, List.set_cons_zero, List.set_cons_succ])
          clear m2 f2 HM3'
          generalize World.drew _ = w4 at *
          refine wpSchL_nil ?_
          go_upto_region 10 with fail
          obtain ⟨mA, hmA⟩ : ∃ S, z.w = S := ⟨_, rfl⟩
          obtain ⟨mB, hmB⟩ : ∃ S, 4 * z.s = S := ⟨_, rfl⟩
          have hw4 : IntKind.u64.wrap (4 * z.s) = 4 * z.s := by have := HFZ.out.s0; have := HFZ.out.s1; rw [IntKind.wrap_u64]; omega
          have HA := Lib.hid hmA
          have HB := Lib.hid hmB
          have HFL : Hid (floorM z = mB) := Lib.hid (by rw [floorM_is HFZ.out.s0 HFZ.out.s1]; exact hmB)
          clear hmA hmB
          refine wp_region_late (RS w g k B z G s) [13] (.yes 0 (.yes 1 (.yes 2 (.yes 3 (.yes 4 (.yes 5 (.yes 6 (.yes 7 (.yes 8 (.yes 9 (.yes 10 (.yes 11 (.yes 12 (.one 13 .nil)))))))))))))) (by kernel_rfl) (by kernel_rfl) (by kernel_rfl) (by kernel_rfl) HM4.out.drew ?_
          iterate 10 (refine wpSchL_yes (v := ?_) rfl (fun _ _ _ h => h) (by rfl) ?_ ?_; rotate_left; (next => (intro w hSw; obtain ⟨a0, a1, a2, a3, a4, a5, a6, a7, a8⟩ := spl_cells (RS.b hSw); obtain ⟨c0, c1, c2, c3, c4, c5, c6, c7⟩ := RM.own (RS.m hSw); obtain ⟨m0, m1, m2, m3, m4, m5, m6, m7⟩ := RM.own' (RS.m hSw); have cb := RM.best (RS.m hSw); clear hSw; go_simp; (try with_reducible rfl))); (try simp only [Act.put, List.setIfInBounds_toArray, List.set_cons_zero, List.set_cons_succ]))
          rw [HA.out, HB.out]
          refine wpSchL_yes (v := .int .u64 (maxI mA mB)) rfl (fun _ _ _ h => h) (by rfl) ?_ ?_
          · (intro w hSw; clear hSw; rcases Int.lt_trichotomy mA mB with hl | hl | hl; (have hn : ¬ mB < mA := (by omega)); (rw [maxI_lt hl]); go_simp; (try with_reducible rfl); subst hl; (rw [maxI_ge (Int.lt_irrefl _)]); (have hn := Int.lt_irrefl mA); go_simp; (try with_reducible rfl); (have hn : ¬ mA < mB := (by omega)); (rw [maxI_ge hn]); go_simp; (try with_reducible rfl))
          (try simp only [Act.put, List.setIfInBounds_toArray, List.set_cons_zero, List.set_cons_succ])
          (repeat (refine wpSchL_yes (v := ?_) rfl (fun _ _ _ h => h) (by rfl) ?_ ?_; rotate_left; (next => (intro w hSw; obtain ⟨a0, a1, a2, a3, a4, a5, a6, a7, a8⟩ := spl_cells (RS.b hSw); obtain ⟨c0, c1, c2, c3, c4, c5, c6, c7⟩ := RM.own (RS.m hSw); obtain ⟨m0, m1, m2, m3, m4, m5, m6, m7⟩ := RM.own' (RS.m hSw); have cb := RM.best (RS.m hSw); clear hSw; go_simp; (try with_reducible rfl))); (try simp only [Act.put, List.setIfInBounds_toArray, List.set_cons_zero, List.set_cons_succ])))
          have m2 := HM4.out.m.own'.2.2.1
          have f2 := HM4.out.m.free 25
          have HM5 := Lib.hid (HM4.out.put (y := { z with w := maxI mA mB }) (H := G) 25 (.int .u64 (maxI mA mB)) (by decide) (fun _ => rfl) rfl rfl rfl).drew
          refine wpSchL_one ?_
          refine wpOneL_call rfl (by rfl) (fun K hK => ?_)
          go_simp
          refine hK.out _ _ (fun h => absurd h (by decide)) (fun hHeld => ?_)
          clear hK K hHeld
          (try simp only [Act.put, List.setIfInBounds_toArray, List.set_cons_zero, List.set_cons_succ])
          clear m2 f2 HM4
          generalize World.drew _ = w5 at *
          generalize hX : maxI mA mB = X at *
          have HX := Lib.hid hX
          clear hX
          refine wpSchL_nil ?_
          obtain ⟨c0, c1, c2, c3, c4, c5, c6, c7⟩ := HM5.out.m.own
          obtain ⟨m0, m1, m2, m3, m4, m5, m6, m7⟩ := HM5.out.m.own'
          clear c1 c2 c3 c4 c5 c6 c7 m1 m3 m4 m5 m6 m7
          have f2 := HM5.out.m.free 25
          by_cases h3 : z.m = 3
          · have e3 : (z.m == 3) = true := by simp [h3]
            have HE : Hid (fitM x s tso = { z with w := mB }) := Lib.hid (by rw [HFI.out]; simp [finM, h3, HFL.out])
            have HM6 := Lib.hid (HM5.out.put (y := { z with w := mB }) (H := G) 25 (.int .u64 mB) (by decide) (fun _ => rfl) rfl rfl rfl)
            rw [← HB.out] at HM6
            clear h3
            go_wp2
            go_end0
            exact ⟨⟨_, rfl⟩, by rw [HE.out, ← HB.out]; exact HM6.out.m, HM6.out.kp⟩
          · have e3 : (z.m == 3) = false := by simp [h3]
            have HE : Hid (fitM x s tso = { z with w := X }) := Lib.hid (by rw [HFI.out, ← HX.out, ← HA.out, ← HFL.out]; simp [finM, h3])
            clear h3
            go_wp2
            go_end0
            exact ⟨⟨_, rfl⟩, by rw [HE.out]; exact HM5.out.m, HM5.out.kp⟩
        · have hw' : decide (y.w < W) = false := by simp [hw]
          by_cases hd : s.d < 10 * y.s
          · have hd' : decide (s.d < 10 * y.s) = true := by simp [hd]
            have HZ : Hid (z = { y with w := satAdd y.w s.a }) := Lib.hid (by rw [hz]; simp [ackM, hN, ha0, groM, hFU, h10, hd])
            clear hz hN hW h10 hFU ha ha0
            go_enter Tryz.func48, Tryz.ntmps48
            go_upto_region 1 with fail
            generalize hw1 : World.alloc w _ = w1 at *
            have HM1 : Hid (RS w g k w.heap.size x G s w1) := HM
            clear HM hw1
            generalize w.heap.size = B at *
            obtain ⟨mA, hmA⟩ : ∃ L, satSub x.w s.o = L := ⟨_, rfl⟩
            obtain ⟨mB, hmB⟩ : ∃ S, x.s = S := ⟨_, rfl⟩
            have HB := Lib.hid hmB
            have HL := Lib.hid hmA
            have HYL : Hid (y = { x with w := maxI mA mB }) := Lib.hid (by rw [HY.out, ← hmA, ← hmB]; rfl)
            clear hmA hmB
            refine wp_region_late (RS w g k B x G s) [15] (.yes 0 (.yes 1 (.yes 2 (.yes 3 (.yes 4 (.yes 5 (.yes 6 (.yes 8 (.yes 9 (.yes 10 (.yes 11 (.one 7 (.yes 12 (.yes 13 (.yes 14 (.one 15 .nil)))))))))))))))) (by kernel_rfl) (by kernel_rfl) (by kernel_rfl) (by kernel_rfl) HM1.out.drew ?_
            (repeat (refine wpSchL_yes (v := ?_) rfl (fun _ _ _ h => h) (by rfl) ?_ ?_; rotate_left; (next => (intro w hSw; obtain ⟨a0, a1, a2, a3, a4, a5, a6, a7, a8⟩ := spl_cells (RS.b hSw); obtain ⟨c0, c1, c2, c3, c4, c5, c6, c7⟩ := RM.own (RS.m hSw); obtain ⟨m0, m1, m2, m3, m4, m5, m6, m7⟩ := RM.own' (RS.m hSw); have cb := RM.best (RS.m hSw); clear hSw; go_simp; (try with_reducible rfl))); (try simp only [Act.put, List.setIfInBounds_toArray, List.set_cons_zero, List.set_cons_succ])))
            refine wpSchL_one ?_
            refine wpOneL_call rfl (by rfl) (fun K hK => ?_)
            go_simp
            refine (rsub_any _ _ HWN.out.1 HWN.out.2 HS.out.o.1 HS.out.o.2 _).mono ?_
            rintro e w' ⟨rfl, rfl⟩
            rw [HL.out]
            refine hK.out _ _ (fun _ => HM1.out.drew) (fun hHeld => ?_)
            clear hK K hHeld
            (try simp only [Act.put, List.setIfInBounds_toArray, List.set_cons_zero, List.set_cons_succ])
            rw [HB.out]
            refine wpSchL_yes (v := .int .u64 (maxI mA mB)) rfl (fun _ _ _ h => h) (by rfl) ?_ ?_
            · (intro w hSw; clear hSw; rcases Int.lt_trichotomy mA mB with hl | hl | hl; (have hn : ¬ mB < mA := (by omega)); (rw [maxI_lt hl]); go_simp; (try with_reducible rfl); subst hl; (rw [maxI_ge (Int.lt_irrefl _)]); (have hn := Int.lt_irrefl mA); go_simp; (try with_reducible rfl); (have hn : ¬ mA < mB := (by omega)); (rw [maxI_ge hn]); go_simp; (try with_reducible rfl))
            (try simp only [Act.put, List.setIfInBounds_toArray, List.set_cons_zero, List.set_cons_succ])
            (repeat (refine wpSchL_yes (v := ?_) rfl (fun _ _ _ h => h) (by rfl) ?_ ?_; rotate_left; (next => (intro w hSw; obtain ⟨a0, a1, a2, a3, a4, a5, a6, a7, a8⟩ := spl_cells (RS.b hSw); obtain ⟨c0, c1, c2, c3, c4, c5, c6, c7⟩ := RM.own (RS.m hSw); obtain ⟨m0, m1, m2, m3, m4, m5, m6, m7⟩ := RM.own' (RS.m hSw); have cb := RM.best (RS.m hSw); clear hSw; go_simp; (try with_reducible rfl))); (try simp only [Act.put, List.setIfInBounds_toArray, List.set_cons_zero, List.set_cons_succ])))
            have m2 := HM1.out.m.own'.2.2.1
            have f2 := HM1.out.m.free 25
            have HM2 : Hid (RS w g k B y G s ((w1.setCell ⟨g, 25, none⟩ (.int .u64 (maxI mA mB))).drew)) := Lib.hid (by rw [HYL.out]; exact (HM1.out.put (y := { x with w := maxI mA mB }) (H := G) 25 (.int .u64 (maxI mA mB)) (by decide) (fun _ => rfl) rfl rfl rfl).drew)
            refine wpSchL_one ?_
            refine wpOneL_call rfl (by rfl) (fun K hK => ?_)
            go_simp
            refine hK.out _ _ (fun h => absurd h (by decide)) (fun hHeld => ?_)
            clear hK K hHeld
            (try simp only [Act.put, List.setIfInBounds_toArray, List.set_cons_zero, List.set_cons_succ])
            clear m2 f2 HM1 HYL HL HB
            generalize World.drew _ = w2 at *
            refine wpSchL_nil ?_
            go_upto_region 2 with fail
            refine wp_region_sch (RS w g k B y G s) [(true, 0), (true, 2), (true, 3), (true, 4), (true, 5), (true, 6), (true, 7), (true, 8), (true, 9), (true, 10), (true, 11), (true, 12), (false, 1), (false, 13), (true, 14)] (by kernel_rfl) (by kernel_rfl) (by kernel_rfl) (by kernel_rfl) HM2.out.drew ?_
            (repeat (first | (refine wpSch_yes (v := ?_) rfl (fun _ _ _ h => h) (by rfl) ?_ ?_; rotate_left; (next => (intro w hSw; obtain ⟨a0, a1, a2, a3, a4, a5, a6, a7, a8⟩ := spl_cells (RS.b hSw); obtain ⟨c0, c1, c2, c3, c4, c5, c6, c7⟩ := RM.own (RS.m hSw); obtain ⟨m0, m1, m2, m3, m4, m5, m6, m7⟩ := RM.own' (RS.m hSw); have cb := RM.best (RS.m hSw); clear hSw; go_simp; (try with_reducible rfl))); (try simp only [Act.put, List.setIfInBounds_toArray, List.set_cons_zero, List.set_cons_succ])) | (refine wpSch_no rfl (fun _ _ _ h => h) (by rfl) ?_; (try simp only [Act.put, List.setIfInBounds_toArray, List.set_cons_zero, List.set_cons_succ]))))
            refine wpSch_call rfl (by rfl) (fun K hK => ?_)
            go_simp
            refine (rbw_any _ HM2.out.drew.m).mono ?_
            rintro e w' ⟨rfl, rfl⟩
            refine hK.out _ _ HM2.out.drew (fun hHeld => ?_)
            clear hK K hHeld
            (try simp only [Act.put, List.setIfInBounds_toArray, List.set_cons_zero, List.set_cons_succ])
            refine wpSch_call rfl (by rfl) (fun K hK => ?_)
            go_simp
            refine (rwin_any _ _ _ _ _ HBN.out.1 HBN.out.2 HQN.out.1 HQN.out.2 HRN.out.1 HRN.out.2 HTN.out.1 HTN.out.2 HSN.out.1 HSN.out.2 _).mono ?_
            rintro e w' ⟨rfl, rfl⟩
            rw [HW.out]
            refine hK.out _ _ HM2.out.drew (fun hHeld => ?_)
            clear hK K hHeld
            (try simp only [Act.put, List.setIfInBounds_toArray, List.set_cons_zero, List.set_cons_succ])
            (repeat (first | (refine wpSch_yes (v := ?_) rfl (fun _ _ _ h => h) (by rfl) ?_ ?_; rotate_left; (next => (intro w hSw; obtain ⟨a0, a1, a2, a3, a4, a5, a6, a7, a8⟩ := spl_cells (RS.b hSw); obtain ⟨c0, c1, c2, c3, c4, c5, c6, c7⟩ := RM.own (RS.m hSw); obtain ⟨m0, m1, m2, m3, m4, m5, m6, m7⟩ := RM.own' (RS.m hSw); have cb := RM.best (RS.m hSw); clear hSw; go_simp; (try with_reducible rfl))); (try simp only [Act.put, List.setIfInBounds_toArray, List.set_cons_zero, List.set_cons_succ])) | (refine wpSch_no rfl (fun _ _ _ h => h) (by rfl) ?_; (try simp only [Act.put, List.setIfInBounds_toArray, List.set_cons_zero, List.set_cons_succ]))))
            refine wpSch_nil ?_
            have HM3 := Lib.hid HM2.out.drew
            clear HM2
            generalize w2.drew = w3 at *
            obtain ⟨c0, c1, c2, c3, c4, c5, c6, c7⟩ := HM3.out.m.own
            obtain ⟨m0, m1, m2, m3, m4, m5, m6, m7⟩ := HM3.out.m.own'
            obtain ⟨a0, a1, a2, a3, a4, a5, a6, a7, a8⟩ := spl_cells HM3.out.b
            clear c0 c1 c2 c4 c5 c6 c7 m0 m1 m2 m3 m4 m6 m7 a0 a1 a2 a3 a4 a6 a7 a8
            rw [HYN.out] at m5
            rw [HFU.out] at c3
            go_upto_region 8 with fail
            refine wp_region_sch (RS w g k B y G s) [(true, 0), (true, 1), (true, 2), (true, 3), (true, 4), (true, 5), (true, 6), (true, 7), (true, 8), (true, 9), (true, 10), (true, 11), (true, 12), (true, 13), (true, 14), (true, 15), (true, 16)] (by kernel_rfl) (by kernel_rfl) (by kernel_rfl) (by kernel_rfl) HM3.out.drew ?_
            (repeat (first | (refine wpSch_yes (v := ?_) rfl (fun _ _ _ h => h) (by rfl) ?_ ?_; rotate_left; (next => (intro w hSw; obtain ⟨a0, a1, a2, a3, a4, a5, a6, a7, a8⟩ := spl_cells (RS.b hSw); obtain ⟨c0, c1, c2, c3, c4, c5, c6, c7⟩ := RM.own (RS.m hSw); obtain ⟨m0, m1, m2, m3, m4, m5, m6, m7⟩ := RM.own' (RS.m hSw); have cb := RM.best (RS.m hSw); clear hSw; go_simp; (try with_reducible rfl))); (try simp only [Act.put, List.setIfInBounds_toArray, List.set_cons_zero, List.set_cons_succ])) | (refine wpSch_no rfl (fun _ _ _ h => h) (by rfl) ?_; (try simp only [Act.put, List.setIfInBounds_toArray, List.set_cons_zero, List.set_cons_succ]))))
            refine wpSch_nil ?_
            clear c3 m5 a5
            go_upto_region 9 with fail
            have HM3' := Lib.hid HM3.out.drew
            clear HM3
            generalize w3.drew = w3' at *
            refine wp_region_late (RS w g k B y G s) [10] (.yes 0 (.yes 1 (.yes 2 (.yes 3 (.yes 4 (.yes 5 (.yes 6 (.one 7 (.yes 8 (.yes 9 (.one 10 .nil))))))))))) (by kernel_rfl) (by kernel_rfl) (by kernel_rfl) (by kernel_rfl) HM3'.out.drew ?_
            (repeat (refine wpSchL_yes (v := ?_) rfl (fun _ _ _ h => h) (by rfl) ?_ ?_; rotate_left; (next => (intro w hSw; obtain ⟨a0, a1, a2, a3, a4, a5, a6, a7, a8⟩ := spl_cells (RS.b hSw); obtain ⟨c0, c1, c2, c3, c4, c5, c6, c7⟩ := RM.own (RS.m hSw); obtain ⟨m0, m1, m2, m3, m4, m5, m6, m7⟩ := RM.own' (RS.m hSw); have cb := RM.best (RS.m hSw); clear hSw; go_simp; (try with_reducible rfl))); (try simp only [Act.put, List.setIfInBounds_toArray, List.set_cons_zero, List.set_cons_succ])))
            refine wpSchL_one ?_
            refine wpOneL_call rfl (by rfl) (fun K hK => ?_)
            go_simp
            refine (radd_any _ _ HYW.out.1 HYW.out.2 HS.out.a.1 HS.out.a.2 _).mono ?_
            rintro e w' ⟨rfl, rfl⟩
            refine hK.out _ _ (fun _ => HM3'.out.drew) (fun hHeld => ?_)
            clear hK K hHeld
            (try simp only [Act.put, List.setIfInBounds_toArray, List.set_cons_zero, List.set_cons_succ])
            (repeat (refine wpSchL_yes (v := ?_) rfl (fun _ _ _ h => h) (by rfl) ?_ ?_; rotate_left; (next => (intro w hSw; obtain ⟨a0, a1, a2, a3, a4, a5, a6, a7, a8⟩ := spl_cells (RS.b hSw); obtain ⟨c0, c1, c2, c3, c4, c5, c6, c7⟩ := RM.own (RS.m hSw); obtain ⟨m0, m1, m2, m3, m4, m5, m6, m7⟩ := RM.own' (RS.m hSw); have cb := RM.best (RS.m hSw); clear hSw; go_simp; (try with_reducible rfl))); (try simp only [Act.put, List.setIfInBounds_toArray, List.set_cons_zero, List.set_cons_succ])))
            have m2 := HM3'.out.m.own'.2.2.1
            have f2 := HM3'.out.m.free 25
            have HM4 : Hid (RS w g k B z G s ((w3'.setCell ⟨g, 25, none⟩ (.int .u64 (satAdd y.w s.a))).drew)) := Lib.hid (by rw [HZ.out]; exact (HM3'.out.put (y := { y with w := satAdd y.w s.a }) (H := G) 25 (.int .u64 (satAdd y.w s.a)) (by decide) (fun _ => rfl) rfl rfl rfl).drew)
            refine wpSchL_one ?_
            refine wpOneL_call rfl (by rfl) (fun K hK => ?_)
            go_simp
            refine hK.out _ _ (fun h => absurd h (by decide)) (fun hHeld => ?_)
            clear hK K hHeld
            (try simp only [Act.put, List.setIfInBounds_toArray, List.set_cons_zero, List.set_cons_succ])
            clear m2 f2 HM3'
            generalize World.drew _ = w4 at *
            refine wpSchL_nil ?_
            go_upto_region 10 with fail
            obtain ⟨mA, hmA⟩ : ∃ S, z.w = S := ⟨_, rfl⟩
            obtain ⟨mB, hmB⟩ : ∃ S, 4 * z.s = S := ⟨_, rfl⟩
            have hw4 : IntKind.u64.wrap (4 * z.s) = 4 * z.s := by have := HFZ.out.s0; have := HFZ.out.s1; rw [IntKind.wrap_u64]; omega
            have HA := Lib.hid hmA
            have HB := Lib.hid hmB
            have HFL : Hid (floorM z = mB) := Lib.hid (by rw [floorM_is HFZ.out.s0 HFZ.out.s1]; exact hmB)
            clear hmA hmB
            refine wp_region_late (RS w g k B z G s) [13] (.yes 0 (.yes 1 (.yes 2 (.yes 3 (.yes 4 (.yes 5 (.yes 6 (.yes 7 (.yes 8 (.yes 9 (.yes 10 (.yes 11 (.yes 12 (.one 13 .nil)))))))))))))) (by kernel_rfl) (by kernel_rfl) (by kernel_rfl) (by kernel_rfl) HM4.out.drew ?_
            iterate 10 (refine wpSchL_yes (v := ?_) rfl (fun _ _ _ h => h) (by rfl) ?_ ?_; rotate_left; (next => (intro w hSw; obtain ⟨a0, a1, a2, a3, a4, a5, a6, a7, a8⟩ := spl_cells (RS.b hSw); obtain ⟨c0, c1, c2, c3, c4, c5, c6, c7⟩ := RM.own (RS.m hSw); obtain ⟨m0, m1, m2, m3, m4, m5, m6, m7⟩ := RM.own' (RS.m hSw); have cb := RM.best (RS.m hSw); clear hSw; go_simp; (try with_reducible rfl))); (try simp only [Act.put, List.setIfInBounds_toArray, List.set_cons_zero, List.set_cons_succ]))
            rw [HA.out, HB.out]
            refine wpSchL_yes (v := .int .u64 (maxI mA mB)) rfl (fun _ _ _ h => h) (by rfl) ?_ ?_
            · (intro w hSw; clear hSw; rcases Int.lt_trichotomy mA mB with hl | hl | hl; (have hn : ¬ mB < mA := (by omega)); (rw [maxI_lt hl]); go_simp; (try with_reducible rfl); subst hl; (rw [maxI_ge (Int.lt_irrefl _)]); (have hn := Int.lt_irrefl mA); go_simp; (try with_reducible rfl); (have hn : ¬ mA < mB := (by omega)); (rw [maxI_ge hn]); go_simp; (try with_reducible rfl))
            (try simp only [Act.put, List.setIfInBounds_toArray, List.set_cons_zero, List.set_cons_succ])
            (repeat (refine wpSchL_yes (v := ?_) rfl (fun _ _ _ h => h) (by rfl) ?_ ?_; rotate_left; (next => (intro w hSw; obtain ⟨a0, a1, a2, a3, a4, a5, a6, a7, a8⟩ := spl_cells (RS.b hSw); obtain ⟨c0, c1, c2, c3, c4, c5, c6, c7⟩ := RM.own (RS.m hSw); obtain ⟨m0, m1, m2, m3, m4, m5, m6, m7⟩ := RM.own' (RS.m hSw); have cb := RM.best (RS.m hSw); clear hSw; go_simp; (try with_reducible rfl))); (try simp only [Act.put, List.setIfInBounds_toArray, List.set_cons_zero, List.set_cons_succ])))
            have m2 := HM4.out.m.own'.2.2.1
            have f2 := HM4.out.m.free 25
            have HM5 := Lib.hid (HM4.out.put (y := { z with w := maxI mA mB }) (H := G) 25 (.int .u64 (maxI mA mB)) (by decide) (fun _ => rfl) rfl rfl rfl).drew
            refine wpSchL_one ?_
            refine wpOneL_call rfl (by rfl) (fun K hK => ?_)
            go_simp
            refine hK.out _ _ (fun h => absurd h (by decide)) (fun hHeld => ?_)
            clear hK K hHeld
            (try simp only [Act.put, List.setIfInBounds_toArray, List.set_cons_zero, List.set_cons_succ])
            clear m2 f2 HM4
            generalize World.drew _ = w5 at *
            generalize hX : maxI mA mB = X at *
            have HX := Lib.hid hX
            clear hX
            refine wpSchL_nil ?_
            obtain ⟨c0, c1, c2, c3, c4, c5, c6, c7⟩ := HM5.out.m.own
            obtain ⟨m0, m1, m2, m3, m4, m5, m6, m7⟩ := HM5.out.m.own'
            clear c1 c2 c3 c4 c5 c6 c7 m1 m3 m4 m5 m6 m7
            have f2 := HM5.out.m.free 25
            by_cases h3 : z.m = 3
            · have e3 : (z.m == 3) = true := by simp [h3]
              have HE : Hid (fitM x s tso = { z with w := mB }) := Lib.hid (by rw [HFI.out]; simp [finM, h3, HFL.out])
              have HM6 := Lib.hid (HM5.out.put (y := { z with w := mB }) (H := G) 25 (.int .u64 mB) (by decide) (fun _ => rfl) rfl rfl rfl)
              rw [← HB.out] at HM6
              clear h3
              go_wp2
              go_end0
              exact ⟨⟨_, rfl⟩, by rw [HE.out, ← HB.out]; exact HM6.out.m, HM6.out.kp⟩
            · have e3 : (z.m == 3) = false := by simp [h3]
              have HE : Hid (fitM x s tso = { z with w := X }) := Lib.hid (by rw [HFI.out, ← HX.out, ← HA.out, ← HFL.out]; simp [finM, h3])
              clear h3
              go_wp2
              go_end0
              exact ⟨⟨_, rfl⟩, by rw [HE.out]; exact HM5.out.m, HM5.out.kp⟩
          · have hd' : decide (s.d < 10 * y.s) = false := by simp [hd]
            have HZ : Hid (z = y) := Lib.hid (by rw [hz]; simp [ackM, hN, ha0, groM, hFU, hW, hw, h10, hd])
            clear hz hN hW h10 hFU ha ha0
            go_enter Tryz.func48, Tryz.ntmps48
            go_upto_region 1 with fail
            generalize hw1 : World.alloc w _ = w1 at *
            have HM1 : Hid (RS w g k w.heap.size x G s w1) := HM
            clear HM hw1
            generalize w.heap.size = B at *
            obtain ⟨mA, hmA⟩ : ∃ L, satSub x.w s.o = L := ⟨_, rfl⟩
            obtain ⟨mB, hmB⟩ : ∃ S, x.s = S := ⟨_, rfl⟩
            have HB := Lib.hid hmB
            have HL := Lib.hid hmA
            have HYL : Hid (y = { x with w := maxI mA mB }) := Lib.hid (by rw [HY.out, ← hmA, ← hmB]; rfl)
            clear hmA hmB
            refine wp_region_late (RS w g k B x G s) [15] (.yes 0 (.yes 1 (.yes 2 (.yes 3 (.yes 4 (.yes 5 (.yes 6 (.yes 8 (.yes 9 (.yes 10 (.yes 11 (.one 7 (.yes 12 (.yes 13 (.yes 14 (.one 15 .nil)))))))))))))))) (by kernel_rfl) (by kernel_rfl) (by kernel_rfl) (by kernel_rfl) HM1.out.drew ?_
            (repeat (refine wpSchL_yes (v := ?_) rfl (fun _ _ _ h => h) (by rfl) ?_ ?_; rotate_left; (next => (intro w hSw; obtain ⟨a0, a1, a2, a3, a4, a5, a6, a7, a8⟩ := spl_cells (RS.b hSw); obtain ⟨c0, c1, c2, c3, c4, c5, c6, c7⟩ := RM.own (RS.m hSw); obtain ⟨m0, m1, m2, m3, m4, m5, m6, m7⟩ := RM.own' (RS.m hSw); have cb := RM.best (RS.m hSw); clear hSw; go_simp; (try with_reducible rfl))); (try simp only [Act.put, List.setIfInBounds_toArray, List.set_cons_zero, List.set_cons_succ])))
            refine wpSchL_one ?_
            refine wpOneL_call rfl (by rfl) (fun K hK => ?_)
            go_simp
            refine (rsub_any _ _ HWN.out.1 HWN.out.2 HS.out.o.1 HS.out.o.2 _).mono ?_
            rintro e w' ⟨rfl, rfl⟩
            rw [HL.out]
            refine hK.out _ _ (fun _ => HM1.out.drew) (fun hHeld => ?_)
            clear hK K hHeld
            (try simp only [Act.put, List.setIfInBounds_toArray, List.set_cons_zero, List.set_cons_succ])
            rw [HB.out]
            refine wpSchL_yes (v := .int .u64 (maxI mA mB)) rfl (fun _ _ _ h => h) (by rfl) ?_ ?_
            · (intro w hSw; clear hSw; rcases Int.lt_trichotomy mA mB with hl | hl | hl; (have hn : ¬ mB < mA := (by omega)); (rw [maxI_lt hl]); go_simp; (try with_reducible rfl); subst hl; (rw [maxI_ge (Int.lt_irrefl _)]); (have hn := Int.lt_irrefl mA); go_simp; (try with_reducible rfl); (have hn : ¬ mA < mB := (by omega)); (rw [maxI_ge hn]); go_simp; (try with_reducible rfl))
            (try simp only [Act.put, List.setIfInBounds_toArray, List.set_cons_zero, List.set_cons_succ])
            (repeat (refine wpSchL_yes (v := ?_) rfl (fun _ _ _ h => h) (by rfl) ?_ ?_; rotate_left; (next => (intro w hSw; obtain ⟨a0, a1, a2, a3, a4, a5, a6, a7, a8⟩ := spl_cells (RS.b hSw); obtain ⟨c0, c1, c2, c3, c4, c5, c6, c7⟩ := RM.own (RS.m hSw); obtain ⟨m0, m1, m2, m3, m4, m5, m6, m7⟩ := RM.own' (RS.m hSw); have cb := RM.best (RS.m hSw); clear hSw; go_simp; (try with_reducible rfl))); (try simp only [Act.put, List.setIfInBounds_toArray, List.set_cons_zero, List.set_cons_succ])))
            have m2 := HM1.out.m.own'.2.2.1
            have f2 := HM1.out.m.free 25
            have HM2 : Hid (RS w g k B y G s ((w1.setCell ⟨g, 25, none⟩ (.int .u64 (maxI mA mB))).drew)) := Lib.hid (by rw [HYL.out]; exact (HM1.out.put (y := { x with w := maxI mA mB }) (H := G) 25 (.int .u64 (maxI mA mB)) (by decide) (fun _ => rfl) rfl rfl rfl).drew)
            refine wpSchL_one ?_
            refine wpOneL_call rfl (by rfl) (fun K hK => ?_)
            go_simp
            refine hK.out _ _ (fun h => absurd h (by decide)) (fun hHeld => ?_)
            clear hK K hHeld
            (try simp only [Act.put, List.setIfInBounds_toArray, List.set_cons_zero, List.set_cons_succ])
            clear m2 f2 HM1 HYL HL HB
            generalize World.drew _ = w2 at *
            refine wpSchL_nil ?_
            go_upto_region 2 with fail
            refine wp_region_sch (RS w g k B y G s) [(true, 0), (true, 2), (true, 3), (true, 4), (true, 5), (true, 6), (true, 7), (true, 8), (true, 9), (true, 10), (true, 11), (true, 12), (false, 1), (false, 13), (true, 14)] (by kernel_rfl) (by kernel_rfl) (by kernel_rfl) (by kernel_rfl) HM2.out.drew ?_
            (repeat (first | (refine wpSch_yes (v := ?_) rfl (fun _ _ _ h => h) (by rfl) ?_ ?_; rotate_left; (next => (intro w hSw; obtain ⟨a0, a1, a2, a3, a4, a5, a6, a7, a8⟩ := spl_cells (RS.b hSw); obtain ⟨c0, c1, c2, c3, c4, c5, c6, c7⟩ := RM.own (RS.m hSw); obtain ⟨m0, m1, m2, m3, m4, m5, m6, m7⟩ := RM.own' (RS.m hSw); have cb := RM.best (RS.m hSw); clear hSw; go_simp; (try with_reducible rfl))); (try simp only [Act.put, List.setIfInBounds_toArray, List.set_cons_zero, List.set_cons_succ])) | (refine wpSch_no rfl (fun _ _ _ h => h) (by rfl) ?_; (try simp only [Act.put, List.setIfInBounds_toArray, List.set_cons_zero, List.set_cons_succ]))))
            refine wpSch_call rfl (by rfl) (fun K hK => ?_)
            go_simp
            refine (rbw_any _ HM2.out.drew.m).mono ?_
            rintro e w' ⟨rfl, rfl⟩
            refine hK.out _ _ HM2.out.drew (fun hHeld => ?_)
            clear hK K hHeld
            (try simp only [Act.put, List.setIfInBounds_toArray, List.set_cons_zero, List.set_cons_succ])
            refine wpSch_call rfl (by rfl) (fun K hK => ?_)
            go_simp
            refine (rwin_any _ _ _ _ _ HBN.out.1 HBN.out.2 HQN.out.1 HQN.out.2 HRN.out.1 HRN.out.2 HTN.out.1 HTN.out.2 HSN.out.1 HSN.out.2 _).mono ?_
            rintro e w' ⟨rfl, rfl⟩
            rw [HW.out]
            refine hK.out _ _ HM2.out.drew (fun hHeld => ?_)
            clear hK K hHeld
            (try simp only [Act.put, List.setIfInBounds_toArray, List.set_cons_zero, List.set_cons_succ])
            (repeat (first | (refine wpSch_yes (v := ?_) rfl (fun _ _ _ h => h) (by rfl) ?_ ?_; rotate_left; (next => (intro w hSw; obtain ⟨a0, a1, a2, a3, a4, a5, a6, a7, a8⟩ := spl_cells (RS.b hSw); obtain ⟨c0, c1, c2, c3, c4, c5, c6, c7⟩ := RM.own (RS.m hSw); obtain ⟨m0, m1, m2, m3, m4, m5, m6, m7⟩ := RM.own' (RS.m hSw); have cb := RM.best (RS.m hSw); clear hSw; go_simp; (try with_reducible rfl))); (try simp only [Act.put, List.setIfInBounds_toArray, List.set_cons_zero, List.set_cons_succ])) | (refine wpSch_no rfl (fun _ _ _ h => h) (by rfl) ?_; (try simp only [Act.put, List.setIfInBounds_toArray, List.set_cons_zero, List.set_cons_succ]))))
            refine wpSch_nil ?_
            have HM3 := Lib.hid HM2.out.drew
            clear HM2
            generalize w2.drew = w3 at *
            obtain ⟨c0, c1, c2, c3, c4, c5, c6, c7⟩ := HM3.out.m.own
            obtain ⟨m0, m1, m2, m3, m4, m5, m6, m7⟩ := HM3.out.m.own'
            obtain ⟨a0, a1, a2, a3, a4, a5, a6, a7, a8⟩ := spl_cells HM3.out.b
            clear c0 c1 c2 c4 c5 c6 c7 m0 m1 m2 m3 m4 m6 m7 a0 a1 a2 a3 a4 a6 a7 a8
            rw [HYN.out] at m5
            rw [HFU.out] at c3
            go_upto_region 8 with fail
            refine wp_region_sch (RS w g k B y G s) [(true, 0), (true, 1), (true, 2), (true, 3), (true, 4), (true, 5), (true, 6), (true, 7), (true, 8), (true, 9), (true, 10), (true, 11), (true, 12), (true, 13), (true, 14), (true, 15), (true, 16)] (by kernel_rfl) (by kernel_rfl) (by kernel_rfl) (by kernel_rfl) HM3.out.drew ?_
            (repeat (first | (refine wpSch_yes (v := ?_) rfl (fun _ _ _ h => h) (by rfl) ?_ ?_; rotate_left; (next => (intro w hSw; obtain ⟨a0, a1, a2, a3, a4, a5, a6, a7, a8⟩ := spl_cells (RS.b hSw); obtain ⟨c0, c1, c2, c3, c4, c5, c6, c7⟩ := RM.own (RS.m hSw); obtain ⟨m0, m1, m2, m3, m4, m5, m6, m7⟩ := RM.own' (RS.m hSw); have cb := RM.best (RS.m hSw); clear hSw; go_simp; (try with_reducible rfl))); (try simp only [Act.put, List.setIfInBounds_toArray, List.set_cons_zero, List.set_cons_succ])) | (refine wpSch_no rfl (fun _ _ _ h => h) (by rfl) ?_; (try simp only [Act.put, List.setIfInBounds_toArray, List.set_cons_zero, List.set_cons_succ]))))
            refine wpSch_nil ?_
            clear c3 m5 a5
            have HM4 : Hid (RS w g k B z G s w3.drew) := Lib.hid (by rw [HZ.out]; exact HM3.out.drew)
            clear HM3
            generalize w3.drew = w4 at *
            go_upto_region 10 with fail
            obtain ⟨mA, hmA⟩ : ∃ S, z.w = S := ⟨_, rfl⟩
            obtain ⟨mB, hmB⟩ : ∃ S, 4 * z.s = S := ⟨_, rfl⟩
            have hw4 : IntKind.u64.wrap (4 * z.s) = 4 * z.s := by have := HFZ.out.s0; have := HFZ.out.s1; rw [IntKind.wrap_u64]; omega
            have HA := Lib.hid hmA
            have HB := Lib.hid hmB
            have HFL : Hid (floorM z = mB) := Lib.hid (by rw [floorM_is HFZ.out.s0 HFZ.out.s1]; exact hmB)
            clear hmA hmB
            refine wp_region_late (RS w g k B z G s) [13] (.yes 0 (.yes 1 (.yes 2 (.yes 3 (.yes 4 (.yes 5 (.yes 6 (.yes 7 (.yes 8 (.yes 9 (.yes 10 (.yes 11 (.yes 12 (.one 13 .nil)))))))))))))) (by kernel_rfl) (by kernel_rfl) (by kernel_rfl) (by kernel_rfl) HM4.out.drew ?_
            iterate 10 (refine wpSchL_yes (v := ?_) rfl (fun _ _ _ h => h) (by rfl) ?_ ?_; rotate_left; (next => (intro w hSw; obtain ⟨a0, a1, a2, a3, a4, a5, a6, a7, a8⟩ := spl_cells (RS.b hSw); obtain ⟨c0, c1, c2, c3, c4, c5, c6, c7⟩ := RM.own (RS.m hSw); obtain ⟨m0, m1, m2, m3, m4, m5, m6, m7⟩ := RM.own' (RS.m hSw); have cb := RM.best (RS.m hSw); clear hSw; go_simp; (try with_reducible rfl))); (try simp only [Act.put, List.setIfInBounds_toArray, List.set_cons_zero, List.set_cons_succ]))
            rw [HA.out, HB.out]
            refine wpSchL_yes (v := .int .u64 (maxI mA mB)) rfl (fun _ _ _ h => h) (by rfl) ?_ ?_
            · (intro w hSw; clear hSw; rcases Int.lt_trichotomy mA mB with hl | hl | hl; (have hn : ¬ mB < mA := (by omega)); (rw [maxI_lt hl]); go_simp; (try with_reducible rfl); subst hl; (rw [maxI_ge (Int.lt_irrefl _)]); (have hn := Int.lt_irrefl mA); go_simp; (try with_reducible rfl); (have hn : ¬ mA < mB := (by omega)); (rw [maxI_ge hn]); go_simp; (try with_reducible rfl))
            (try simp only [Act.put, List.setIfInBounds_toArray, List.set_cons_zero, List.set_cons_succ])
            (repeat (refine wpSchL_yes (v := ?_) rfl (fun _ _ _ h => h) (by rfl) ?_ ?_; rotate_left; (next => (intro w hSw; obtain ⟨a0, a1, a2, a3, a4, a5, a6, a7, a8⟩ := spl_cells (RS.b hSw); obtain ⟨c0, c1, c2, c3, c4, c5, c6, c7⟩ := RM.own (RS.m hSw); obtain ⟨m0, m1, m2, m3, m4, m5, m6, m7⟩ := RM.own' (RS.m hSw); have cb := RM.best (RS.m hSw); clear hSw; go_simp; (try with_reducible rfl))); (try simp only [Act.put, List.setIfInBounds_toArray, List.set_cons_zero, List.set_cons_succ])))
            have m2 := HM4.out.m.own'.2.2.1
            have f2 := HM4.out.m.free 25
            have HM5 := Lib.hid (HM4.out.put (y := { z with w := maxI mA mB }) (H := G) 25 (.int .u64 (maxI mA mB)) (by decide) (fun _ => rfl) rfl rfl rfl).drew
            refine wpSchL_one ?_
            refine wpOneL_call rfl (by rfl) (fun K hK => ?_)
            go_simp
            refine hK.out _ _ (fun h => absurd h (by decide)) (fun hHeld => ?_)
            clear hK K hHeld
            (try simp only [Act.put, List.setIfInBounds_toArray, List.set_cons_zero, List.set_cons_succ])
            clear m2 f2 HM4
            generalize World.drew _ = w5 at *
            generalize hX : maxI mA mB = X at *
            have HX := Lib.hid hX
            clear hX
            refine wpSchL_nil ?_
            obtain ⟨c0, c1, c2, c3, c4, c5, c6, c7⟩ := HM5.out.m.own
            obtain ⟨m0, m1, m2, m3, m4, m5, m6, m7⟩ := HM5.out.m.own'
            clear c1 c2 c3 c4 c5 c6 c7 m1 m3 m4 m5 m6 m7
            have f2 := HM5.out.m.free 25
            by_cases h3 : z.m = 3
            · have e3 : (z.m == 3) = true := by simp [h3]
              have HE : Hid (fitM x s tso = { z with w := mB }) := Lib.hid (by rw [HFI.out]; simp [finM, h3, HFL.out])
              have HM6 := Lib.hid (HM5.out.put (y := { z with w := mB }) (H := G) 25 (.int .u64 mB) (by decide) (fun _ => rfl) rfl rfl rfl)
              rw [← HB.out] at HM6
              clear h3
              go_wp2
              go_end0
              exact ⟨⟨_, rfl⟩, by rw [HE.out, ← HB.out]; exact HM6.out.m, HM6.out.kp⟩
            · have e3 : (z.m == 3) = false := by simp [h3]
              have HE : Hid (fitM x s tso = { z with w := X }) := Lib.hid (by rw [HFI.out, ← HX.out, ← HA.out, ← HFL.out]; simp [finM, h3])
              clear h3
              go_wp2
              go_end0
              exact ⟨⟨_, rfl⟩, by rw [HE.out]; exact HM5.out.m, HM5.out.kp⟩
      · have HZ : Hid (z = { y with w := minI (satAdd y.w s.a) W }) := Lib.hid (by rw [hz]; simp [ackM, hN, ha0, groM, hFU, hW])
        clear hz hN hW h10 hFU ha ha0
        go_enter Tryz.func48, Tryz.ntmps48
        go_upto_region 1 with fail
        generalize hw1 : World.alloc w _ = w1 at *
        have HM1 : Hid (RS w g k w.heap.size x G s w1) := HM
        clear HM hw1
        generalize w.heap.size = B at *
        obtain ⟨mA, hmA⟩ : ∃ L, satSub x.w s.o = L := ⟨_, rfl⟩
        obtain ⟨mB, hmB⟩ : ∃ S, x.s = S := ⟨_, rfl⟩
        have HB := Lib.hid hmB
        have HL := Lib.hid hmA
        have HYL : Hid (y = { x with w := maxI mA mB }) := Lib.hid (by rw [HY.out, ← hmA, ← hmB]; rfl)
        clear hmA hmB
        refine wp_region_late (RS w g k B x G s) [15] (.yes 0 (.yes 1 (.yes 2 (.yes 3 (.yes 4 (.yes 5 (.yes 6 (.yes 8 (.yes 9 (.yes 10 (.yes 11 (.one 7 (.yes 12 (.yes 13 (.yes 14 (.one 15 .nil)))))))))))))))) (by kernel_rfl) (by kernel_rfl) (by kernel_rfl) (by kernel_rfl) HM1.out.drew ?_
        (repeat (refine wpSchL_yes (v := ?_) rfl (fun _ _ _ h => h) (by rfl) ?_ ?_; rotate_left; (next => (intro w hSw; obtain ⟨a0, a1, a2, a3, a4, a5, a6, a7, a8⟩ := spl_cells (RS.b hSw); obtain ⟨c0, c1, c2, c3, c4, c5, c6, c7⟩ := RM.own (RS.m hSw); obtain ⟨m0, m1, m2, m3, m4, m5, m6, m7⟩ := RM.own' (RS.m hSw); have cb := RM.best (RS.m hSw); clear hSw; go_simp; (try with_reducible rfl))); (try simp only [Act.put, List.setIfInBounds_toArray, List.set_cons_zero, List.set_cons_succ])))
        refine wpSchL_one ?_
        refine wpOneL_call rfl (by rfl) (fun K hK => ?_)
        go_simp
        refine (rsub_any _ _ HWN.out.1 HWN.out.2 HS.out.o.1 HS.out.o.2 _).mono ?_
        rintro e w' ⟨rfl, rfl⟩
        rw [HL.out]
        refine hK.out _ _ (fun _ => HM1.out.drew) (fun hHeld => ?_)
        clear hK K hHeld
        (try simp only [Act.put, List.setIfInBounds_toArray, List.set_cons_zero, List.set_cons_succ])
        rw [HB.out]
        refine wpSchL_yes (v := .int .u64 (maxI mA mB)) rfl (fun _ _ _ h => h) (by rfl) ?_ ?_
        · (intro w hSw; clear hSw; rcases Int.lt_trichotomy mA mB with hl | hl | hl; (have hn : ¬ mB < mA := (by omega)); (rw [maxI_lt hl]); go_simp; (try with_reducible rfl); subst hl; (rw [maxI_ge (Int.lt_irrefl _)]); (have hn := Int.lt_irrefl mA); go_simp; (try with_reducible rfl); (have hn : ¬ mA < mB := (by omega)); (rw [maxI_ge hn]); go_simp; (try with_reducible rfl))
        (try simp only [Act.put, List.setIfInBounds_toArray, List.set_cons_zero, List.set_cons_succ])
        (repeat (refine wpSchL_yes (v := ?_) rfl (fun _ _ _ h => h) (by rfl) ?_ ?_; rotate_left; (next => (intro w hSw; obtain ⟨a0, a1, a2, a3, a4, a5, a6, a7, a8⟩ := spl_cells (RS.b hSw); obtain ⟨c0, c1, c2, c3, c4, c5, c6, c7⟩ := RM.own (RS.m hSw); obtain ⟨m0, m1, m2, m3, m4, m5, m6, m7⟩ := RM.own' (RS.m hSw); have cb := RM.best (RS.m hSw); clear hSw; go_simp; (try with_reducible rfl))); (try simp only [Act.put, List.setIfInBounds_toArray, List.set_cons_zero, List.set_cons_succ])))
        have m2 := HM1.out.m.own'.2.2.1
        have f2 := HM1.out.m.free 25
        have HM2 : Hid (RS w g k B y G s ((w1.setCell ⟨g, 25, none⟩ (.int .u64 (maxI mA mB))).drew)) := Lib.hid (by rw [HYL.out]; exact (HM1.out.put (y := { x with w := maxI mA mB }) (H := G) 25 (.int .u64 (maxI mA mB)) (by decide) (fun _ => rfl) rfl rfl rfl).drew)
        refine wpSchL_one ?_
        refine wpOneL_call rfl (by rfl) (fun K hK => ?_)
        go_simp
        refine hK.out _ _ (fun h => absurd h (by decide)) (fun hHeld => ?_)
        clear hK K hHeld
        (try simp only [Act.put, List.setIfInBounds_toArray, List.set_cons_zero, List.set_cons_succ])
        clear m2 f2 HM1 HYL HL HB
        generalize World.drew _ = w2 at *
        refine wpSchL_nil ?_
        go_upto_region 2 with fail
        refine wp_region_sch (RS w g k B y G s) [(true, 0), (true, 2), (true, 3), (true, 4), (true, 5), (true, 6), (true, 7), (true, 8), (true, 9), (true, 10), (true, 11), (true, 12), (false, 1), (false, 13), (true, 14)] (by kernel_rfl) (by kernel_rfl) (by kernel_rfl) (by kernel_rfl) HM2.out.drew ?_
        (repeat (first | (refine wpSch_yes (v := ?_) rfl (fun _ _ _ h => h) (by rfl) ?_ ?_; rotate_left; (next => (intro w hSw; obtain ⟨a0, a1, a2, a3, a4, a5, a6, a7, a8⟩ := spl_cells (RS.b hSw); obtain ⟨c0, c1, c2, c3, c4, c5, c6, c7⟩ := RM.own (RS.m hSw); obtain ⟨m0, m1, m2, m3, m4, m5, m6, m7⟩ := RM.own' (RS.m hSw); have cb := RM.best (RS.m hSw); clear hSw; go_simp; (try with_reducible rfl))); (try simp only [Act.put, List.setIfInBounds_toArray, List.set_cons_zero, List.set_cons_succ])) | (refine wpSch_no rfl (fun _ _ _ h => h) (by rfl) ?_; (try simp only [Act.put, List.setIfInBounds_toArray, List.set_cons_zero, List.set_cons_succ]))))
        refine wpSch_call rfl (by rfl) (fun K hK => ?_)
        go_simp
        refine (rbw_any _ HM2.out.drew.m).mono ?_
        rintro e w' ⟨rfl, rfl⟩
        refine hK.out _ _ HM2.out.drew (fun hHeld => ?_)
        clear hK K hHeld
        (try simp only [Act.put, List.setIfInBounds_toArray, List.set_cons_zero, List.set_cons_succ])
        refine wpSch_call rfl (by rfl) (fun K hK => ?_)
        go_simp
        refine (rwin_any _ _ _ _ _ HBN.out.1 HBN.out.2 HQN.out.1 HQN.out.2 HRN.out.1 HRN.out.2 HTN.out.1 HTN.out.2 HSN.out.1 HSN.out.2 _).mono ?_
        rintro e w' ⟨rfl, rfl⟩
        rw [HW.out]
        refine hK.out _ _ HM2.out.drew (fun hHeld => ?_)
        clear hK K hHeld
        (try simp only [Act.put, List.setIfInBounds_toArray, List.set_cons_zero, List.set_cons_succ])
        (repeat (first | (refine wpSch_yes (v := ?_) rfl (fun _ _ _ h => h) (by rfl) ?_ ?_; rotate_left; (next => (intro w hSw; obtain ⟨a0, a1, a2, a3, a4, a5, a6, a7, a8⟩ := spl_cells (RS.b hSw); obtain ⟨c0, c1, c2, c3, c4, c5, c6, c7⟩ := RM.own (RS.m hSw); obtain ⟨m0, m1, m2, m3, m4, m5, m6, m7⟩ := RM.own' (RS.m hSw); have cb := RM.best (RS.m hSw); clear hSw; go_simp; (try with_reducible rfl))); (try simp only [Act.put, List.setIfInBounds_toArray, List.set_cons_zero, List.set_cons_succ])) | (refine wpSch_no rfl (fun _ _ _ h => h) (by rfl) ?_; (try simp only [Act.put, List.setIfInBounds_toArray, List.set_cons_zero, List.set_cons_succ]))))
        refine wpSch_nil ?_
        have HM3 := Lib.hid HM2.out.drew
        clear HM2
        generalize w2.drew = w3 at *
        obtain ⟨c0, c1, c2, c3, c4, c5, c6, c7⟩ := HM3.out.m.own
        obtain ⟨m0, m1, m2, m3, m4, m5, m6, m7⟩ := HM3.out.m.own'
        obtain ⟨a0, a1, a2, a3, a4, a5, a6, a7, a8⟩ := spl_cells HM3.out.b
        clear c0 c1 c2 c4 c5 c6 c7 m0 m1 m2 m3 m4 m6 m7 a0 a1 a2 a3 a4 a6 a7 a8
        rw [HYN.out] at m5
        rw [HFU.out] at c3
        go_upto_region 7 with fail
        clear c3 m5 a5
        obtain ⟨mA, hmA⟩ : ∃ L, satAdd y.w s.a = L := ⟨_, rfl⟩
        obtain ⟨mB, hmB⟩ : ∃ S, W = S := ⟨_, rfl⟩
        have HB := Lib.hid hmB
        have HL := Lib.hid hmA
        have HZL : Hid (z = { y with w := minI mA mB }) := Lib.hid (by rw [HZ.out, ← hmA, ← hmB])
        clear hmA hmB
        refine wp_region_late (RS w g k B y G s) [12] (.yes 0 (.yes 1 (.yes 2 (.yes 3 (.yes 4 (.yes 5 (.yes 6 (.yes 8 (.one 7 (.yes 9 (.yes 10 (.yes 11 (.one 12 .nil))))))))))))) (by kernel_rfl) (by kernel_rfl) (by kernel_rfl) (by kernel_rfl) HM3.out.drew ?_
        (repeat (refine wpSchL_yes (v := ?_) rfl (fun _ _ _ h => h) (by rfl) ?_ ?_; rotate_left; (next => (intro w hSw; obtain ⟨a0, a1, a2, a3, a4, a5, a6, a7, a8⟩ := spl_cells (RS.b hSw); obtain ⟨c0, c1, c2, c3, c4, c5, c6, c7⟩ := RM.own (RS.m hSw); obtain ⟨m0, m1, m2, m3, m4, m5, m6, m7⟩ := RM.own' (RS.m hSw); have cb := RM.best (RS.m hSw); clear hSw; go_simp; (try with_reducible rfl))); (try simp only [Act.put, List.setIfInBounds_toArray, List.set_cons_zero, List.set_cons_succ])))
        refine wpSchL_one ?_
        refine wpOneL_call rfl (by rfl) (fun K hK => ?_)
        go_simp
        refine (radd_any _ _ HYW.out.1 HYW.out.2 HS.out.a.1 HS.out.a.2 _).mono ?_
        rintro e w' ⟨rfl, rfl⟩
        rw [HL.out]
        refine hK.out _ _ (fun _ => HM3.out.drew) (fun hHeld => ?_)
        clear hK K hHeld
        (try simp only [Act.put, List.setIfInBounds_toArray, List.set_cons_zero, List.set_cons_succ])
        rw [HB.out]
        refine wpSchL_yes (v := .int .u64 (minI mA mB)) rfl (fun _ _ _ h => h) (by rfl) ?_ ?_
        · (intro w hSw; clear hSw; rcases Int.lt_trichotomy mA mB with hl | hl | hl; (have hn : ¬ mB < mA := (by omega)); (rw [minI_lt hl]); go_simp; (try with_reducible rfl); subst hl; (rw [minI_ge (Int.lt_irrefl _)]); (have hn := Int.lt_irrefl mA); go_simp; (try with_reducible rfl); (have hn : ¬ mA < mB := (by omega)); (rw [minI_ge hn]); go_simp; (try with_reducible rfl))
        (try simp only [Act.put, List.setIfInBounds_toArray, List.set_cons_zero, List.set_cons_succ])
        (repeat (refine wpSchL_yes (v := ?_) rfl (fun _ _ _ h => h) (by rfl) ?_ ?_; rotate_left; (next => (intro w hSw; obtain ⟨a0, a1, a2, a3, a4, a5, a6, a7, a8⟩ := spl_cells (RS.b hSw); obtain ⟨c0, c1, c2, c3, c4, c5, c6, c7⟩ := RM.own (RS.m hSw); obtain ⟨m0, m1, m2, m3, m4, m5, m6, m7⟩ := RM.own' (RS.m hSw); have cb := RM.best (RS.m hSw); clear hSw; go_simp; (try with_reducible rfl))); (try simp only [Act.put, List.setIfInBounds_toArray, List.set_cons_zero, List.set_cons_succ])))
        have m2 := HM3.out.m.own'.2.2.1
        have f2 := HM3.out.m.free 25
        have HM4 : Hid (RS w g k B z G s ((w3.setCell ⟨g, 25, none⟩ (.int .u64 (minI mA mB))).drew)) := Lib.hid (by rw [HZL.out]; exact (HM3.out.put (y := { y with w := minI mA mB }) (H := G) 25 (.int .u64 (minI mA mB)) (by decide) (fun _ => rfl) rfl rfl rfl).drew)
        refine wpSchL_one ?_
        refine wpOneL_call rfl (by rfl) (fun K hK => ?_)
        go_simp
        refine hK.out _ _ (fun h => absurd h (by decide)) (fun hHeld => ?_)
        clear hK K hHeld
        (try simp only [Act.put, List.setIfInBounds_toArray, List.set_cons_zero, List.set_cons_succ])
        clear m2 f2 HM3 HZL HL HB
        generalize World.drew _ = w4 at *
        refine wpSchL_nil ?_
        go_upto_region 10 with fail
        obtain ⟨mA, hmA⟩ : ∃ S, z.w = S := ⟨_, rfl⟩
        obtain ⟨mB, hmB⟩ : ∃ S, 4 * z.s = S := ⟨_, rfl⟩
        have hw4 : IntKind.u64.wrap (4 * z.s) = 4 * z.s := by have := HFZ.out.s0; have := HFZ.out.s1; rw [IntKind.wrap_u64]; omega
        have HA := Lib.hid hmA
        have HB := Lib.hid hmB
        have HFL : Hid (floorM z = mB) := Lib.hid (by rw [floorM_is HFZ.out.s0 HFZ.out.s1]; exact hmB)
        clear hmA hmB
        refine wp_region_late (RS w g k B z G s) [13] (.yes 0 (.yes 1 (.yes 2 (.yes 3 (.yes 4 (.yes 5 (.yes 6 (.yes 7 (.yes 8 (.yes 9 (.yes 10 (.yes 11 (.yes 12 (.one 13 .nil)))))))))))))) (by kernel_rfl) (by kernel_rfl) (by kernel_rfl) (by kernel_rfl) HM4.out.drew ?_
        iterate 10 (refine wpSchL_yes (v := ?_) rfl (fun _ _ _ h => h) (by rfl) ?_ ?_; rotate_left; (next => (intro w hSw; obtain ⟨a0, a1, a2, a3, a4, a5, a6, a7, a8⟩ := spl_cells (RS.b hSw); obtain ⟨c0, c1, c2, c3, c4, c5, c6, c7⟩ := RM.own (RS.m hSw); obtain ⟨m0, m1, m2, m3, m4, m5, m6, m7⟩ := RM.own' (RS.m hSw); have cb := RM.best (RS.m hSw); clear hSw; go_simp; (try with_reducible rfl))); (try simp only [Act.put, List.setIfInBounds_toArray, List.set_cons_zero, List.set_cons_succ]))
        rw [HA.out, HB.out]
        refine wpSchL_yes (v := .int .u64 (maxI mA mB)) rfl (fun _ _ _ h => h) (by rfl) ?_ ?_
        · (intro w hSw; clear hSw; rcases Int.lt_trichotomy mA mB with hl | hl | hl; (have hn : ¬ mB < mA := (by omega)); (rw [maxI_lt hl]); go_simp; (try with_reducible rfl); subst hl; (rw [maxI_ge (Int.lt_irrefl _)]); (have hn := Int.lt_irrefl mA); go_simp; (try with_reducible rfl); (have hn : ¬ mA < mB := (by omega)); (rw [maxI_ge hn]); go_simp; (try with_reducible rfl))
        (try simp only [Act.put, List.setIfInBounds_toArray, List.set_cons_zero, List.set_cons_succ])
        (repeat (refine wpSchL_yes (v := ?_) rfl (fun _ _ _ h => h) (by rfl) ?_ ?_; rotate_left; (next => (intro w hSw; obtain ⟨a0, a1, a2, a3, a4, a5, a6, a7, a8⟩ := spl_cells (RS.b hSw); obtain ⟨c0, c1, c2, c3, c4, c5, c6, c7⟩ := RM.own (RS.m hSw); obtain ⟨m0, m1, m2, m3, m4, m5, m6, m7⟩ := RM.own' (RS.m hSw); have cb := RM.best (RS.m hSw); clear hSw; go_simp; (try with_reducible rfl))); (try simp only [Act.put, List.setIfInBounds_toArray, List.set_cons_zero, List.set_cons_succ])))
        have m2 := HM4.out.m.own'.2.2.1
        have f2 := HM4.out.m.free 25
        have HM5 := Lib.hid (HM4.out.put (y := { z with w := maxI mA mB }) (H := G) 25 (.int .u64 (maxI mA mB)) (by decide) (fun _ => rfl) rfl rfl rfl).drew
        refine wpSchL_one ?_
        refine wpOneL_call rfl (by rfl) (fun K hK => ?_)
        go_simp
        refine hK.out _ _ (fun h => absurd h (by decide)) (fun hHeld => ?_)
        clear hK K hHeld
        (try simp only [Act.put, List.setIfInBounds_toArray, List.set_cons_zero, List.set_cons_succ])
        clear m2 f2 HM4
        generalize World.drew _ = w5 at *
        generalize hX : maxI mA mB = X at *
        have HX := Lib.hid hX
        clear hX
        refine wpSchL_nil ?_
        obtain ⟨c0, c1, c2, c3, c4, c5, c6, c7⟩ := HM5.out.m.own
        obtain ⟨m0, m1, m2, m3, m4, m5, m6, m7⟩ := HM5.out.m.own'
        clear c1 c2 c3 c4 c5 c6 c7 m1 m3 m4 m5 m6 m7
        have f2 := HM5.out.m.free 25
        by_cases h3 : z.m = 3
        · have e3 : (z.m == 3) = true := by simp [h3]
          have HE : Hid (fitM x s tso = { z with w := mB }) := Lib.hid (by rw [HFI.out]; simp [finM, h3, HFL.out])
          have HM6 := Lib.hid (HM5.out.put (y := { z with w := mB }) (H := G) 25 (.int .u64 mB) (by decide) (fun _ => rfl) rfl rfl rfl)
          rw [← HB.out] at HM6
          clear h3
          go_wp2
          go_end0
          exact ⟨⟨_, rfl⟩, by rw [HE.out, ← HB.out]; exact HM6.out.m, HM6.out.kp⟩
        · have e3 : (z.m == 3) = false := by simp [h3]
          have HE : Hid (fitM x s tso = { z with w := X }) := Lib.hid (by rw [HFI.out, ← HX.out, ← HA.out, ← HFL.out]; simp [finM, h3])
          clear h3
          go_wp2
          go_end0
          exact ⟨⟨_, rfl⟩, by rw [HE.out]; exact HM5.out.m, HM5.out.kp⟩
  · have HZ : Hid (z = { y with w := maxI y.w (satAdd s.f s.a) }) := Lib.hid (by rw [hz]; simp [ackM, hN])
    clear hz hN hW h10 hFU
    go_enter Tryz.func48, Tryz.ntmps48
    go_upto_region 1 with fail
    generalize hw1 : World.alloc w _ = w1 at *
    have HM1 : Hid (RS w g k w.heap.size x G s w1) := HM
    clear HM hw1
    generalize w.heap.size = B at *
    obtain ⟨mA, hmA⟩ : ∃ L, satSub x.w s.o = L := ⟨_, rfl⟩
    obtain ⟨mB, hmB⟩ : ∃ S, x.s = S := ⟨_, rfl⟩
    have HB := Lib.hid hmB
    have HL := Lib.hid hmA
    have HYL : Hid (y = { x with w := maxI mA mB }) := Lib.hid (by rw [HY.out, ← hmA, ← hmB]; rfl)
    clear hmA hmB
    refine wp_region_late (RS w g k B x G s) [15] (.yes 0 (.yes 1 (.yes 2 (.yes 3 (.yes 4 (.yes 5 (.yes 6 (.yes 8 (.yes 9 (.yes 10 (.yes 11 (.one 7 (.yes 12 (.yes 13 (.yes 14 (.one 15 .nil)))))))))))))))) (by kernel_rfl) (by kernel_rfl) (by kernel_rfl) (by kernel_rfl) HM1.out.drew ?_
    (repeat (refine wpSchL_yes (v := ?_) rfl (fun _ _ _ h => h) (by rfl) ?_ ?_; rotate_left; (next => (intro w hSw; obtain ⟨a0, a1, a2, a3, a4, a5, a6, a7, a8⟩ := spl_cells (RS.b hSw); obtain ⟨c0, c1, c2, c3, c4, c5, c6, c7⟩ := RM.own (RS.m hSw); obtain ⟨m0, m1, m2, m3, m4, m5, m6, m7⟩ := RM.own' (RS.m hSw); have cb := RM.best (RS.m hSw); clear hSw; go_simp; (try with_reducible rfl))); (try simp only [Act.put, List.setIfInBounds_toArray, List.set_cons_zero, List.set_cons_succ])))
    refine wpSchL_one ?_
    refine wpOneL_call rfl (by rfl) (fun K hK => ?_)
    go_simp
    refine (rsub_any _ _ HWN.out.1 HWN.out.2 HS.out.o.1 HS.out.o.2 _).mono ?_
    rintro e w' ⟨rfl, rfl⟩
    rw [HL.out]
    refine hK.out _ _ (fun _ => HM1.out.drew) (fun hHeld => ?_)
    clear hK K hHeld
    (try simp only [Act.put, List.setIfInBounds_toArray, List.set_cons_zero, List.set_cons_succ])
    rw [HB.out]
    refine wpSchL_yes (v := .int .u64 (maxI mA mB)) rfl (fun _ _ _ h => h) (by rfl) ?_ ?_
    · (intro w hSw; clear hSw; rcases Int.lt_trichotomy mA mB with hl | hl | hl; (have hn : ¬ mB < mA := (by omega)); (rw [maxI_lt hl]); go_simp; (try with_reducible rfl); subst hl; (rw [maxI_ge (Int.lt_irrefl _)]); (have hn := Int.lt_irrefl mA); go_simp; (try with_reducible rfl); (have hn : ¬ mA < mB := (by omega)); (rw [maxI_ge hn]); go_simp; (try with_reducible rfl))
    (try simp only [Act.put, List.setIfInBounds_toArray, List.set_cons_zero, List.set_cons_succ])
    (repeat (refine wpSchL_yes (v := ?_) rfl (fun _ _ _ h => h) (by rfl) ?_ ?_; rotate_left; (next => (intro w hSw; obtain ⟨a0, a1, a2, a3, a4, a5, a6, a7, a8⟩ := spl_cells (RS.b hSw); obtain ⟨c0, c1, c2, c3, c4, c5, c6, c7⟩ := RM.own (RS.m hSw); obtain ⟨m0, m1, m2, m3, m4, m5, m6, m7⟩ := RM.own' (RS.m hSw); have cb := RM.best (RS.m hSw); clear hSw; go_simp; (try with_reducible rfl))); (try simp only [Act.put, List.setIfInBounds_toArray, List.set_cons_zero, List.set_cons_succ])))
    have m2 := HM1.out.m.own'.2.2.1
    have f2 := HM1.out.m.free 25
    have HM2 : Hid (RS w g k B y G s ((w1.setCell ⟨g, 25, none⟩ (.int .u64 (maxI mA mB))).drew)) := Lib.hid (by rw [HYL.out]; exact (HM1.out.put (y := { x with w := maxI mA mB }) (H := G) 25 (.int .u64 (maxI mA mB)) (by decide) (fun _ => rfl) rfl rfl rfl).drew)
    refine wpSchL_one ?_
    refine wpOneL_call rfl (by rfl) (fun K hK => ?_)
    go_simp
    refine hK.out _ _ (fun h => absurd h (by decide)) (fun hHeld => ?_)
    clear hK K hHeld
    (try simp only [Act.put, List.setIfInBounds_toArray, List.set_cons_zero, List.set_cons_succ])
    clear m2 f2 HM1 HYL HL HB
    generalize World.drew _ = w2 at *
    refine wpSchL_nil ?_
    go_upto_region 2 with fail
    refine wp_region_sch (RS w g k B y G s) [(true, 0), (true, 2), (true, 3), (true, 4), (true, 5), (true, 6), (true, 7), (true, 8), (true, 9), (true, 10), (true, 11), (true, 12), (false, 1), (false, 13), (true, 14)] (by kernel_rfl) (by kernel_rfl) (by kernel_rfl) (by kernel_rfl) HM2.out.drew ?_
    (repeat (first | (refine wpSch_yes (v := ?_) rfl (fun _ _ _ h => h) (by rfl) ?_ ?_; rotate_left; (next => (intro w hSw; obtain ⟨a0, a1, a2, a3, a4, a5, a6, a7, a8⟩ := spl_cells (RS.b hSw); obtain ⟨c0, c1, c2, c3, c4, c5, c6, c7⟩ := RM.own (RS.m hSw); obtain ⟨m0, m1, m2, m3, m4, m5, m6, m7⟩ := RM.own' (RS.m hSw); have cb := RM.best (RS.m hSw); clear hSw; go_simp; (try with_reducible rfl))); (try simp only [Act.put, List.setIfInBounds_toArray, List.set_cons_zero, List.set_cons_succ])) | (refine wpSch_no rfl (fun _ _ _ h => h) (by rfl) ?_; (try simp only [Act.put, List.setIfInBounds_toArray, List.set_cons_zero, List.set_cons_succ]))))
    refine wpSch_call rfl (by rfl) (fun K hK => ?_)
    go_simp
    refine (rbw_any _ HM2.out.drew.m).mono ?_
    rintro e w' ⟨rfl, rfl⟩
    refine hK.out _ _ HM2.out.drew (fun hHeld => ?_)
    clear hK K hHeld
    (try simp only [Act.put, List.setIfInBounds_toArray, List.set_cons_zero, List.set_cons_succ])
    refine wpSch_call rfl (by rfl) (fun K hK => ?_)
    go_simp
    refine (rwin_any _ _ _ _ _ HBN.out.1 HBN.out.2 HQN.out.1 HQN.out.2 HRN.out.1 HRN.out.2 HTN.out.1 HTN.out.2 HSN.out.1 HSN.out.2 _).mono ?_
    rintro e w' ⟨rfl, rfl⟩
    rw [HW.out]
    refine hK.out _ _ HM2.out.drew (fun hHeld => ?_)
    clear hK K hHeld
    (try simp only [Act.put, List.setIfInBounds_toArray, List.set_cons_zero, List.set_cons_succ])
    (repeat (first | (refine wpSch_yes (v := ?_) rfl (fun _ _ _ h => h) (by rfl) ?_ ?_; rotate_left; (next => (intro w hSw; obtain ⟨a0, a1, a2, a3, a4, a5, a6, a7, a8⟩ := spl_cells (RS.b hSw); obtain ⟨c0, c1, c2, c3, c4, c5, c6, c7⟩ := RM.own (RS.m hSw); obtain ⟨m0, m1, m2, m3, m4, m5, m6, m7⟩ := RM.own' (RS.m hSw); have cb := RM.best (RS.m hSw); clear hSw; go_simp; (try with_reducible rfl))); (try simp only [Act.put, List.setIfInBounds_toArray, List.set_cons_zero, List.set_cons_succ])) | (refine wpSch_no rfl (fun _ _ _ h => h) (by rfl) ?_; (try simp only [Act.put, List.setIfInBounds_toArray, List.set_cons_zero, List.set_cons_succ]))))
    refine wpSch_nil ?_
    have HM3 := Lib.hid HM2.out.drew
    clear HM2
    generalize w2.drew = w3 at *
    obtain ⟨c0, c1, c2, c3, c4, c5, c6, c7⟩ := HM3.out.m.own
    obtain ⟨m0, m1, m2, m3, m4, m5, m6, m7⟩ := HM3.out.m.own'
    obtain ⟨a0, a1, a2, a3, a4, a5, a6, a7, a8⟩ := spl_cells HM3.out.b
    clear c0 c1 c2 c4 c5 c6 c7 m0 m1 m2 m3 m4 m6 m7 a0 a1 a2 a3 a4 a6 a7 a8
    rw [HYN.out] at m5
    rw [HFU.out] at c3
    go_upto_region 4 with fail
    clear c3 m5 a5
    obtain ⟨mB, hmB⟩ : ∃ L, satAdd s.f s.a = L := ⟨_, rfl⟩
    obtain ⟨mA, hmA⟩ : ∃ S, y.w = S := ⟨_, rfl⟩
    have HB := Lib.hid hmA
    have HL := Lib.hid hmB
    have HZL : Hid (z = { y with w := maxI mA mB }) := Lib.hid (by rw [HZ.out, ← hmA, ← hmB])
    clear hmA hmB
    refine wp_region_late (RS w g k B y G s) [13] (.yes 0 (.yes 1 (.yes 2 (.yes 3 (.yes 4 (.yes 5 (.yes 6 (.yes 7 (.yes 8 (.one 9 (.yes 10 (.yes 11 (.yes 12 (.one 13 .nil)))))))))))))) (by kernel_rfl) (by kernel_rfl) (by kernel_rfl) (by kernel_rfl) HM3.out.drew ?_
    (repeat (refine wpSchL_yes (v := ?_) rfl (fun _ _ _ h => h) (by rfl) ?_ ?_; rotate_left; (next => (intro w hSw; obtain ⟨a0, a1, a2, a3, a4, a5, a6, a7, a8⟩ := spl_cells (RS.b hSw); obtain ⟨c0, c1, c2, c3, c4, c5, c6, c7⟩ := RM.own (RS.m hSw); obtain ⟨m0, m1, m2, m3, m4, m5, m6, m7⟩ := RM.own' (RS.m hSw); have cb := RM.best (RS.m hSw); clear hSw; go_simp; (try with_reducible rfl))); (try simp only [Act.put, List.setIfInBounds_toArray, List.set_cons_zero, List.set_cons_succ])))
    refine wpSchL_one ?_
    refine wpOneL_call rfl (by rfl) (fun K hK => ?_)
    go_simp
    refine (radd_any _ _ HS.out.f.1 HS.out.f.2 HS.out.a.1 HS.out.a.2 _).mono ?_
    rintro e w' ⟨rfl, rfl⟩
    rw [HL.out]
    refine hK.out _ _ (fun _ => HM3.out.drew) (fun hHeld => ?_)
    clear hK K hHeld
    (try simp only [Act.put, List.setIfInBounds_toArray, List.set_cons_zero, List.set_cons_succ])
    rw [HB.out]
    refine wpSchL_yes (v := .int .u64 (maxI mA mB)) rfl (fun _ _ _ h => h) (by rfl) ?_ ?_
    · (intro w hSw; clear hSw; rcases Int.lt_trichotomy mA mB with hl | hl | hl; (have hn : ¬ mB < mA := (by omega)); (rw [maxI_lt hl]); go_simp; (try with_reducible rfl); subst hl; (rw [maxI_ge (Int.lt_irrefl _)]); (have hn := Int.lt_irrefl mA); go_simp; (try with_reducible rfl); (have hn : ¬ mA < mB := (by omega)); (rw [maxI_ge hn]); go_simp; (try with_reducible rfl))
    (try simp only [Act.put, List.setIfInBounds_toArray, List.set_cons_zero, List.set_cons_succ])
    (repeat (refine wpSchL_yes (v := ?_) rfl (fun _ _ _ h => h) (by rfl) ?_ ?_; rotate_left; (next => (intro w hSw; obtain ⟨a0, a1, a2, a3, a4, a5, a6, a7, a8⟩ := spl_cells (RS.b hSw); obtain ⟨c0, c1, c2, c3, c4, c5, c6, c7⟩ := RM.own (RS.m hSw); obtain ⟨m0, m1, m2, m3, m4, m5, m6, m7⟩ := RM.own' (RS.m hSw); have cb := RM.best (RS.m hSw); clear hSw; go_simp; (try with_reducible rfl))); (try simp only [Act.put, List.setIfInBounds_toArray, List.set_cons_zero, List.set_cons_succ])))
    have m2 := HM3.out.m.own'.2.2.1
    have f2 := HM3.out.m.free 25
    have HM4 : Hid (RS w g k B z G s ((w3.setCell ⟨g, 25, none⟩ (.int .u64 (maxI mA mB))).drew)) := Lib.hid (by rw [HZL.out]; exact (HM3.out.put (y := { y with w := maxI mA mB }) (H := G) 25 (.int .u64 (maxI mA mB)) (by decide) (fun _ => rfl) rfl rfl rfl).drew)
    refine wpSchL_one ?_
    refine wpOneL_call rfl (by rfl) (fun K hK => ?_)
    go_simp
    refine hK.out _ _ (fun h => absurd h (by decide)) (fun hHeld => ?_)
    clear hK K hHeld
    (try simp only [Act.put, List.setIfInBounds_toArray, List.set_cons_zero, List.set_cons_succ])
    clear m2 f2 HM3 HZL HL HB
    generalize World.drew _ = w4 at *
    refine wpSchL_nil ?_
    go_upto_region 10 with fail
    obtain ⟨mA, hmA⟩ : ∃ S, z.w = S := ⟨_, rfl⟩
    obtain ⟨mB, hmB⟩ : ∃ S, 4 * z.s = S := ⟨_, rfl⟩
    have hw4 : IntKind.u64.wrap (4 * z.s) = 4 * z.s := by have := HFZ.out.s0; have := HFZ.out.s1; rw [IntKind.wrap_u64]; omega
    have HA := Lib.hid hmA
    have HB := Lib.hid hmB
    have HFL : Hid (floorM z = mB) := Lib.hid (by rw [floorM_is HFZ.out.s0 HFZ.out.s1]; exact hmB)
    clear hmA hmB
    refine wp_region_late (RS w g k B z G s) [13] (.yes 0 (.yes 1 (.yes 2 (.yes 3 (.yes 4 (.yes 5 (.yes 6 (.yes 7 (.yes 8 (.yes 9 (.yes 10 (.yes 11 (.yes 12 (.one 13 .nil)))))))))))))) (by kernel_rfl) (by kernel_rfl) (by kernel_rfl) (by kernel_rfl) HM4.out.drew ?_
    iterate 10 (refine wpSchL_yes (v := ?_) rfl (fun _ _ _ h => h) (by rfl) ?_ ?_; rotate_left; (next => (intro w hSw; obtain ⟨a0, a1, a2, a3, a4, a5, a6, a7, a8⟩ := spl_cells (RS.b hSw); obtain ⟨c0, c1, c2, c3, c4, c5, c6, c7⟩ := RM.own (RS.m hSw); obtain ⟨m0, m1, m2, m3, m4, m5, m6, m7⟩ := RM.own' (RS.m hSw); have cb := RM.best (RS.m hSw); clear hSw; go_simp; (try with_reducible rfl))); (try simp only [Act.put, List.setIfInBounds_toArray, List.set_cons_zero, List.set_cons_succ]))
    rw [HA.out, HB.out]
    refine wpSchL_yes (v := .int .u64 (maxI mA mB)) rfl (fun _ _ _ h => h) (by rfl) ?_ ?_
    · (intro w hSw; clear hSw; rcases Int.lt_trichotomy mA mB with hl | hl | hl; (have hn : ¬ mB < mA := (by omega)); (rw [maxI_lt hl]); go_simp; (try with_reducible rfl); subst hl; (rw [maxI_ge (Int.lt_irrefl _)]); (have hn := Int.lt_irrefl mA); go_simp; (try with_reducible rfl); (have hn : ¬ mA < mB := (by omega)); (rw [maxI_ge hn]); go_simp; (try with_reducible rfl))
    (try simp only [Act.put, List.setIfInBounds_toArray, List.set_cons_zero, List.set_cons_succ])
    (repeat (refine wpSchL_yes (v := ?_) rfl (fun _ _ _ h => h) (by rfl) ?_ ?_; rotate_left; (next => (intro w hSw; obtain ⟨a0, a1, a2, a3, a4, a5, a6, a7, a8⟩ := spl_cells (RS.b hSw); obtain ⟨c0, c1, c2, c3, c4, c5, c6, c7⟩ := RM.own (RS.m hSw); obtain ⟨m0, m1, m2, m3, m4, m5, m6, m7⟩ := RM.own' (RS.m hSw); have cb := RM.best (RS.m hSw); clear hSw; go_simp; (try with_reducible rfl))); (try simp only [Act.put, List.setIfInBounds_toArray, List.set_cons_zero, List.set_cons_succ])))
    have m2 := HM4.out.m.own'.2.2.1
    have f2 := HM4.out.m.free 25
    have HM5 := Lib.hid (HM4.out.put (y := { z with w := maxI mA mB }) (H := G) 25 (.int .u64 (maxI mA mB)) (by decide) (fun _ => rfl) rfl rfl rfl).drew
    refine wpSchL_one ?_
    refine wpOneL_call rfl (by rfl) (fun K hK => ?_)
    go_simp
    refine hK.out _ _ (fun h => absurd h (by decide)) (fun hHeld => ?_)
    clear hK K hHeld
    (try simp only [Act.put, List.setIfInBounds_toArray, List.set_cons_zero, List.set_cons_succ])
    clear m2 f2 HM4
    generalize World.drew _ = w5 at *
    generalize hX : maxI mA mB = X at *
    have HX := Lib.hid hX
    clear hX
    refine wpSchL_nil ?_
    obtain ⟨c0, c1, c2, c3, c4, c5, c6, c7⟩ := HM5.out.m.own
    obtain ⟨m0, m1, m2, m3, m4, m5, m6, m7⟩ := HM5.out.m.own'
    clear c1 c2 c3 c4 c5 c6 c7 m1 m3 m4 m5 m6 m7
    have f2 := HM5.out.m.free 25
    by_cases h3 : z.m = 3
    · have e3 : (z.m == 3) = true := by simp [h3]
      have HE : Hid (fitM x s tso = { z with w := mB }) := Lib.hid (by rw [HFI.out]; simp [finM, h3, HFL.out])
      have HM6 := Lib.hid (HM5.out.put (y := { z with w := mB }) (H := G) 25 (.int .u64 mB) (by decide) (fun _ => rfl) rfl rfl rfl)
      rw [← HB.out] at HM6
      clear h3
      go_wp2
      go_end0
      exact ⟨⟨_, rfl⟩, by rw [HE.out, ← HB.out]; exact HM6.out.m, HM6.out.kp⟩
    · have e3 : (z.m == 3) = false := by simp [h3]
      have HE : Hid (fitM x s tso = { z with w := X }) := Lib.hid (by rw [HFI.out, ← HX.out, ← HA.out, ← HFL.out]; simp [finM, h3])
      clear h3
      go_wp2
      go_end0
      exact ⟨⟨_, rfl⟩, by rw [HE.out]; exact HM5.out.m, HM5.out.kp⟩
end Go.Proofs.YtcjgpkjhfbamfaaGreat
