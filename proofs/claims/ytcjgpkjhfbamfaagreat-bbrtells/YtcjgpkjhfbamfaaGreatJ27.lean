/-
  The document's own model: modes (steps 3 to 5): what it leaves. Conditions: numbers are of 64 bits.
-/
import Derived.Test.YtcjgpkjhfbamfaaGreatJ23
import Derived.Test.YtcjgpkjhfbamfaaGreatJ25
import Derived.Test.YtcjgpkjhfbamfaaGreatJ26
set_option linter.unusedVariables false
set_option linter.unusedSimpArgs false
namespace Go.Proofs.YtcjgpkjhfbamfaaGreat
open Go.RowKit
set_option maxRecDepth 100000
def c1M (x : Mdl) : Bool := (x.m == 2) && !x.o.u
def c2M (x : Mdl) : Bool := (x.m == 0) && fullP x.p
def c3M (x : Mdl) (s : Spl) : Bool := (x.m == 1) && decide (0 < x.q.b) && decide (s.f ≤ bdpM x 256)
theorem turM_c (x : Mdl) (s : Spl) : turM x s = if c1M x = true then { x with c := updC x.c (lokM x s) } else x := by
  unfold turM c1M
  by_cases h2 : x.m = 2 <;> cases hu : x.o.u <;> simp [h2]
theorem walM_c (x : Mdl) (s : Spl) (hq : 0 ≤ x.q.b) : walM x s = (if c3M (if c2M x = true then { x with m := 1 } else x) s = true then cruM (if c2M x = true then { x with m := 1 } else x) s.n else (if c2M x = true then { x with m := 1 } else x)) := by
  have hd : ∀ y : Mdl, 0 ≤ y.q.b → y.m = 1 → draM y s = if c3M y s = true then cruM y s.n else y := fun y hy h1 => by
    unfold draM c3M
    by_cases h0 : y.q.b = 0
    · simp [h1, h0]
    · have : 0 < y.q.b := by omega
      by_cases hf : bdpM y 256 < s.f
      · have : ¬ s.f ≤ bdpM y 256 := by omega
        simp [h0, hf, this]
      · have : s.f ≤ bdpM y 256 := by omega
        simp [h0, hf, this, h1, show (0 : Int) < y.q.b from by omega]
  unfold walM
  by_cases h0 : x.m = 0
  · by_cases hf : fullP x.p = true
    · rw [if_pos h0, if_pos hf, hd { x with m := 1 } hq rfl]; simp [c2M, h0, hf]
    · have hf' : fullP x.p = false := by simpa using hf
      rw [if_pos h0, if_neg hf]; simp [c2M, h0, hf', c3M]
  · have hc : c2M x = false := by simp [c2M, h0]
    rw [if_neg h0, hc]
    by_cases h1 : x.m = 1
    · rw [if_pos h1, hd x hq h1]; simp
    · rw [if_neg h1]; simp [c3M, h1]
set_option maxHeartbeats 4000000 in
set_option maxRecDepth 100000 in
theorem modes_any (g k : Nat) (x : Mdl) (G : Int) (st : Bool) (s : Spl) (w : World) (h : RM w g k x G) (hf : x.Fit) (hs : s.Fit) :
    Calls Tryz.prog 45 #[.pointer (some ⟨g, 0, none⟩), s.v, .bool st] w fun e w' => (∃ v, e = .returned v) ∧ RM w' g k (looM (walM (pipM (turM x s) st s) s) st s) G ∧ Keep (own2 g k) w w' := by
  have HM := Lib.hid (RS.begin (s := s) h)
  have HF := Lib.hid hf
  have HS := Lib.hid hs
  clear h hf hs
  obtain ⟨x4, hx4⟩ : ∃ y, turM x s = y := ⟨_, rfl⟩
  have HF4 : Hid x4.Fit := Lib.hid (hx4 ▸ HF.out.tur HS.out)
  have HQ4 : Hid (x4.q = x.q) := Lib.hid (hx4 ▸ tur_same.1.q)
  obtain ⟨x5, hx5⟩ : ∃ y, pipM x4 st s = y := ⟨_, rfl⟩
  have HF5 : Hid x5.Fit := Lib.hid (hx5 ▸ HF4.out.pip)
  have HQ5 : Hid (x5.q.b = x.q.b) := Lib.hid (by rw [← hx5]; show x4.q.b = _; rw [HQ4.out])
  obtain ⟨x6, hx6⟩ : ∃ y : Mdl, (if c2M x5 = true then { x5 with m := 1 } else x5) = y := ⟨_, rfl⟩
  have HF6 : Hid x6.Fit := Lib.hid (by rw [← hx6]; split; exact HF5.out.mode (by decide) (by decide); exact HF5.out)
  have HQ6 : Hid (x6.q.b = x.q.b) := Lib.hid (by rw [← hx6]; split <;> exact HQ5.out)
  obtain ⟨x7, hx7⟩ : ∃ y : Mdl, (if c3M x6 s = true then cruM x6 s.n else x6) = y := ⟨_, rfl⟩
  have HF7 : Hid x7.Fit := Lib.hid (by rw [← hx7]; split; exact HF6.out.cru HS.out.n; exact HF6.out)
  have hwal : walM x5 s = x7 := by rw [walM_c x5 s HF5.out.q.b.1, hx6, hx7]
  rw [hx4, hx5, hwal]
  have H4 := Lib.hid hx4; have H5 := Lib.hid hx5; have H6 := Lib.hid hx6; have H7 := Lib.hid hx7
  clear hx4 hx5 hx6 hx7 hwal
  have hcell := HM.out.m.own
  go_enter Tryz.func45, Tryz.ntmps45
  go_upto_region 1 with fail
  generalize hw1 : World.alloc w _ = w1 at *
  have HM1 : Hid (RS w g k w.heap.size x G s w1) := HM
  clear HM hw1
  generalize w.heap.size = B at *
  obtain ⟨c0, c1, c2, c3, c4, c5, c6, c7⟩ := HM1.out.m.own
  obtain ⟨m0, m1, m2, m3, m4, m5, m6, m7⟩ := HM1.out.m.own'
  clear hcell c0 c1 c2 c3 c4 c7 m1 m2 m3 m4 m5 m6 m7
  go_upto_region 2 with fail
  go_cut [26] (fun s26 wx => s26 = .bool (c1M x) ∧ wx = w1)
  case first => as_aux_lemma =>
    obtain ⟨C, hC⟩ : ∃ C, c1M x = C := ⟨_, rfl⟩
    have HC := Lib.hid hC
    by_cases h2 : x.m = 2
    · have e2 : (x.m == 2) = true := by simp [h2]
      have HCC : Hid ((!x.o.u) = c1M x) := Lib.hid (by simp [c1M, h2])
      clear h2 hC
      go_wp2
      go_meet
      exact ⟨congrArg Value.bool HCC.out, rfl⟩
    · have e2 : (x.m == 2) = false := by simp [h2]
      have HCC : Hid (false = c1M x) := Lib.hid (by simp [c1M, h2])
      clear h2 hC
      go_wp2
      go_meet
      exact ⟨congrArg Value.bool HCC.out, rfl⟩
  case rest =>
  obtain ⟨rfl, rfl⟩ := hcut
  go_upto_if 26 with fail
  go_cut [6] (fun s6 wx => s6 = .int .u64 x.q.b ∧ RS w g k B x4 G s wx)
  case first => as_aux_lemma =>
    obtain ⟨C, hC⟩ : ∃ C, c1M x = C := ⟨_, rfl⟩
    have HC := Lib.hid hC
    rw [hC]
    clear hC c5 c6 m0
    cases C
    · have HE : Hid (x4 = x) := Lib.hid (by rw [← H4.out, turM_c, HC.out]; rfl)
      go_wp2
      go_meet
      exact ⟨rfl, by rw [HE.out]; exact HM1.out⟩
    · obtain ⟨A, hA⟩ : ∃ A, bdpM x 320 = A := ⟨_, rfl⟩
      obtain ⟨D, hD⟩ : ∃ D, bdpM x 256 = D := ⟨_, rfl⟩
      have HE : Hid (x4 = { x with c := updC x.c ⟨s.n, x.q.b, s.o, s.f, A, D⟩ }) := Lib.hid (by rw [← H4.out, turM_c, HC.out, if_pos rfl, ← hA, ← hD]; rfl)
      have HA : Hid (bdpV (bwM x) x.q.b 320 = A) := Lib.hid hA
      have HD : Hid (bdpV (bwM x) x.q.b 256 = D) := Lib.hid hD
      have HBN := Lib.hid (bwM_num HF.out)
      have HQN := Lib.hid HF.out.q.b
      clear hA hD
      go_upto_region 3 with fail
      refine wp_region_late (RS w g k B x G s) [18] (.yes 0 (.yes 1 (.yes 2 (.yes 3 (.yes 4 (.yes 5 (.yes 6 (.yes 7 (.yes 8 (.yes 9 (.yes 10 (.yes 12 (.yes 14 (.yes 16 (.one 11 (.one 13 (.one 15 (.one 17 (.one 18 .nil))))))))))))))))))) (by kernel_rfl) (by kernel_rfl) (by kernel_rfl) (by kernel_rfl) HM1.out.drew ?_
      (repeat (refine wpSchL_yes (v := ?_) rfl (fun _ _ _ h => h) (by rfl) ?_ ?_; rotate_left; (next => (intro w hSw; obtain ⟨a0, a1, a2, a3, a4, a5, a6, a7, a8⟩ := spl_cells (RS.b hSw); obtain ⟨c0, c1, c2, c3, c4, c5, c6, c7⟩ := RM.own (RS.m hSw); obtain ⟨m0, m1, m2, m3, m4, m5, m6, m7⟩ := RM.own' (RS.m hSw); have cb := RM.best (RS.m hSw); clear hSw; go_simp; (try with_reducible rfl))); (try simp only [Act.put, List.setIfInBounds_toArray, List.set_cons_zero, List.set_cons_succ])))
      refine wpSchL_one ?_
      refine wpOneL_call rfl (by rfl) (fun K hK => ?_)
      go_simp
      refine (rbw_any _ HM1.out.drew.m).mono ?_
      rintro e w' ⟨rfl, rfl⟩
      refine hK.out _ _ (fun _ => HM1.out.drew) (fun hHeld => ?_)
      clear hK K hHeld
      (try simp only [Act.put, List.setIfInBounds_toArray, List.set_cons_zero, List.set_cons_succ])
      refine wpSchL_one ?_
      refine wpOneL_call rfl (by rfl) (fun K hK => ?_)
      go_simp
      refine (rbdp_any _ _ _ HBN.out.1 HBN.out.2 HQN.out.1 HQN.out.2 (by decide) (by decide) _).mono ?_
      rintro e w' ⟨rfl, rfl⟩
      rw [HA.out]
      refine hK.out _ _ (fun _ => HM1.out.drew) (fun hHeld => ?_)
      clear hK K hHeld
      (try simp only [Act.put, List.setIfInBounds_toArray, List.set_cons_zero, List.set_cons_succ])
      refine wpSchL_one ?_
      refine wpOneL_call rfl (by rfl) (fun K hK => ?_)
      go_simp
      refine (rbw_any _ HM1.out.drew.m).mono ?_
      rintro e w' ⟨rfl, rfl⟩
      refine hK.out _ _ (fun _ => HM1.out.drew) (fun hHeld => ?_)
      clear hK K hHeld
      (try simp only [Act.put, List.setIfInBounds_toArray, List.set_cons_zero, List.set_cons_succ])
      refine wpSchL_one ?_
      refine wpOneL_call rfl (by rfl) (fun K hK => ?_)
      go_simp
      refine (rbdp_any _ _ _ HBN.out.1 HBN.out.2 HQN.out.1 HQN.out.2 (by decide) (by decide) _).mono ?_
      rintro e w' ⟨rfl, rfl⟩
      rw [HD.out]
      refine hK.out _ _ (fun _ => HM1.out.drew) (fun hHeld => ?_)
      clear hK K hHeld
      (try simp only [Act.put, List.setIfInBounds_toArray, List.set_cons_zero, List.set_cons_succ])
      refine wpSchL_one ?_
      refine wpOneL_call rfl (by rfl) (fun K hK => ?_)
      go_simp
      refine (rm_cyc _ ⟨s.n, x.q.b, s.o, s.f, A, D⟩ HM1.out.drew.m HF.out HS.out.n HS.out.o.1).mono ?_
      rintro e w2 ⟨⟨_, rfl⟩, h2, k2⟩
      have HM2 : Hid (RS w g k B x4 G s w2) := Lib.hid (by rw [HE.out]; exact HM1.out.drew.callg h2 k2)
      clear h2 k2
      refine hK.out _ _ (fun h => absurd h (by decide)) (fun hHeld => ?_)
      clear hK K hHeld
      (try simp only [Act.put, List.setIfInBounds_toArray, List.set_cons_zero, List.set_cons_succ])
      refine wpSchL_nil ?_
      go_wp2
      go_meet
      exact ⟨rfl, HM2.out⟩
  case rest =>
  obtain ⟨rfl, hr⟩ := hcut
  have HM2 := Lib.hid hr
  clear hr c5 c6 m0 HM1
  go_upto_region 4 with fail
  refine wp_region_late (RS w g k B x4 G s) [14] (.yes 0 (.yes 1 (.yes 2 (.yes 3 (.yes 4 (.yes 5 (.yes 6 (.yes 7 (.yes 8 (.yes 9 (.yes 10 (.yes 11 (.yes 12 (.yes 13 (.one 14 .nil))))))))))))))) (by kernel_rfl) (by kernel_rfl) (by kernel_rfl) (by kernel_rfl) HM2.out.drew ?_
  (repeat (refine wpSchL_yes (v := ?_) rfl (fun _ _ _ h => h) (by rfl) ?_ ?_; rotate_left; (next => (intro w hSw; obtain ⟨a0, a1, a2, a3, a4, a5, a6, a7, a8⟩ := spl_cells (RS.b hSw); obtain ⟨c0, c1, c2, c3, c4, c5, c6, c7⟩ := RM.own (RS.m hSw); obtain ⟨m0, m1, m2, m3, m4, m5, m6, m7⟩ := RM.own' (RS.m hSw); have cb := RM.best (RS.m hSw); clear hSw; go_simp; (try with_reducible rfl))); (try simp only [Act.put, List.setIfInBounds_toArray, List.set_cons_zero, List.set_cons_succ])))
  refine wpSchL_one ?_
  refine wpOneL_call rfl (by rfl) (fun K hK => ?_)
  go_simp
  refine (rm_pip _ st s.l x4.b.v0 HM2.out.drew.m HF4.out HF4.out.b.b0).mono ?_
  rintro e w3 ⟨⟨_, rfl⟩, h3, k3⟩
  have HM3 : Hid (RS w g k B x5 G s w3) := Lib.hid (by rw [← H5.out]; exact HM2.out.drew.callg h3 k3)
  clear h3 k3 HM2
  refine hK.out _ _ (fun h => absurd h (by decide)) (fun hHeld => ?_)
  clear hK K hHeld
  (try simp only [Act.put, List.setIfInBounds_toArray, List.set_cons_zero, List.set_cons_succ])
  refine wpSchL_nil ?_
  obtain ⟨c0, c1, c2, c3, c4, c5, c6, c7⟩ := HM3.out.m.own
  obtain ⟨m0, m1, m2, m3, m4, m5, m6, m7⟩ := HM3.out.m.own'
  clear c0 c1 c2 c4 c5 c6 c7 m1 m2 m3 m4 m5 m6 m7
  go_upto_region 5 with fail
  go_cut [72] (fun s72 wx => s72 = .bool (c2M x5) ∧ wx = w3)
  case first => as_aux_lemma =>
    by_cases h2 : x5.m = 0
    · have e2 : (x5.m == 0) = true := by simp [h2]
      have HCC : Hid (fullP x5.p = c2M x5) := Lib.hid (by simp [c2M, h2])
      clear h2
      go_wp2
      go_meet
      exact ⟨congrArg Value.bool HCC.out, rfl⟩
    · have e2 : (x5.m == 0) = false := by simp [h2]
      have HCC : Hid (false = c2M x5) := Lib.hid (by simp [c2M, h2])
      clear h2
      go_wp2
      go_meet
      exact ⟨congrArg Value.bool HCC.out, rfl⟩
  case rest =>
  obtain ⟨rfl, rfl⟩ := hcut
  go_upto_if 72 with fail
  go_cut [6] (fun s6 wx => s6 = .int .u64 x.q.b ∧ RS w g k B x6 G s wx)
  case first => as_aux_lemma =>
    obtain ⟨C, hC⟩ : ∃ C, c2M x5 = C := ⟨_, rfl⟩
    rw [hC]
    cases C
    · have HE : Hid (x6 = x5) := Lib.hid (by rw [← H6.out, hC]; rfl)
      clear hC
      go_wp2
      go_meet
      exact ⟨rfl, by rw [HE.out]; exact HM3.out⟩
    · have HE : Hid (x6 = { x5 with m := 1 }) := Lib.hid (by rw [← H6.out, hC]; rfl)
      clear hC
      have f0 := HM3.out.m.free 23
      have HM4 := Lib.hid (HM3.out.put (y := { x5 with m := 1 }) (H := G) 23 (.int .i64 1) (by decide) (fun _ => rfl) rfl rfl rfl)
      go_wp2
      go_meet
      exact ⟨rfl, by rw [HE.out]; exact HM4.out⟩
  case rest =>
  obtain ⟨rfl, hr⟩ := hcut
  have HM4 := Lib.hid hr
  clear hr c3 m0 HM3
  go_upto_region 7 with fail
  go_cut [93, 6] (fun s93 s6 wx => s93 = .bool (c3M x6 s) ∧ s6 = .int .u64 x.q.b ∧ RS w g k B x6 G s wx)
  case first => as_aux_lemma =>
    by_cases h1 : x6.m = 1
    · have e1 : (x6.m == 1) = true := by simp [h1]
      by_cases hb : 0 < x.q.b
      · obtain ⟨D, hD⟩ : ∃ D, bdpM x6 256 = D := ⟨_, rfl⟩
        have HD : Hid (bdpV (bwM x6) x.q.b 256 = D) := Lib.hid (by rw [← HQ6.out]; exact hD)
        have HCC : Hid (decide (s.f ≤ D) = c3M x6 s) := Lib.hid (by
          have hb6 : 0 < x6.q.b := by rw [HQ6.out]; exact hb
          simp [c3M, h1, hb6, hD])
        have HBN := Lib.hid (bwM_num HF6.out)
        have HQN := Lib.hid HF.out.q.b
        clear h1 hD
        refine wp_region_sch (RS w g k B x6 G s) [(true, 0), (true, 1), (true, 2), (true, 3), (true, 4), (true, 5), (true, 6), (true, 7), (true, 8), (true, 9), (true, 10), (true, 11), (true, 12), (true, 14), (false, 13), (false, 15), (true, 16), (true, 17)] (by kernel_rfl) (by kernel_rfl) (by kernel_rfl) (by kernel_rfl) HM4.out.drew ?_
        (repeat (first | (refine wpSch_yes (v := ?_) rfl (fun _ _ _ h => h) (by rfl) ?_ ?_; rotate_left; (next => (intro w hSw; obtain ⟨a0, a1, a2, a3, a4, a5, a6, a7, a8⟩ := spl_cells (RS.b hSw); obtain ⟨c0, c1, c2, c3, c4, c5, c6, c7⟩ := RM.own (RS.m hSw); obtain ⟨m0, m1, m2, m3, m4, m5, m6, m7⟩ := RM.own' (RS.m hSw); have cb := RM.best (RS.m hSw); clear hSw; go_simp; (try with_reducible rfl))); (try simp only [Act.put, List.setIfInBounds_toArray, List.set_cons_zero, List.set_cons_succ])) | (refine wpSch_no rfl (fun _ _ _ h => h) (by rfl) ?_; (try simp only [Act.put, List.setIfInBounds_toArray, List.set_cons_zero, List.set_cons_succ]))))
        refine wpSch_call rfl (by rfl) (fun K hK => ?_)
        go_simp
        refine (rbw_any _ HM4.out.drew.m).mono ?_
        rintro e w' ⟨rfl, rfl⟩
        refine hK.out _ _ HM4.out.drew (fun hHeld => ?_)
        clear hK K hHeld
        (try simp only [Act.put, List.setIfInBounds_toArray, List.set_cons_zero, List.set_cons_succ])
        refine wpSch_call rfl (by rfl) (fun K hK => ?_)
        go_simp
        refine (rbdp_any _ _ _ HBN.out.1 HBN.out.2 HQN.out.1 HQN.out.2 (by decide) (by decide) _).mono ?_
        rintro e w' ⟨rfl, rfl⟩
        rw [HD.out]
        refine hK.out _ _ HM4.out.drew (fun hHeld => ?_)
        clear hK K hHeld
        (try simp only [Act.put, List.setIfInBounds_toArray, List.set_cons_zero, List.set_cons_succ])
        (repeat (first | (refine wpSch_yes (v := ?_) rfl (fun _ _ _ h => h) (by rfl) ?_ ?_; rotate_left; (next => (intro w hSw; obtain ⟨a0, a1, a2, a3, a4, a5, a6, a7, a8⟩ := spl_cells (RS.b hSw); obtain ⟨c0, c1, c2, c3, c4, c5, c6, c7⟩ := RM.own (RS.m hSw); obtain ⟨m0, m1, m2, m3, m4, m5, m6, m7⟩ := RM.own' (RS.m hSw); have cb := RM.best (RS.m hSw); clear hSw; go_simp; (try with_reducible rfl))); (try simp only [Act.put, List.setIfInBounds_toArray, List.set_cons_zero, List.set_cons_succ])) | (refine wpSch_no rfl (fun _ _ _ h => h) (by rfl) ?_; (try simp only [Act.put, List.setIfInBounds_toArray, List.set_cons_zero, List.set_cons_succ]))))
        refine wpSch_nil ?_
        go_wp2
        go_meet
        exact ⟨congrArg Value.bool HCC.out, rfl, HM4.out.drew⟩
      · have hb' : decide (0 < x.q.b) = false := by simp [hb]
        have HCC : Hid (false = c3M x6 s) := Lib.hid (by
          have hb6 : ¬ 0 < x6.q.b := by rw [HQ6.out]; exact hb
          simp [c3M, hb6])
        clear h1
        refine wp_region_sch (RS w g k B x6 G s) [(true, 0), (true, 1), (true, 2), (true, 3), (true, 4), (true, 5), (true, 6), (true, 7), (true, 8), (true, 9), (true, 10), (true, 11), (true, 12), (true, 14), (false, 13), (false, 15), (true, 16), (true, 17)] (by kernel_rfl) (by kernel_rfl) (by kernel_rfl) (by kernel_rfl) HM4.out.drew ?_
        (repeat (first | (refine wpSch_yes (v := ?_) rfl (fun _ _ _ h => h) (by rfl) ?_ ?_; rotate_left; (next => (intro w hSw; obtain ⟨a0, a1, a2, a3, a4, a5, a6, a7, a8⟩ := spl_cells (RS.b hSw); obtain ⟨c0, c1, c2, c3, c4, c5, c6, c7⟩ := RM.own (RS.m hSw); obtain ⟨m0, m1, m2, m3, m4, m5, m6, m7⟩ := RM.own' (RS.m hSw); have cb := RM.best (RS.m hSw); clear hSw; go_simp; (try with_reducible rfl))); (try simp only [Act.put, List.setIfInBounds_toArray, List.set_cons_zero, List.set_cons_succ])) | (refine wpSch_no rfl (fun _ _ _ h => h) (by rfl) ?_; (try simp only [Act.put, List.setIfInBounds_toArray, List.set_cons_zero, List.set_cons_succ]))))
        refine wpSch_not rfl (by rfl) HM4.out.drew ?_
        (try simp only [Act.put, List.setIfInBounds_toArray, List.set_cons_zero, List.set_cons_succ])
        refine wpSch_not rfl (by rfl) HM4.out.drew ?_
        (try simp only [Act.put, List.setIfInBounds_toArray, List.set_cons_zero, List.set_cons_succ])
        (repeat (first | (refine wpSch_yes (v := ?_) rfl (fun _ _ _ h => h) (by rfl) ?_ ?_; rotate_left; (next => (intro w hSw; obtain ⟨a0, a1, a2, a3, a4, a5, a6, a7, a8⟩ := spl_cells (RS.b hSw); obtain ⟨c0, c1, c2, c3, c4, c5, c6, c7⟩ := RM.own (RS.m hSw); obtain ⟨m0, m1, m2, m3, m4, m5, m6, m7⟩ := RM.own' (RS.m hSw); have cb := RM.best (RS.m hSw); clear hSw; go_simp; (try with_reducible rfl))); (try simp only [Act.put, List.setIfInBounds_toArray, List.set_cons_zero, List.set_cons_succ])) | (refine wpSch_no rfl (fun _ _ _ h => h) (by rfl) ?_; (try simp only [Act.put, List.setIfInBounds_toArray, List.set_cons_zero, List.set_cons_succ]))))
        refine wpSch_nil ?_
        go_wp2
        go_meet
        exact ⟨congrArg Value.bool HCC.out, rfl, HM4.out.drew⟩
    · have e1 : (x6.m == 1) = false := by simp [h1]
      have HCC : Hid (false = c3M x6 s) := Lib.hid (by simp [c3M, h1])
      clear h1
      refine wp_region_sch (RS w g k B x6 G s) [(true, 0), (true, 1), (true, 2), (true, 3), (true, 4), (true, 5), (true, 6), (true, 7), (true, 8), (true, 9), (true, 10), (true, 11), (true, 12), (true, 14), (false, 13), (false, 15), (true, 16), (true, 17)] (by kernel_rfl) (by kernel_rfl) (by kernel_rfl) (by kernel_rfl) HM4.out.drew ?_
      (repeat (first | (refine wpSch_yes (v := ?_) rfl (fun _ _ _ h => h) (by rfl) ?_ ?_; rotate_left; (next => (intro w hSw; obtain ⟨a0, a1, a2, a3, a4, a5, a6, a7, a8⟩ := spl_cells (RS.b hSw); obtain ⟨c0, c1, c2, c3, c4, c5, c6, c7⟩ := RM.own (RS.m hSw); obtain ⟨m0, m1, m2, m3, m4, m5, m6, m7⟩ := RM.own' (RS.m hSw); have cb := RM.best (RS.m hSw); clear hSw; go_simp; (try with_reducible rfl))); (try simp only [Act.put, List.setIfInBounds_toArray, List.set_cons_zero, List.set_cons_succ])) | (refine wpSch_no rfl (fun _ _ _ h => h) (by rfl) ?_; (try simp only [Act.put, List.setIfInBounds_toArray, List.set_cons_zero, List.set_cons_succ]))))
      refine wpSch_not rfl (by rfl) HM4.out.drew ?_
      (try simp only [Act.put, List.setIfInBounds_toArray, List.set_cons_zero, List.set_cons_succ])
      refine wpSch_not rfl (by rfl) HM4.out.drew ?_
      (try simp only [Act.put, List.setIfInBounds_toArray, List.set_cons_zero, List.set_cons_succ])
      (repeat (first | (refine wpSch_yes (v := ?_) rfl (fun _ _ _ h => h) (by rfl) ?_ ?_; rotate_left; (next => (intro w hSw; obtain ⟨a0, a1, a2, a3, a4, a5, a6, a7, a8⟩ := spl_cells (RS.b hSw); obtain ⟨c0, c1, c2, c3, c4, c5, c6, c7⟩ := RM.own (RS.m hSw); obtain ⟨m0, m1, m2, m3, m4, m5, m6, m7⟩ := RM.own' (RS.m hSw); have cb := RM.best (RS.m hSw); clear hSw; go_simp; (try with_reducible rfl))); (try simp only [Act.put, List.setIfInBounds_toArray, List.set_cons_zero, List.set_cons_succ])) | (refine wpSch_no rfl (fun _ _ _ h => h) (by rfl) ?_; (try simp only [Act.put, List.setIfInBounds_toArray, List.set_cons_zero, List.set_cons_succ]))))
      refine wpSch_nil ?_
      go_wp2
      go_meet
      exact ⟨congrArg Value.bool HCC.out, rfl, HM4.out.drew⟩
  case rest =>
  obtain ⟨rfl, rfl, hr⟩ := hcut
  have HM5 := Lib.hid hr
  clear hr HM4
  go_upto_if 93 with fail
  go_cut [6] (fun s6 wx => s6 = .int .u64 x.q.b ∧ RS w g k B x7 G s wx)
  case first => as_aux_lemma =>
    obtain ⟨C, hC⟩ : ∃ C, c3M x6 s = C := ⟨_, rfl⟩
    rw [hC]
    cases C
    · have HE : Hid (x7 = x6) := Lib.hid (by rw [← H7.out, hC]; rfl)
      clear hC
      go_wp2
      go_meet
      exact ⟨rfl, by rw [HE.out]; exact HM5.out⟩
    · have HE : Hid (x7 = { x6 with m := 2, c := startC s.n 2 }) := Lib.hid (by rw [← H7.out, hC]; rfl)
      clear hC
      obtain ⟨m0, m1, m2, m3, m4, m5, m6, m7⟩ := HM5.out.m.own'
      clear m1 m2 m3 m4 m5 m6 m7
      have f0 := HM5.out.m.free 23
      have HM6 := Lib.hid (HM5.out.put (y := { x6 with m := 2 }) (H := G) 23 (.int .i64 2) (by decide) (fun _ => rfl) rfl rfl rfl)
      go_upto_region 9 with fail
      clear m0 f0
      generalize World.setCell wc _ _ = w6 at *
      refine wp_region_late (RS w g k B { x6 with m := 2 } G s) [5] (.yes 0 (.yes 1 (.yes 2 (.yes 3 (.yes 4 (.one 5 .nil)))))) (by kernel_rfl) (by kernel_rfl) (by kernel_rfl) (by kernel_rfl) HM6.out.drew ?_
      (repeat (refine wpSchL_yes (v := ?_) rfl (fun _ _ _ h => h) (by rfl) ?_ ?_; rotate_left; (next => (intro w hSw; obtain ⟨a0, a1, a2, a3, a4, a5, a6, a7, a8⟩ := spl_cells (RS.b hSw); obtain ⟨c0, c1, c2, c3, c4, c5, c6, c7⟩ := RM.own (RS.m hSw); obtain ⟨m0, m1, m2, m3, m4, m5, m6, m7⟩ := RM.own' (RS.m hSw); have cb := RM.best (RS.m hSw); clear hSw; go_simp; (try with_reducible rfl))); (try simp only [Act.put, List.setIfInBounds_toArray, List.set_cons_zero, List.set_cons_succ])))
      refine wpSchL_one ?_
      refine wpOneL_call rfl (by rfl) (fun K hK => ?_)
      go_simp
      refine (rm_start _ s.n HM6.out.drew.m (HF6.out.mode (by decide) (by decide)) HS.out.n).mono ?_
      rintro e w7 ⟨⟨_, rfl⟩, h7, k7⟩
      have HM7 : Hid (RS w g k B x7 G s w7) := Lib.hid (by rw [HE.out]; exact HM6.out.drew.callg h7 k7)
      clear h7 k7
      refine hK.out _ _ (fun h => absurd h (by decide)) (fun hHeld => ?_)
      clear hK K hHeld
      (try simp only [Act.put, List.setIfInBounds_toArray, List.set_cons_zero, List.set_cons_succ])
      refine wpSchL_nil ?_
      go_wp2
      go_meet
      exact ⟨rfl, HM7.out⟩
  case rest =>
  obtain ⟨rfl, hr⟩ := hcut
  have HM6 := Lib.hid hr
  clear hr HM5
  have hs0 := HF7.out.s0
  have hs1 := HF7.out.s1
  have hw4 : IntKind.u64.wrap (4 * x7.s) = 4 * x7.s := by rw [IntKind.wrap_u64]; omega
  obtain ⟨y, hy⟩ : ∃ y : Mdl, { x7 with q := updB x7.q (looL x7 st s) } = y := ⟨_, rfl⟩
  have hl : looL x7 st s = ⟨s.n, s.r, st, s.f, 4 * x7.s⟩ := by unfold looL; rw [floorM_is hs0 hs1]
  have HY : Hid (y = { x7 with q := updB x7.q ⟨s.n, s.r, st, s.f, 4 * x7.s⟩ }) := Lib.hid (by rw [← hy, hl])
  have HYF : Hid y.Fit := Lib.hid (by rw [← hy]; exact { HF7.out with q := HF7.out.q.upd HS.out.n HS.out.r })
  obtain ⟨pb, hp⟩ : ∃ p, begB x7.q ⟨s.n, s.r, st, s.f, 4 * x7.s⟩ = p := ⟨_, rfl⟩
  obtain ⟨ql, hq⟩ : ∃ q, leaB x7.q ⟨s.n, s.r, st, s.f, 4 * x7.s⟩ = q := ⟨_, rfl⟩
  have HPB := Lib.hid hp
  have HQL := Lib.hid hq
  have HLC : Hid ((pb = true ∧ looM x7 st s = { keepM y with m := 3 }) ∨ (pb = false ∧ ql = true ∧ fullP y.p = true ∧ looM x7 st s = cruM (resM y) s.n) ∨ (pb = false ∧ ql = true ∧ fullP y.p = false ∧ looM x7 st s = { resM y with m := 0 }) ∨ (pb = false ∧ ql = false ∧ looM x7 st s = y)) := Lib.hid (by
    have h := loo_cases (x := x7) (st := st) (s := s)
    rw [hy] at h
    rw [hl, hp, hq] at h
    rw [show y.p = x7.p by rw [← hy]]
    exact h)
  have HNB : Hid (pb = true → ql = false) := Lib.hid (by
    intro h; rw [h] at hp; rw [← hq]
    have : x7.q.i = false := by simp [begB] at hp; exact hp.1
    simp [leaB, this])
  clear hs0 hs1 hy hl hp hq
  obtain ⟨c0, c1, c2, c3, c4, c5, c6, c7⟩ := HM6.out.m.own
  clear c1 c2 c3 c4 c5 c6 c7
  go_upto_region 10 with fail
  refine wp_region_sch (fun W => Whole W B 34 s.c ∧ W.cell? ⟨g, 0, none⟩ = some (.int .u64 x7.s)) [(true, 0), (true, 1), (true, 2), (true, 3), (true, 4), (true, 5), (true, 6), (true, 7), (true, 8), (true, 9), (true, 10), (true, 11), (true, 12), (true, 13), (true, 14), (false, 15), (true, 16), (true, 17), (true, 18), (true, 19), (true, 20)] (by kernel_rfl) (by kernel_rfl) (by kernel_rfl) (by kernel_rfl) ⟨HM6.out.drew.b, c0⟩ ?_
  (repeat (refine wpSch_yes (v := ?_) rfl (fun _ _ _ h => h) (by rfl) ?_ ?_; rotate_left; (next => (intro w hSw; obtain ⟨a0, a1, a2, a3, a4, a5, a6, a7, a8⟩ := spl_cells hSw.1; have c0 := hSw.2; clear hSw; go_simp; (try with_reducible rfl))); (try simp only [Act.put, List.setIfInBounds_toArray, List.set_cons_zero, List.set_cons_succ])))
  refine wpSch_call rfl (by rfl) (fun K hK => ?_)
  go_simp
  refine (rm_prb _ ⟨s.n, s.r, st, s.f, 4 * x7.s⟩ HM6.out.drew.m HF7.out HS.out.n HS.out.r).mono ?_
  rintro e w7 ⟨rfl, h7, k7⟩
  have HM7 : Hid (RS w g k B y G s w7) := Lib.hid (by rw [HY.out]; exact HM6.out.drew.callg h7 k7)
  clear h7 k7
  rw [HPB.out, HQL.out]
  refine hK.out _ _ ⟨HM7.out.b, by have := HM7.out.m.own.1; rw [HY.out] at this; exact this⟩ (fun hHeld => ?_)
  clear hK K hHeld
  (try simp only [Act.put, List.setIfInBounds_toArray, List.set_cons_zero, List.set_cons_succ])
  (repeat (refine wpSch_yes (v := ?_) rfl (fun _ _ _ h => h) (by rfl) ?_ ?_; rotate_left; (next => (intro w hSw; obtain ⟨a0, a1, a2, a3, a4, a5, a6, a7, a8⟩ := spl_cells hSw.1; have c0 := hSw.2; clear hSw; go_simp; (try with_reducible rfl))); (try simp only [Act.put, List.setIfInBounds_toArray, List.set_cons_zero, List.set_cons_succ])))
  refine wpSch_nil ?_
  clear c0 hw4 HM6
  cases pb
  · cases ql
    · have HE : Hid (looM x7 st s = y) := Lib.hid (by
        rcases HLC.out with h | h | h | h
        · cases h.1
        · cases h.2.1
        · cases h.2.1
        · exact h.2.2)
      go_wp2
      go_end0
      exact ⟨⟨_, rfl⟩, by rw [HE.out]; exact HM7.out.m, HM7.out.kp⟩
    · go_upto_region 14 with fail
      go_cut [0] (fun s0 wx => s0 = .pointer (some ⟨g, 0, none⟩) ∧ RS w g k B { resM y with m := 0 } G s wx)
      case first => as_aux_lemma =>
        obtain ⟨m0, m1, m2, m3, m4, m5, m6, m7⟩ := HM7.out.m.own'
        clear m0 m1 m3 m4 m5 m6
        have f2 := HM7.out.m.free 25
        rcases Int.lt_trichotomy y.w y.k with hl | hl | hl
        · obtain ⟨X, hX⟩ : ∃ X, X = y.k := ⟨_, rfl⟩
          have HRE : Hid ({ resM y with m := 0 } = { y with w := X, k := 0, m := 0 }) := Lib.hid (by subst hX; simp [resM, maxI, hl])
          have hn : ¬ y.k < y.w := by omega
          rw [← hX] at m7 hl hn
          clear hX
          have HM8 := Lib.hid (HM7.out.put (y := { y with w := X }) (H := G) 25 (.int .u64 X) (by decide) (fun _ => rfl) rfl rfl rfl)
          have n7 := HM8.out.m.own'.2.2.2.2.2.2.2
          have g7 := HM8.out.m.free 30
          have HM9 := Lib.hid (HM8.out.put (y := { y with w := X, k := 0 }) (H := G) 30 (.int .u64 0) (by decide) (fun _ => rfl) rfl rfl rfl)
          have o0 := HM9.out.m.own'.1
          have g0 := HM9.out.m.free 23
          have HMA := Lib.hid (HM9.out.put (y := { y with w := X, k := 0, m := 0 }) (H := G) 23 (.int .i64 0) (by decide) (fun _ => rfl) rfl rfl rfl).drew
          clear HM7 HM8 HM9
          go_region
          go_wp2
          go_meet
          exact ⟨rfl, by rw [HRE.out]; exact HMA.out⟩
        · obtain ⟨X, hX⟩ : ∃ X, X = y.w := ⟨_, rfl⟩
          have HRE : Hid ({ resM y with m := 0 } = { y with w := X, k := 0, m := 0 }) := Lib.hid (by subst hX; simp [resM, maxI, hl])
          rw [← hl, ← hX] at m7
          rw [← hX] at m2
          have hn : ¬ X < X := by omega
          clear hl hX
          have HM8 := Lib.hid (HM7.out.put (y := { y with w := X }) (H := G) 25 (.int .u64 X) (by decide) (fun _ => rfl) rfl rfl rfl)
          have n7 := HM8.out.m.own'.2.2.2.2.2.2.2
          have g7 := HM8.out.m.free 30
          have HM9 := Lib.hid (HM8.out.put (y := { y with w := X, k := 0 }) (H := G) 30 (.int .u64 0) (by decide) (fun _ => rfl) rfl rfl rfl)
          have o0 := HM9.out.m.own'.1
          have g0 := HM9.out.m.free 23
          have HMA := Lib.hid (HM9.out.put (y := { y with w := X, k := 0, m := 0 }) (H := G) 23 (.int .i64 0) (by decide) (fun _ => rfl) rfl rfl rfl).drew
          clear HM7 HM8 HM9
          go_region
          go_wp2
          go_meet
          exact ⟨rfl, by rw [HRE.out]; exact HMA.out⟩
        · obtain ⟨X, hX⟩ : ∃ X, X = y.w := ⟨_, rfl⟩
          have hn : ¬ y.w < y.k := by omega
          have HRE : Hid ({ resM y with m := 0 } = { y with w := X, k := 0, m := 0 }) := Lib.hid (by subst hX; simp [resM, maxI, hn])
          rw [← hX] at m2 hl hn
          clear hX
          have HM8 := Lib.hid (HM7.out.put (y := { y with w := X }) (H := G) 25 (.int .u64 X) (by decide) (fun _ => rfl) rfl rfl rfl)
          have n7 := HM8.out.m.own'.2.2.2.2.2.2.2
          have g7 := HM8.out.m.free 30
          have HM9 := Lib.hid (HM8.out.put (y := { y with w := X, k := 0 }) (H := G) 30 (.int .u64 0) (by decide) (fun _ => rfl) rfl rfl rfl)
          have o0 := HM9.out.m.own'.1
          have g0 := HM9.out.m.free 23
          have HMA := Lib.hid (HM9.out.put (y := { y with w := X, k := 0, m := 0 }) (H := G) 23 (.int .i64 0) (by decide) (fun _ => rfl) rfl rfl rfl).drew
          clear HM7 HM8 HM9
          go_region
          go_wp2
          go_meet
          exact ⟨rfl, by rw [HRE.out]; exact HMA.out⟩
      case rest =>
      obtain ⟨rfl, hr⟩ := hcut
      have HMA := Lib.hid hr
      clear hr HM7
      obtain ⟨c0, c1, c2, c3, c4, c5, c6, c7⟩ := HMA.out.m.own
      clear c0 c1 c2 c4 c5 c6 c7
      obtain ⟨F, hF⟩ : ∃ F, fullP y.p = F := ⟨_, rfl⟩
      have c6 : wc.cell? ⟨g, 6, none⟩ = some (.bool F) := by rw [← hF]; exact c3
      clear c3
      have HFU := Lib.hid hF
      clear hF
      cases F
      · have HE : Hid (looM x7 st s = { resM y with m := 0 }) := Lib.hid (by
          rcases HLC.out with h | h | h | h
          · cases h.1
          · have := h.2.2.1; rw [HFU.out] at this; cases this
          · exact h.2.2.2
          · cases h.2.1)
        go_wp2
        go_end0
        exact ⟨⟨_, rfl⟩, by rw [HE.out]; exact HMA.out.m, HMA.out.kp⟩
      · have HE : Hid (looM x7 st s = cruM (resM y) s.n) := Lib.hid (by
          rcases HLC.out with h | h | h | h
          · cases h.1
          · exact h.2.2.2
          · have := h.2.2.1; rw [HFU.out] at this; cases this
          · cases h.2.1)
        obtain ⟨m0, m1, m2, m3, m4, m5, m6, m7⟩ := HMA.out.m.own'
        clear m1 m2 m3 m4 m5 m6 m7
        have f0 := HMA.out.m.free 23
        have HMB := Lib.hid (HMA.out.put (y := { resM y with m := 2 }) (H := G) 23 (.int .i64 2) (by decide) (fun _ => rfl) rfl rfl rfl)
        have HFB : Hid (Mdl.Fit { resM y with m := 2 }) := Lib.hid ((HYF.out.res).mode (m := 2) (by decide) (by decide))
        go_upto_region 17 with fail
        clear m0 f0 c6
        generalize World.setCell wc _ _ = w9 at *
        refine wp_region_late (RS w g k B { resM y with m := 2 } G s) [5] (.yes 0 (.yes 1 (.yes 2 (.yes 3 (.yes 4 (.one 5 .nil)))))) (by kernel_rfl) (by kernel_rfl) (by kernel_rfl) (by kernel_rfl) HMB.out.drew ?_
        (repeat (refine wpSchL_yes (v := ?_) rfl (fun _ _ _ h => h) (by rfl) ?_ ?_; rotate_left; (next => (intro w hSw; obtain ⟨a0, a1, a2, a3, a4, a5, a6, a7, a8⟩ := spl_cells (RS.b hSw); obtain ⟨c0, c1, c2, c3, c4, c5, c6, c7⟩ := RM.own (RS.m hSw); obtain ⟨m0, m1, m2, m3, m4, m5, m6, m7⟩ := RM.own' (RS.m hSw); have cb := RM.best (RS.m hSw); clear hSw; go_simp; (try with_reducible rfl))); (try simp only [Act.put, List.setIfInBounds_toArray, List.set_cons_zero, List.set_cons_succ])))
        refine wpSchL_one ?_
        refine wpOneL_call rfl (by rfl) (fun K hK => ?_)
        go_simp
        refine (rm_start _ s.n HMB.out.drew.m HFB.out HS.out.n).mono ?_
        rintro e wa ⟨⟨_, rfl⟩, h7, k7⟩
        have HMC := Lib.hid (HMB.out.drew.callg h7 k7)
        clear h7 k7
        refine hK.out _ _ (fun h => absurd h (by decide)) (fun hHeld => ?_)
        clear hK K hHeld
        (try simp only [Act.put, List.setIfInBounds_toArray, List.set_cons_zero, List.set_cons_succ])
        refine wpSchL_nil ?_
        go_wp2
        go_end0
        exact ⟨⟨_, rfl⟩, by rw [HE.out]; exact HMC.out.m, HMC.out.kp⟩
  · obtain rfl : ql = false := HNB.out rfl
    have HE : Hid (looM x7 st s = { keepM y with m := 3 }) := Lib.hid (by
      rcases HLC.out with h | h | h | h
      · exact h.2
      · cases h.1
      · cases h.1
      · cases h.1)
    go_upto_region 12 with fail
    obtain ⟨m0, m1, m2, m3, m4, m5, m6, m7⟩ := HM7.out.m.own'
    clear m0 m1 m3 m4 m5 m6
    have f7 := HM7.out.m.free 30
    rcases Int.lt_trichotomy y.k y.w with hl | hl | hl
    · obtain ⟨X, hX⟩ : ∃ X, X = y.w := ⟨_, rfl⟩
      have HRE : Hid ({ keepM y with m := 3 } = { y with k := X, m := 3 }) := Lib.hid (by subst hX; simp [keepM, maxI, hl])
      have hn : ¬ y.w < y.k := by omega
      rw [← hX] at m2 hl hn
      clear hX
      have HM8 := Lib.hid (HM7.out.put (y := { y with k := X }) (H := G) 30 (.int .u64 X) (by decide) (fun _ => rfl) rfl rfl rfl)
      have o0 := HM8.out.m.own'.1
      have g0 := HM8.out.m.free 23
      have HMA := Lib.hid (HM8.out.put (y := { y with k := X, m := 3 }) (H := G) 23 (.int .i64 3) (by decide) (fun _ => rfl) rfl rfl rfl).drew
      clear HM7 HM8
      go_region
      go_wp2
      go_end0
      exact ⟨⟨_, rfl⟩, by rw [HE.out, HRE.out]; exact HMA.out.m, HMA.out.kp⟩
    · obtain ⟨X, hX⟩ : ∃ X, X = y.k := ⟨_, rfl⟩
      have HRE : Hid ({ keepM y with m := 3 } = { y with k := X, m := 3 }) := Lib.hid (by subst hX; simp [keepM, maxI, hl])
      rw [← hl, ← hX] at m2
      rw [← hX] at m7
      have hn : ¬ X < X := by omega
      clear hl hX
      have HM8 := Lib.hid (HM7.out.put (y := { y with k := X }) (H := G) 30 (.int .u64 X) (by decide) (fun _ => rfl) rfl rfl rfl)
      have o0 := HM8.out.m.own'.1
      have g0 := HM8.out.m.free 23
      have HMA := Lib.hid (HM8.out.put (y := { y with k := X, m := 3 }) (H := G) 23 (.int .i64 3) (by decide) (fun _ => rfl) rfl rfl rfl).drew
      clear HM7 HM8
      go_region
      go_wp2
      go_end0
      exact ⟨⟨_, rfl⟩, by rw [HE.out, HRE.out]; exact HMA.out.m, HMA.out.kp⟩
    · obtain ⟨X, hX⟩ : ∃ X, X = y.k := ⟨_, rfl⟩
      have hn : ¬ y.k < y.w := by omega
      have HRE : Hid ({ keepM y with m := 3 } = { y with k := X, m := 3 }) := Lib.hid (by subst hX; simp [keepM, maxI, hn])
      rw [← hX] at m7 hl hn
      clear hX
      have HM8 := Lib.hid (HM7.out.put (y := { y with k := X }) (H := G) 30 (.int .u64 X) (by decide) (fun _ => rfl) rfl rfl rfl)
      have o0 := HM8.out.m.own'.1
      have g0 := HM8.out.m.free 23
      have HMA := Lib.hid (HM8.out.put (y := { y with k := X, m := 3 }) (H := G) 23 (.int .i64 3) (by decide) (fun _ => rfl) rfl rfl rfl).drew
      clear HM7 HM8
      go_region
      go_wp2
      go_end0
      exact ⟨⟨_, rfl⟩, by rw [HE.out, HRE.out]; exact HMA.out.m, HMA.out.kp⟩
end Go.Proofs.YtcjgpkjhfbamfaaGreat
