/-
  Calls within package bbr (held, bw, floor, bdp, gain, room, cruise, keep, restore): what they answer and leave. Conditions: the Model lies in memory as New makes it, be it inside a block; numbers are of 64 bits.
-/
import Derived.Test.YtbimmadllfgmiaaGreatBbrSt
import Derived.Test.YtbimmadllfgmiaaGreatChecked
import Derived.WalkSpells
import Derived.WalkLawsBesides
import Derived.LoopTactic
import Derived.LoopN
import Derived.Deep.QuietTactic
import Derived.Deep.DeepCutAuto
import Derived.Deep.Draws
import Derived.BigQuiet
import Derived.BigRegion
import Derived.Laws.ResultCell
set_option linter.unusedVariables false
set_option linter.unusedSimpArgs false
namespace Go.Proofs.YtbimmadllfgmiaaGreat
open Go.RowKit
set_option maxRecDepth 100000
variable {Fm : Fr} {oo : Nat}

set_option maxHeartbeats 400000 in
theorem held_any (g : Nat) (x : Mdl) (w : World) (h : MdlAt Fm oo w g x) (hf : x.Fit) : Calls Tryz.prog 27 #[.pointer (some ⟨g, oo, none⟩)] w fun e w' => e = .returned (.bool x.o.u) ∧ w = w' := by
  have HP := Lib.hid (h.pol hf)
  clear h hf
  go_enter Tryz.func27, Tryz.ntmps27
  go_wp2_with fail
  refine (poluse_any _ _ _ HP.out).mono ?_
  rintro e w' ⟨rfl, rfl⟩
  go_wp2
  go_ret
  exact ⟨rfl, rfl⟩
set_option maxHeartbeats 400000 in
theorem bw_any (g : Nat) (x : Mdl) (w : World) (h : MdlAt Fm oo w g x) (hf : x.Fit) : Calls Tryz.prog 22 #[.pointer (some ⟨g, oo, none⟩)] w fun e w' => e = .returned (.int .u64 (bwM x)) ∧ w = w' := by
  have HP := Lib.hid (h.pol hf)
  have HM := Lib.hid (h.max hf)
  clear h hf
  by_cases hu : x.o.u = true
  · have HE : Hid (useV x.o = bwM x) := Lib.hid (by simp [useV, bwM, hu])
    go_enter Tryz.func22, Tryz.ntmps22
    go_wp2_with fail
    refine (poluse_any _ _ _ HP.out).mono ?_
    rintro e w' ⟨rfl, rfl⟩
    go_wp2
    go_ret
    exact ⟨ret_i HE.out, rfl⟩
  · have hu : x.o.u = false := by simpa using hu
    have HE : Hid (x.b.v0 = bwM x) := Lib.hid (by simp [bwM, hu])
    go_enter Tryz.func22, Tryz.ntmps22
    go_wp2_with fail
    refine (poluse_any _ _ _ HP.out).mono ?_
    rintro e w' ⟨rfl, rfl⟩
    go_wp2_with fail
    refine (xbest_any _ _ _ _ HM.out).mono ?_
    rintro e w' ⟨rfl, rfl⟩
    go_wp2
    go_ret
    exact ⟨ret_i HE.out, rfl⟩
set_option maxHeartbeats 400000 in
theorem floor_any (g : Nat) (x : Mdl) (w : World) (h : MdlAt Fm oo w g x) (hf : x.Fit) : Calls Tryz.prog 62 #[.pointer (some ⟨g, oo, none⟩)] w fun e w' => e = .returned (.int .u64 (floorM x)) ∧ w = w' := by
  have c : w.cell? ⟨g, oo + 27, none⟩ = some (.int .u64 x.s) := Part.cell h 27
  have HS := Lib.hid hf.mss
  have HE : Hid (satMul 4 x.s = floorM x) := Lib.hid rfl
  clear h hf
  go_enter Tryz.func62, Tryz.ntmps62
  go_wp2_with fail
  refine (mul_any _ _ (by decide) (by decide) HS.out.1 HS.out.2 _).mono ?_
  rintro e w' ⟨rfl, rfl⟩
  go_wp2
  go_ret
  exact ⟨ret_i HE.out, rfl⟩
set_option maxHeartbeats 1000000 in
theorem bdp_M (g : Nat) (x : Mdl) (gn : Int) (w : World) (h : MdlAt Fm oo w g x) (hf : x.Fit) (hg : Num gn) : Calls Tryz.prog 58 #[.pointer (some ⟨g, oo, none⟩), .int .u64 gn] w fun e w' => e = .returned (.int .u64 (bdpM x gn)) ∧ Keep (fun _ => False) w w' := by
  have CB := Lib.hid (bw_any g x w.drew h.drew hf)
  have CP := Lib.hid (prbest_any _ _ w.drew (h.drew.prb hf))
  have HB := Lib.hid (bwM_num hf)
  have HQ := Lib.hid hf.q.b
  have HG := Lib.hid hg
  have HE : Hid (bdpV (bwM x) x.q.b gn = bdpM x gn) := Lib.hid rfl
  clear h hf hg
  go_enter Tryz.func58, Tryz.ntmps58
  go_upto_region 1 with fail
  refine wp_region_sch (fun _ => True) [(true, 0), (true, 2), (true, 3), (true, 4), (true, 6), (false, 1), (false, 5), (false, 7), (true, 8)] (by kernel_rfl) (by kernel_rfl) (by kernel_rfl) (by kernel_rfl) trivial ?_
  (repeat (refine wpSch_yes (v := ?_) rfl (fun _ _ _ h => h) (by rfl) ?_ ?_; rotate_left; (next => (intro w hSw; clear hSw; go_simp; (try with_reducible rfl))); (try simp only [Act.put, List.setIfInBounds_toArray, List.set_cons_zero, List.set_cons_succ])))
  refine wpSch_call rfl (by rfl) (fun K hK => ?_)
  go_simp
  refine CB.out.mono ?_
  rintro e w' ⟨rfl, rfl⟩
  refine hK.out _ _ trivial (fun hHeld => ?_)
  clear hK K hHeld
  (try simp only [Act.put, List.setIfInBounds_toArray, List.set_cons_zero, List.set_cons_succ])
  refine wpSch_call rfl (by rfl) (fun K hK => ?_)
  go_simp
  refine CP.out.mono ?_
  rintro e w' ⟨rfl, rfl⟩
  refine hK.out _ _ trivial (fun hHeld => ?_)
  clear hK K hHeld
  (try simp only [Act.put, List.setIfInBounds_toArray, List.set_cons_zero, List.set_cons_succ])
  refine wpSch_call rfl (by rfl) (fun K hK => ?_)
  go_simp
  refine (bdp_any _ _ _ HB.out.1 HB.out.2 HQ.out.1 HQ.out.2 HG.out.1 HG.out.2 _).mono ?_
  rintro e w1 ⟨rfl, k1⟩
  have K1 := Lib.hid ((Keep.refl (fun _ => False) w).drew.trans k1); clear k1
  refine hK.out _ _ trivial (fun hHeld => ?_)
  clear hK K hHeld
  (try simp only [Act.put, List.setIfInBounds_toArray, List.set_cons_zero, List.set_cons_succ])
  (repeat (refine wpSch_yes (v := ?_) rfl (fun _ _ _ h => h) (by rfl) ?_ ?_; rotate_left; (next => (intro w hSw; clear hSw; go_simp; (try with_reducible rfl))); (try simp only [Act.put, List.setIfInBounds_toArray, List.set_cons_zero, List.set_cons_succ])))
  refine wpSch_nil ?_
  go_wp2
  go_ret
  exact ⟨ret_i HE.out, K1.out⟩
set_option maxHeartbeats 1000000 in
theorem gain_any (g : Nat) (x : Mdl) (w : World) (h : MdlAt Fm oo w g x) (hf : x.Fit) : Calls Tryz.prog 24 #[.pointer (some ⟨g, oo, none⟩)] w fun e w' => e = .returned (.int .u64 (gainM x)) ∧ w = w' := by
  have c : w.cell? ⟨g, oo + 28, none⟩ = some (.int .i64 x.m) := Part.cell h 28
  have HC := Lib.hid (held_any g x w h hf)
  have HY := Lib.hid (h.cyc hf)
  clear h hf
  by_cases h0 : x.m = 0
  · have HE : Hid (739 = gainM x) := Lib.hid (by simp [gainM, h0])
    have e0 : (x.m == 0) = true := by simp [h0]
    clear h0
    go_enter Tryz.func24, Tryz.ntmps24
    go_wp2
    go_ret
    exact ⟨ret_i HE.out, rfl⟩
  have e0 : (x.m == 0) = false := by simp [h0]
  by_cases h1 : x.m = 1
  · have HE : Hid (88 = gainM x) := Lib.hid (by simp [gainM, h1])
    have e1 : (x.m == 1) = true := by simp [h1]
    clear h0 h1
    go_enter Tryz.func24, Tryz.ntmps24
    go_wp2
    go_ret
    exact ⟨ret_i HE.out, rfl⟩
  have e1 : (x.m == 1) = false := by simp [h1]
  by_cases h2 : x.m = 2
  · have e2 : (x.m == 2) = true := by simp [h2]
    have HE : Hid ((if x.o.u = true then 256 else gainC x.c) = gainM x) := Lib.hid (by simp [gainM, h2])
    clear h0 h1 h2
    go_enter Tryz.func24, Tryz.ntmps24
    go_wp2_with fail
    refine HC.out.mono ?_
    rintro e w' ⟨rfl, rfl⟩
    generalize x.o.u = U at *
    cases U
    · go_wp2_with fail
      refine (cygain_any _ _ _ HY.out).mono ?_
      rintro e w' ⟨rfl, rfl⟩
      go_wp2
      go_ret
      exact ⟨ret_i HE.out, rfl⟩
    · go_wp2
      go_ret
      exact ⟨ret_i HE.out, rfl⟩
  · have e2 : (x.m == 2) = false := by simp [h2]
    have HE : Hid (256 = gainM x) := Lib.hid (by simp [gainM, h0, h1, h2])
    clear h0 h1 h2
    go_enter Tryz.func24, Tryz.ntmps24
    go_wp2
    go_ret
    exact ⟨ret_i HE.out, rfl⟩
set_option maxHeartbeats 1000000 in
theorem room_any (g : Nat) (x : Mdl) (w : World) (h : MdlAt Fm oo w g x) : Calls Tryz.prog 99 #[.pointer (some ⟨g, oo, none⟩)] w fun e w' => e = .returned (.int .u64 (roomM x)) ∧ w = w' := by
  have c : w.cell? ⟨g, oo + 28, none⟩ = some (.int .i64 x.m) := Part.cell h 28
  clear h
  by_cases h0 : x.m = 0
  · have HE : Hid (739 = roomM x) := Lib.hid (by simp [roomM, h0])
    have e0 : (x.m == 0) = true := by simp [h0]
    clear h0
    go_enter Tryz.func99, Tryz.ntmps99
    go_wp2
    go_ret
    exact ⟨ret_i HE.out, rfl⟩
  have e0 : (x.m == 0) = false := by simp [h0]
  by_cases h1 : x.m = 1
  · have HE : Hid (739 = roomM x) := Lib.hid (by simp [roomM, h1])
    have e1 : (x.m == 1) = true := by simp [h1]
    clear h0 h1
    go_enter Tryz.func99, Tryz.ntmps99
    go_wp2
    go_ret
    exact ⟨ret_i HE.out, rfl⟩
  have e1 : (x.m == 1) = false := by simp [h1]
  by_cases h2 : x.m = 2
  · have e2 : (x.m == 2) = true := by simp [h2]
    have HE : Hid (512 = roomM x) := Lib.hid (by simp [roomM, h2])
    clear h0 h1 h2
    go_enter Tryz.func99, Tryz.ntmps99
    go_wp2
    go_ret
    exact ⟨ret_i HE.out, rfl⟩
  · have e2 : (x.m == 2) = false := by simp [h2]
    have HE : Hid (256 = roomM x) := Lib.hid (by simp [roomM, h0, h1, h2])
    clear h0 h1 h2
    go_enter Tryz.func99, Tryz.ntmps99
    go_wp2
    go_ret
    exact ⟨ret_i HE.out, rfl⟩
set_option maxHeartbeats 1000000 in
theorem cruise_any (g : Nat) (x : Mdl) (n : Int) (w : World) (h : MdlAt Fm oo w g x) (hf : x.Fit) (hn : Num n) : Calls Tryz.prog 60 #[.pointer (some ⟨g, oo, none⟩), .int .u64 n] w fun e w' => (∃ v, e = .returned v) ∧ MdlAt Fm oo w' g (cruM x n) ∧ Keep (fun k => k = g) w w' := by
  have c : w.cell? ⟨g, oo + 28, none⟩ = some (.int .i64 x.m) := Part.cell h 28
  have f := Part.free h 28
  have HN := Lib.hid hn
  have HM : Hid (MdlAt Fm oo (w.setCell ⟨g, oo + 28, none⟩ (.int .i64 2)) g { x with m := 2 }) := Lib.hid (Part.put h 28 (.int .i64 2))
  have HY := Lib.hid (HM.out.cyc (hf.mode (by decide) (by decide)))
  have HK := Lib.hid ((Keep.refl (fun k => k = g) w).setCell (p := ⟨g, oo + 28, none⟩) (.inl rfl) (.int .i64 2))
  clear h hf hn
  go_enter Tryz.func60, Tryz.ntmps60
  go_wp2_with fail
  refine (cystart_any _ _ n 2 _ HY.out HN.out).mono ?_
  rintro e w1 ⟨⟨_, rfl⟩, h1, k1⟩
  have H1 := Lib.hid h1; have K1 := Lib.hid (HK.out.trans k1); clear h1 k1
  go_wp2
  go_end0
  exact ⟨⟨_, rfl⟩, MdlAt.cyc' H1.out, K1.out⟩
set_option maxHeartbeats 1000000 in
theorem keep_any (g : Nat) (x : Mdl) (w : World) (h : MdlAt Fm oo w g x) : Calls Tryz.prog 63 #[.pointer (some ⟨g, oo, none⟩)] w fun e w' => (∃ v, e = .returned v) ∧ MdlAt Fm oo w' g (keepM x) ∧ Keep (fun k => k = g) w w' := by
  have c0 : w.cell? ⟨g, oo + 30, none⟩ = some (.int .u64 x.w) := Part.cell h 30
  have c1 : w.cell? ⟨g, oo + 31, none⟩ = some (.int .u64 x.k) := Part.cell h 31
  have f := Part.free h 31
  rcases Int.lt_trichotomy x.k x.w with hl | hl | hl
  · obtain ⟨W, hW⟩ : ∃ W, W = x.w := ⟨_, rfl⟩
    have HE : Hid (keepM x = { x with k := W }) := Lib.hid (by subst hW; simp [keepM, maxI, hl])
    have hn : ¬ x.w < x.k := by omega
    rw [← hW] at c0 hl hn
    clear hW
    have HM : Hid (MdlAt Fm oo (w.setCell ⟨g, oo + 31, none⟩ (.int .u64 W)) g { x with k := W }) := Lib.hid (Part.put h 31 (.int .u64 W))
    have HK := Lib.hid ((Keep.refl (fun k => k = g) w).setCell (p := ⟨g, oo + 31, none⟩) (.inl rfl) (.int .u64 W))
    clear h
    go_enter Tryz.func63, Tryz.ntmps63
    go_region
    go_wp2
    go_end0
    exact ⟨⟨_, rfl⟩, by rw [HE.out]; exact HM.out, HK.out.drew⟩
  · obtain ⟨W, hW⟩ : ∃ W, W = x.k := ⟨_, rfl⟩
    have HE : Hid (keepM x = { x with k := W }) := Lib.hid (by subst hW; simp [keepM, maxI, hl])
    rw [← hl, ← hW] at c0
    rw [← hW] at c1
    have hn : ¬ W < W := by omega
    clear hl hW
    have HM : Hid (MdlAt Fm oo (w.setCell ⟨g, oo + 31, none⟩ (.int .u64 W)) g { x with k := W }) := Lib.hid (Part.put h 31 (.int .u64 W))
    have HK := Lib.hid ((Keep.refl (fun k => k = g) w).setCell (p := ⟨g, oo + 31, none⟩) (.inl rfl) (.int .u64 W))
    clear h
    go_enter Tryz.func63, Tryz.ntmps63
    go_region
    go_wp2
    go_end0
    exact ⟨⟨_, rfl⟩, by rw [HE.out]; exact HM.out, HK.out.drew⟩
  · obtain ⟨W, hW⟩ : ∃ W, W = x.k := ⟨_, rfl⟩
    have hn : ¬ x.k < x.w := by omega
    have HE : Hid (keepM x = { x with k := W }) := Lib.hid (by subst hW; simp [keepM, maxI, hn])
    rw [← hW] at c1 hl hn
    clear hW
    have HM : Hid (MdlAt Fm oo (w.setCell ⟨g, oo + 31, none⟩ (.int .u64 W)) g { x with k := W }) := Lib.hid (Part.put h 31 (.int .u64 W))
    have HK := Lib.hid ((Keep.refl (fun k => k = g) w).setCell (p := ⟨g, oo + 31, none⟩) (.inl rfl) (.int .u64 W))
    clear h
    go_enter Tryz.func63, Tryz.ntmps63
    go_region
    go_wp2
    go_end0
    exact ⟨⟨_, rfl⟩, by rw [HE.out]; exact HM.out, HK.out.drew⟩
set_option maxHeartbeats 1000000 in
theorem restore_any (g : Nat) (x : Mdl) (w : World) (h : MdlAt Fm oo w g x) : Calls Tryz.prog 64 #[.pointer (some ⟨g, oo, none⟩)] w fun e w' => (∃ v, e = .returned v) ∧ MdlAt Fm oo w' g (resM x) ∧ Keep (fun k => k = g) w w' := by
  have c0 : w.cell? ⟨g, oo + 30, none⟩ = some (.int .u64 x.w) := Part.cell h 30
  have c1 : w.cell? ⟨g, oo + 31, none⟩ = some (.int .u64 x.k) := Part.cell h 31
  have f0 := Part.free h 30
  have f1 := Part.free h 31
  rcases Int.lt_trichotomy x.w x.k with hl | hl | hl
  · obtain ⟨W, hW⟩ : ∃ W, W = x.k := ⟨_, rfl⟩
    have HE : Hid (resM x = { x with w := W, k := 0 }) := Lib.hid (by subst hW; simp [resM, maxI, hl])
    have hn : ¬ x.k < x.w := by omega
    rw [← hW] at c1 hl hn
    clear hW
    have HM1 : Hid (MdlAt Fm oo (w.setCell ⟨g, oo + 30, none⟩ (.int .u64 W)) g { x with w := W }) := Lib.hid (Part.put h 30 (.int .u64 W))
    have c2 : (w.setCell ⟨g, oo + 30, none⟩ (.int .u64 W)).cell? ⟨g, oo + 31, none⟩ = some (.int .u64 x.k) := Part.cell HM1.out 31
    have f2 := Part.free HM1.out 31
    have HM : Hid (MdlAt Fm oo ((w.setCell ⟨g, oo + 30, none⟩ (.int .u64 W)).setCell ⟨g, oo + 31, none⟩ (.int .u64 0)) g { x with w := W, k := 0 }) := Lib.hid (Part.put HM1.out 31 (.int .u64 0))
    have HK := Lib.hid (((Keep.refl (fun k => k = g) w).setCell (p := ⟨g, oo + 30, none⟩) (.inl rfl) (.int .u64 W)).setCell (p := ⟨g, oo + 31, none⟩) (.inl rfl) (.int .u64 0))
    clear h
    go_enter Tryz.func64, Tryz.ntmps64
    go_region
    go_wp2
    go_end0
    exact ⟨⟨_, rfl⟩, by rw [HE.out]; exact HM.out, HK.out.drew⟩
  · obtain ⟨W, hW⟩ : ∃ W, W = x.w := ⟨_, rfl⟩
    have HE : Hid (resM x = { x with w := W, k := 0 }) := Lib.hid (by subst hW; simp [resM, maxI, hl])
    rw [← hl, ← hW] at c1
    rw [← hW] at c0
    have hn : ¬ W < W := by omega
    clear hl hW
    have HM1 : Hid (MdlAt Fm oo (w.setCell ⟨g, oo + 30, none⟩ (.int .u64 W)) g { x with w := W }) := Lib.hid (Part.put h 30 (.int .u64 W))
    have c2 : (w.setCell ⟨g, oo + 30, none⟩ (.int .u64 W)).cell? ⟨g, oo + 31, none⟩ = some (.int .u64 x.k) := Part.cell HM1.out 31
    have f2 := Part.free HM1.out 31
    have HM : Hid (MdlAt Fm oo ((w.setCell ⟨g, oo + 30, none⟩ (.int .u64 W)).setCell ⟨g, oo + 31, none⟩ (.int .u64 0)) g { x with w := W, k := 0 }) := Lib.hid (Part.put HM1.out 31 (.int .u64 0))
    have HK := Lib.hid (((Keep.refl (fun k => k = g) w).setCell (p := ⟨g, oo + 30, none⟩) (.inl rfl) (.int .u64 W)).setCell (p := ⟨g, oo + 31, none⟩) (.inl rfl) (.int .u64 0))
    clear h
    go_enter Tryz.func64, Tryz.ntmps64
    go_region
    go_wp2
    go_end0
    exact ⟨⟨_, rfl⟩, by rw [HE.out]; exact HM.out, HK.out.drew⟩
  · obtain ⟨W, hW⟩ : ∃ W, W = x.w := ⟨_, rfl⟩
    have hn : ¬ x.w < x.k := by omega
    have HE : Hid (resM x = { x with w := W, k := 0 }) := Lib.hid (by subst hW; simp [resM, maxI, hn])
    rw [← hW] at c0 hl hn
    clear hW
    have HM1 : Hid (MdlAt Fm oo (w.setCell ⟨g, oo + 30, none⟩ (.int .u64 W)) g { x with w := W }) := Lib.hid (Part.put h 30 (.int .u64 W))
    have c2 : (w.setCell ⟨g, oo + 30, none⟩ (.int .u64 W)).cell? ⟨g, oo + 31, none⟩ = some (.int .u64 x.k) := Part.cell HM1.out 31
    have f2 := Part.free HM1.out 31
    have HM : Hid (MdlAt Fm oo ((w.setCell ⟨g, oo + 30, none⟩ (.int .u64 W)).setCell ⟨g, oo + 31, none⟩ (.int .u64 0)) g { x with w := W, k := 0 }) := Lib.hid (Part.put HM1.out 31 (.int .u64 0))
    have HK := Lib.hid (((Keep.refl (fun k => k = g) w).setCell (p := ⟨g, oo + 30, none⟩) (.inl rfl) (.int .u64 W)).setCell (p := ⟨g, oo + 31, none⟩) (.inl rfl) (.int .u64 0))
    clear h
    go_enter Tryz.func64, Tryz.ntmps64
    go_region
    go_wp2
    go_end0
    exact ⟨⟨_, rfl⟩, by rw [HE.out]; exact HM.out, HK.out.drew⟩
end Go.Proofs.YtbimmadllfgmiaaGreat
