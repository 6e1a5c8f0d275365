/-
  The document's own sampler (canterref08.Sampler): Acked leaves what the plain mathematics says. Conditions: the sampler lies in memory as the law makes it; the numbers are of their kind.
-/
import Derived.Test.YtiilbdmldonipaaRefSam
namespace Go.Proofs.Ytiilbdmldonipaa
open Go.RowKit
set_option maxHeartbeats 4000000 in
set_option maxRecDepth 100000 in
theorem rsack_any (g : Nat) (now size : Int) (x : Smp) (y : Snt) (w : World) (h : RSamAt w g x) (hn : Num now) (hs : Num size) (hy : y.Fit) :
    Calls Try.prog 10 #[.pointer (some ⟨g, 0, none⟩), .int .u64 now, .int .u64 size, y.v] w fun e w' => (∃ v, e = .returned v) ∧ RSamAt w' g (ackS x now size y) ∧ Keep (fun k => k = g) w w' := by
  obtain ⟨D, hD⟩ : ∃ D, D = satAdd x.d size := ⟨_, rfl⟩
  obtain ⟨A, hA⟩ : ∃ A, A = satAdd x.a size := ⟨_, rfl⟩
  obtain ⟨M, hM⟩ : ∃ M, M = markS x size := ⟨_, rfl⟩
  obtain ⟨E, hE⟩ : ∃ E, E = satSub y.t y.f := ⟨_, rfl⟩
  obtain ⟨R, hR⟩ : ∃ R, R = satSub now y.t := ⟨_, rfl⟩
  obtain ⟨s, hs'⟩ : ∃ s, s = x.s := ⟨_, rfl⟩
  have HF := Lib.hid (h.fit.ack hn hs hy)
  have HP : Hid (s = false ∨ x.p ≤ y.d → ackS x now size y = ⟨D, now, y.t, M, A, true, y.d, y.u, y.l, E, R⟩) := Lib.hid (fun c => by subst hD hA hM hE hR hs'; exact if_pos c)
  have HN : Hid (¬ (s = false ∨ x.p ≤ y.d) → ackS x now size y = ⟨D, now, x.f, M, A, true, x.p, x.q, x.l, x.e, x.r⟩) := Lib.hid (fun c => by
    have hs1 : x.s = true := by
      cases hx : x.s
      · exact absurd (.inl (hs'.trans hx)) c
      · rfl
    subst hD hA hM hE hR hs'
    refine (if_neg c).trans ?_
    rw [hs1])
  have HM : Hid (M = if x.m < D then 0 else x.m) := Lib.hid (by subst hM hD; rfl)
  have CD := Lib.hid (radd_any x.d size h.fit.d.1 h.fit.d.2 hs.1 hs.2); rw [← hD] at CD
  have CA := Lib.hid (radd_any x.a size h.fit.a.1 h.fit.a.2 hs.1 hs.2); rw [← hA] at CA
  have CE := Lib.hid (rsub_any y.t y.f hy.t.1 hy.t.2 hy.f.1 hy.f.2); rw [← hE] at CE
  have CR := Lib.hid (rsub_any now y.t hn.1 hn.2 hy.t.1 hy.t.2); rw [← hR] at CR
  have hw := h.whole
  unfold rsmpC at hw
  rw [← hs'] at hw
  have H1 : Hid (Whole ((w.setCell ⟨g, 0, none⟩ (.int .u64 D)).setCell ⟨g, 1, none⟩ (.int .u64 now)) g 28 #[.int .u64 D, .int .u64 now, .int .u64 x.f, .int .u64 x.m, .bool s, .int .u64 x.a, .int .u64 x.p, .int .u64 x.q, .int .u64 x.e, .int .u64 x.r, .bool x.l]) := Lib.hid ((hw.put 0 _).put 1 _)
  have K1 := Lib.hid (((Keep.refl (fun k => k = g) w).setCell (p := ⟨g, 0, none⟩) (.inl rfl) (.int .u64 D)).setCell (p := ⟨g, 1, none⟩) (.inl rfl) (.int .u64 now))
  have f0 := hw.free 0
  have e0 : w.cell? ⟨g, 0, none⟩ = some (.int .u64 x.d) := hw.cell 0
  have f1 := (hw.put 0 (.int .u64 D)).free 1
  have e1 : (w.setCell ⟨g, 0, none⟩ (.int .u64 D)).cell? ⟨g, 1, none⟩ = some (.int .u64 x.u) := (hw.put 0 (.int .u64 D)).cell 1
  have hlt := h.lt
  have HZ : Hid (w.heap.size = ((w.setCell ⟨g, 0, none⟩ (.int .u64 D)).setCell ⟨g, 1, none⟩ (.int .u64 now)).heap.size) := Lib.hid (by simp [World.setCell])
  clear h hn hs hy hD hA hM hE hR hs' hw
  generalize ackS x now size y = Z at *
  go_enter Try.func10, Try.ntmps10
  go_upto_region 2 with (go_at_call 21; (with_reducible refine (CD.out _).mono ?_); rintro e w' ⟨rfl, rfl⟩)
  clear f0 e0 f1 e1
  have B1 := Lib.hid (Whole.new ((w.setCell ⟨g, 0, none⟩ (.int .u64 D)).setCell ⟨g, 1, none⟩ (.int .u64 now)) 32 y.c)
  have K2 := Lib.hid (K1.out.alloc (.cells y.c 32))
  have H2 := Lib.hid (H1.out.alloc (.cells y.c 32))
  rw [← HZ.out] at B1
  clear K1 H1 HZ CD
  generalize hw1 : World.alloc _ _ = w1 at *
  clear hw1
  have hb : g ≠ w.heap.size := by omega
  clear hlt
  generalize w.heap.size = b at *
  have c0 : w1.cell? ⟨g, 0, none⟩ = some (.int .u64 D) := H2.out.cell 0
  have c3 : w1.cell? ⟨g, 3, none⟩ = some (.int .u64 x.m) := H2.out.cell 3
  go_quiet (fail)
  have B2 := Lib.hid (B1.out.drewN nq)
  have K3 := Lib.hid (K2.out.drewN nq)
  have H3 := Lib.hid (H2.out.drewN nq)
  clear c0 c3 B1 K2 H2
  generalize w1.drewN nq = w2 at *
  go_upto_if 29 with fail
  go_cut [1] (fun s1 wx => s1 = .int .u64 now ∧ Whole wx b 32 y.c ∧ Whole wx g 28 #[.int .u64 D, .int .u64 now, .int .u64 x.f, .int .u64 M, .bool s, .int .u64 x.a, .int .u64 x.p, .int .u64 x.q, .int .u64 x.e, .int .u64 x.r, .bool x.l] ∧ Keep (fun k => k = g) w wx)
  case first =>
    have f3 := H3.out.free 3
    have e3 : w2.cell? ⟨g, 3, none⟩ = some (.int .u64 x.m) := H3.out.cell 3
    by_cases hm : x.m < D
    · obtain rfl : M = 0 := HM.out.trans (if_pos hm)
      go_wp2
      go_meet
      exact ⟨rfl, B2.out.far (p := ⟨g, 3, none⟩) hb.symm _, H3.out.put 3 _, K3.out.setCell (p := ⟨g, 3, none⟩) (.inl rfl) _⟩
    · obtain rfl : M = x.m := HM.out.trans (if_neg hm)
      go_wp2
      go_meet
      exact ⟨rfl, B2.out, H3.out, K3.out⟩
  case rest =>
    obtain ⟨rfl, hb3, hw3, hk3⟩ := hcut
    clear HM B2 K3 H3
    have e5 : wc.cell? ⟨g, 5, none⟩ = some (.int .u64 x.a) := hw3.cell 5
    have f5 := hw3.free 5
    have B4 := Lib.hid (hb3.far (p := ⟨g, 5, none⟩) hb.symm (.int .u64 A))
    have H4 : Hid (Whole (wc.setCell ⟨g, 5, none⟩ (.int .u64 A)) g 28 #[.int .u64 D, .int .u64 now, .int .u64 x.f, .int .u64 M, .bool s, .int .u64 A, .int .u64 x.p, .int .u64 x.q, .int .u64 x.e, .int .u64 x.r, .bool x.l]) := Lib.hid (hw3.put 5 _)
    have K4 := Lib.hid (hk3.setCell (p := ⟨g, 5, none⟩) (.inl rfl) (.int .u64 A))
    clear hb3 hw3 hk3
    go_upto_region 5 with (go_at_call 21; (with_reducible refine (CA.out _).mono ?_); rintro e w' ⟨rfl, rfl⟩)
    clear e5 f5 CA
    generalize wc.setCell _ _ = w4 at *
    go_cut [55] (fun s55 wx => s55 = .bool (decide (s = false ∨ x.p ≤ y.d)) ∧ ∃ n, wx = w4.drewN n)
    case first =>
      have e4 : w4.cell? ⟨g, 4, none⟩ = some (.bool s) := H4.out.cell 4
      have e6 : w4.cell? ⟨g, 6, none⟩ = some (.int .u64 x.p) := H4.out.cell 6
      have e1 : w4.cell? ⟨b, 1, none⟩ = some (.int .u64 y.d) := B4.out.cell 1
      cases s
      · have HE : Hid (true = decide (false = false ∨ x.p ≤ y.d)) := Lib.hid (by simp)
        go_quiet (fail)
        go_wp2
        go_meet
        exact ⟨congrArg Value.bool HE.out, _, rfl⟩
      · have HE : Hid (decide (x.p ≤ y.d) = decide (true = false ∨ x.p ≤ y.d)) := Lib.hid (by simp)
        go_quiet (fail)
        go_wp2
        go_meet
        exact ⟨congrArg Value.bool HE.out, _, rfl⟩
    case rest =>
      obtain ⟨rfl, n, rfl⟩ := hcut
      have B5 := Lib.hid (B4.out.drewN n); have G5 := Lib.hid (H4.out.drewN n); have K5 := Lib.hid (K4.out.drewN n)
      clear B4 H4 K4
      generalize w4.drewN n = w5 at *
      by_cases c : s = false ∨ x.p ≤ y.d
      · rw [decide_eq_true c]
        have HZ := Lib.hid (HP.out c)
        clear c HP HN
        go_upto_region 6 with fail
        have HSK : Hid (∀ W, Keep (fun k => k = g) w5 W → W.cell? ⟨b, 1, none⟩ = some (.int .u64 y.d) ∧ W.cell? ⟨b, 2, none⟩ = some (.int .u64 y.u) ∧ W.cell? ⟨b, 4, none⟩ = some (.bool y.l)) :=
          Lib.hid (fun W hW => have h := B5.out.keep hW (fun e => hb e.symm); ⟨h.cell 1, h.cell 2, h.cell 4⟩)
        refine wp_region_sch (fun W => W.cell? ⟨b, 1, none⟩ = some (.int .u64 y.d) ∧ W.cell? ⟨b, 2, none⟩ = some (.int .u64 y.u) ∧ W.cell? ⟨b, 4, none⟩ = some (.bool y.l)) [(true, 0), (true, 1), (true, 2), (true, 3), (true, 4), (true, 5), (true, 6), (true, 7), (true, 8), (true, 9), (true, 10), (false, 11), (true, 12), (true, 13), (false, 14), (true, 15), (true, 16), (false, 17)] (by kernel_rfl) (by kernel_rfl) (by kernel_rfl) (by kernel_rfl) (HSK.out _ (Keep.refl _ _).drew) ?_
        (repeat (refine wpSch_yes (v := ?_) rfl (fun _ _ _ h => h) (by rfl) ?_ ?_; rotate_left; (next => (intro w hSw; (try dsimp only at hSw); obtain ⟨hS1, hS2, hS3⟩ := hSw; go_simp; (try with_reducible rfl))); (try simp only [Act.put, List.setIfInBounds_toArray, List.set_cons_zero, List.set_cons_succ])))
        have e6 : w5.cell? ⟨g, 6, none⟩ = some (.int .u64 x.p) := G5.out.cell 6
        have f6 := G5.out.free 6
        have t1 := G5.out.put 6 (.int .u64 y.d)
        have k1 := (Keep.refl (fun k => k = g) w5).setCell (p := ⟨g, 6, none⟩) (.inl rfl) (.int .u64 y.d)
        have e7 : (w5.setCell ⟨g, 6, none⟩ (.int .u64 y.d)).cell? ⟨g, 7, none⟩ = some (.int .u64 x.q) := t1.cell 7
        have f7 := t1.free 7
        have t2 := t1.put 7 (.int .u64 y.u)
        have k2 := k1.setCell (p := ⟨g, 7, none⟩) (.inl rfl) (.int .u64 y.u)
        have e10 : ((w5.setCell ⟨g, 6, none⟩ (.int .u64 y.d)).setCell ⟨g, 7, none⟩ (.int .u64 y.u)).cell? ⟨g, 10, none⟩ = some (.bool x.l) := t2.cell 10
        have f10 := t2.free 10
        have G6 : Hid (Whole (((w5.setCell ⟨g, 6, none⟩ (.int .u64 y.d)).setCell ⟨g, 7, none⟩ (.int .u64 y.u)).setCell ⟨g, 10, none⟩ (.bool y.l)).drew g 28 #[.int .u64 D, .int .u64 now, .int .u64 x.f, .int .u64 M, .bool s, .int .u64 A, .int .u64 y.d, .int .u64 y.u, .int .u64 x.e, .int .u64 x.r, .bool y.l]) := Lib.hid (t2.put 10 _).drew
        have KK1 := Lib.hid k1.drew; have KK2 := Lib.hid k2.drew
        have KK3 := Lib.hid (k2.setCell (p := ⟨g, 10, none⟩) (.inl rfl) (.bool y.l)).drew
        clear t1 t2 k1 k2
        refine wpSch_call rfl (by rfl) (fun K hK => ?_); go_simp
        refine hK.out _ _ (HSK.out _ KK1.out) (fun hHeld => ?_); clear hK K hHeld; (try simp only [Act.put, List.setIfInBounds_toArray, List.set_cons_zero, List.set_cons_succ])
        (repeat (refine wpSch_yes (v := ?_) rfl (fun _ _ _ h => h) (by rfl) ?_ ?_; rotate_left; (next => (intro w hSw; (try dsimp only at hSw); obtain ⟨hS1, hS2, hS3⟩ := hSw; go_simp; (try with_reducible rfl))); (try simp only [Act.put, List.setIfInBounds_toArray, List.set_cons_zero, List.set_cons_succ])))
        refine wpSch_call rfl (by rfl) (fun K hK => ?_); go_simp
        refine hK.out _ _ (HSK.out _ KK2.out) (fun hHeld => ?_); clear hK K hHeld; (try simp only [Act.put, List.setIfInBounds_toArray, List.set_cons_zero, List.set_cons_succ])
        (repeat (refine wpSch_yes (v := ?_) rfl (fun _ _ _ h => h) (by rfl) ?_ ?_; rotate_left; (next => (intro w hSw; (try dsimp only at hSw); obtain ⟨hS1, hS2, hS3⟩ := hSw; go_simp; (try with_reducible rfl))); (try simp only [Act.put, List.setIfInBounds_toArray, List.set_cons_zero, List.set_cons_succ])))
        refine wpSch_call rfl (by rfl) (fun K hK => ?_); go_simp
        refine hK.out _ _ (HSK.out _ KK3.out) (fun hHeld => ?_); clear hK K hHeld; (try simp only [Act.put, List.setIfInBounds_toArray, List.set_cons_zero, List.set_cons_succ])
        clear e6 f6 e7 f7 e10 f10
        have B6 := Lib.hid (B5.out.keep KK3.out (fun e => hb e.symm))
        have K6 := Lib.hid (K5.out.trans KK3.out)
        clear HSK KK1 KK2 KK3 B5 G5 K5
        generalize hw6 : World.drew _ = w6 at *
        clear hw6
        refine wpSch_nil ?_
        go_upto_region 7 with fail
        have HSK : Hid (∀ W, Keep (fun k => k = g) w6 W → W.cell? ⟨b, 0, none⟩ = some (.int .u64 y.t) ∧ W.cell? ⟨b, 3, none⟩ = some (.int .u64 y.f)) :=
          Lib.hid (fun W hW => have h := B6.out.keep hW (fun e => hb e.symm); ⟨h.cell 0, h.cell 3⟩)
        refine wp_region_sch (fun W => W.cell? ⟨b, 0, none⟩ = some (.int .u64 y.t) ∧ W.cell? ⟨b, 3, none⟩ = some (.int .u64 y.f)) [(true, 0), (true, 1), (true, 2), (true, 3), (true, 4), (true, 5), (true, 7), (true, 8), (true, 9), (false, 6), (false, 10), (true, 11), (true, 12), (false, 13), (true, 14), (true, 15), (false, 16)] (by kernel_rfl) (by kernel_rfl) (by kernel_rfl) (by kernel_rfl) (HSK.out _ (Keep.refl _ _).drew) ?_
        (repeat (refine wpSch_yes (v := ?_) rfl (fun _ _ _ h => h) (by rfl) ?_ ?_; rotate_left; (next => (intro w hSw; (try dsimp only at hSw); obtain ⟨hS1, hS2⟩ := hSw; go_simp; (try with_reducible rfl))); (try simp only [Act.put, List.setIfInBounds_toArray, List.set_cons_zero, List.set_cons_succ])))
        refine wpSch_call rfl (by rfl) (fun K hK => ?_); go_simp
        refine (CE.out _).mono ?_
        rintro e w' ⟨rfl, rfl⟩
        refine hK.out _ _ (HSK.out _ (Keep.refl _ _).drew) (fun hHeld => ?_); clear hK K hHeld; (try simp only [Act.put, List.setIfInBounds_toArray, List.set_cons_zero, List.set_cons_succ])
        refine wpSch_call rfl (by rfl) (fun K hK => ?_); go_simp
        refine (CR.out _).mono ?_
        rintro e w' ⟨rfl, rfl⟩
        refine hK.out _ _ (HSK.out _ (Keep.refl _ _).drew) (fun hHeld => ?_); clear hK K hHeld; (try simp only [Act.put, List.setIfInBounds_toArray, List.set_cons_zero, List.set_cons_succ])
        (repeat (refine wpSch_yes (v := ?_) rfl (fun _ _ _ h => h) (by rfl) ?_ ?_; rotate_left; (next => (intro w hSw; (try dsimp only at hSw); obtain ⟨hS1, hS2⟩ := hSw; go_simp; (try with_reducible rfl))); (try simp only [Act.put, List.setIfInBounds_toArray, List.set_cons_zero, List.set_cons_succ])))
        have e8 : w6.cell? ⟨g, 8, none⟩ = some (.int .u64 x.e) := G6.out.cell 8
        have f8 := G6.out.free 8
        have t1 := G6.out.put 8 (.int .u64 E)
        have k1 := (Keep.refl (fun k => k = g) w6).setCell (p := ⟨g, 8, none⟩) (.inl rfl) (.int .u64 E)
        have e9 : (w6.setCell ⟨g, 8, none⟩ (.int .u64 E)).cell? ⟨g, 9, none⟩ = some (.int .u64 x.r) := t1.cell 9
        have f9 := t1.free 9
        have G7 : Hid (Whole ((w6.setCell ⟨g, 8, none⟩ (.int .u64 E)).setCell ⟨g, 9, none⟩ (.int .u64 R)).drew g 28 #[.int .u64 D, .int .u64 now, .int .u64 x.f, .int .u64 M, .bool s, .int .u64 A, .int .u64 y.d, .int .u64 y.u, .int .u64 E, .int .u64 R, .bool y.l]) := Lib.hid (t1.put 9 _).drew
        have KK1 := Lib.hid k1.drew
        have KK2 := Lib.hid (k1.setCell (p := ⟨g, 9, none⟩) (.inl rfl) (.int .u64 R)).drew
        clear t1 k1
        refine wpSch_call rfl (by rfl) (fun K hK => ?_); go_simp
        refine hK.out _ _ (HSK.out _ KK1.out) (fun hHeld => ?_); clear hK K hHeld; (try simp only [Act.put, List.setIfInBounds_toArray, List.set_cons_zero, List.set_cons_succ])
        (repeat (refine wpSch_yes (v := ?_) rfl (fun _ _ _ h => h) (by rfl) ?_ ?_; rotate_left; (next => (intro w hSw; (try dsimp only at hSw); obtain ⟨hS1, hS2⟩ := hSw; go_simp; (try with_reducible rfl))); (try simp only [Act.put, List.setIfInBounds_toArray, List.set_cons_zero, List.set_cons_succ])))
        refine wpSch_call rfl (by rfl) (fun K hK => ?_); go_simp
        refine hK.out _ _ (HSK.out _ KK2.out) (fun hHeld => ?_); clear hK K hHeld; (try simp only [Act.put, List.setIfInBounds_toArray, List.set_cons_zero, List.set_cons_succ])
        clear e8 f8 e9 f9
        have B7 := Lib.hid (B6.out.keep KK2.out (fun e => hb e.symm))
        have K7 := Lib.hid (K6.out.trans KK2.out)
        clear HSK KK1 KK2 B6 G6 K6
        generalize hw7 : World.drew _ = w7 at *
        clear hw7
        refine wpSch_nil ?_
        have e2 : w7.cell? ⟨g, 2, none⟩ = some (.int .u64 x.f) := G7.out.cell 2
        have f2 := G7.out.free 2
        have e0 : w7.cell? ⟨b, 0, none⟩ = some (.int .u64 y.t) := B7.out.cell 0
        have G9 : Hid (Whole (w7.setCell ⟨g, 2, none⟩ (.int .u64 y.t)) g 28 #[.int .u64 D, .int .u64 now, .int .u64 y.t, .int .u64 M, .bool s, .int .u64 A, .int .u64 y.d, .int .u64 y.u, .int .u64 E, .int .u64 R, .bool y.l]) := Lib.hid (G7.out.put 2 _)
        have K9 := Lib.hid (K7.out.setCell (p := ⟨g, 2, none⟩) (.inl rfl) (.int .u64 y.t))
        go_upto_region 9 with fail
        clear e2 f2 e0 G7 K7 B7
        generalize w7.setCell _ _ = w9 at *
        have f4 := G9.out.free 4
        have e4 := G9.out.cell 4
        have G10 := Lib.hid (G9.out.put 4 (.bool true))
        have K10 := Lib.hid (K9.out.setCell (p := ⟨g, 4, none⟩) (.inl rfl) (.bool true))
        simp only [List.getElem?_toArray, List.getElem?_cons_succ, List.getElem?_cons_zero] at e4
        go_wp2
        go_end0
        exact ⟨⟨_, rfl⟩, ⟨by rw [HZ.out]; exact G10.out, HF.out⟩, K10.out⟩
      · rw [decide_eq_false c]
        have HZ := Lib.hid (HN.out c)
        clear c HP HN
        have G9 := G5; have K9 := K5
        have f4 := G9.out.free 4
        have e4 := G9.out.cell 4
        have G10 := Lib.hid (G9.out.put 4 (.bool true))
        have K10 := Lib.hid (K9.out.setCell (p := ⟨g, 4, none⟩) (.inl rfl) (.bool true))
        simp only [List.getElem?_toArray, List.getElem?_cons_succ, List.getElem?_cons_zero] at e4
        go_wp2
        go_end0
        exact ⟨⟨_, rfl⟩, ⟨by rw [HZ.out]; exact G10.out, HF.out⟩, K10.out⟩
end Go.Proofs.Ytiilbdmldonipaa
