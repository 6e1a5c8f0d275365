/-
  Package sampler's Acked leaves what the document says. Conditions: the sampler lies in memory as New makes it, or is nil; the numbers are of their kind.
-/
import Derived.Test.YtiilbdmldonipaaSamSent
namespace Go.Proofs.Ytiilbdmldonipaa
open Go.RowKit

set_option maxHeartbeats 400000 in
theorem sack_nil (now size : Int) (y : Snt) (w : World) : Calls Try.prog 9 #[.pointer none, .int .u64 now, .int .u64 size, y.v] w fun e w' => (∃ v, e = .returned v) ∧ Keep (fun _ => False) w w' := by
  go_enter Try.func9, Try.ntmps9
  go_wp2
  refine bodyPost_ret (results_none rfl _ _ _) rfl ?_
  exact ⟨⟨_, rfl⟩, (Keep.refl _ _).alloc _⟩
theorem Whole.six {w : World} {g : Nat} {t : TypeId} {c0 c1 c2 c3 c4 c5 c6 c7 c8 c9 c10 : Value} (h : Whole w g t #[c0, c1, c2, c3, c4, c5, c6, c7, c8, c9, c10]) (v0 v1 v2 v3 v4 v5 : Value) :
    (w.cell? ⟨g, 5, none⟩ = some c5 ∧ w.frozen? ⟨g, 5, none⟩ = false) ∧ ((w.setCell ⟨g, 5, none⟩ v0).cell? ⟨g, 6, none⟩ = some c6 ∧ (w.setCell ⟨g, 5, none⟩ v0).frozen? ⟨g, 6, none⟩ = false) ∧ (((w.setCell ⟨g, 5, none⟩ v0).setCell ⟨g, 6, none⟩ v1).cell? ⟨g, 7, none⟩ = some c7 ∧ ((w.setCell ⟨g, 5, none⟩ v0).setCell ⟨g, 6, none⟩ v1).frozen? ⟨g, 7, none⟩ = false) ∧ ((((w.setCell ⟨g, 5, none⟩ v0).setCell ⟨g, 6, none⟩ v1).setCell ⟨g, 7, none⟩ v2).cell? ⟨g, 8, none⟩ = some c8 ∧ (((w.setCell ⟨g, 5, none⟩ v0).setCell ⟨g, 6, none⟩ v1).setCell ⟨g, 7, none⟩ v2).frozen? ⟨g, 8, none⟩ = false) ∧ (((((w.setCell ⟨g, 5, none⟩ v0).setCell ⟨g, 6, none⟩ v1).setCell ⟨g, 7, none⟩ v2).setCell ⟨g, 8, none⟩ v3).cell? ⟨g, 9, none⟩ = some c9 ∧ ((((w.setCell ⟨g, 5, none⟩ v0).setCell ⟨g, 6, none⟩ v1).setCell ⟨g, 7, none⟩ v2).setCell ⟨g, 8, none⟩ v3).frozen? ⟨g, 9, none⟩ = false) ∧ ((((((w.setCell ⟨g, 5, none⟩ v0).setCell ⟨g, 6, none⟩ v1).setCell ⟨g, 7, none⟩ v2).setCell ⟨g, 8, none⟩ v3).setCell ⟨g, 9, none⟩ v4).cell? ⟨g, 10, none⟩ = some c10 ∧ (((((w.setCell ⟨g, 5, none⟩ v0).setCell ⟨g, 6, none⟩ v1).setCell ⟨g, 7, none⟩ v2).setCell ⟨g, 8, none⟩ v3).setCell ⟨g, 9, none⟩ v4).frozen? ⟨g, 10, none⟩ = false) ∧ Whole ((((((w.setCell ⟨g, 5, none⟩ v0).setCell ⟨g, 6, none⟩ v1).setCell ⟨g, 7, none⟩ v2).setCell ⟨g, 8, none⟩ v3).setCell ⟨g, 9, none⟩ v4).setCell ⟨g, 10, none⟩ v5) g t #[c0, c1, c2, c3, c4, v0, v1, v2, v3, v4, v5] ∧ Keep (fun k => k = g) w ((((((w.setCell ⟨g, 5, none⟩ v0).setCell ⟨g, 6, none⟩ v1).setCell ⟨g, 7, none⟩ v2).setCell ⟨g, 8, none⟩ v3).setCell ⟨g, 9, none⟩ v4).setCell ⟨g, 10, none⟩ v5) := by
  have t0 := h
  have t1 : Whole (w.setCell ⟨g, 5, none⟩ v0) g t #[c0, c1, c2, c3, c4, v0, c6, c7, c8, c9, c10] := t0.put 5 v0
  have t2 : Whole ((w.setCell ⟨g, 5, none⟩ v0).setCell ⟨g, 6, none⟩ v1) g t #[c0, c1, c2, c3, c4, v0, v1, c7, c8, c9, c10] := t1.put 6 v1
  have t3 : Whole (((w.setCell ⟨g, 5, none⟩ v0).setCell ⟨g, 6, none⟩ v1).setCell ⟨g, 7, none⟩ v2) g t #[c0, c1, c2, c3, c4, v0, v1, v2, c8, c9, c10] := t2.put 7 v2
  have t4 : Whole ((((w.setCell ⟨g, 5, none⟩ v0).setCell ⟨g, 6, none⟩ v1).setCell ⟨g, 7, none⟩ v2).setCell ⟨g, 8, none⟩ v3) g t #[c0, c1, c2, c3, c4, v0, v1, v2, v3, c9, c10] := t3.put 8 v3
  have t5 : Whole (((((w.setCell ⟨g, 5, none⟩ v0).setCell ⟨g, 6, none⟩ v1).setCell ⟨g, 7, none⟩ v2).setCell ⟨g, 8, none⟩ v3).setCell ⟨g, 9, none⟩ v4) g t #[c0, c1, c2, c3, c4, v0, v1, v2, v3, v4, c10] := t4.put 9 v4
  have t6 : Whole ((((((w.setCell ⟨g, 5, none⟩ v0).setCell ⟨g, 6, none⟩ v1).setCell ⟨g, 7, none⟩ v2).setCell ⟨g, 8, none⟩ v3).setCell ⟨g, 9, none⟩ v4).setCell ⟨g, 10, none⟩ v5) g t #[c0, c1, c2, c3, c4, v0, v1, v2, v3, v4, v5] := t5.put 10 v5
  have k0 := Keep.refl (fun k => k = g) w
  have k1 := k0.setCell (p := ⟨g, 5, none⟩) (.inl rfl) v0
  have k2 := k1.setCell (p := ⟨g, 6, none⟩) (.inl rfl) v1
  have k3 := k2.setCell (p := ⟨g, 7, none⟩) (.inl rfl) v2
  have k4 := k3.setCell (p := ⟨g, 8, none⟩) (.inl rfl) v3
  have k5 := k4.setCell (p := ⟨g, 9, none⟩) (.inl rfl) v4
  have k6 := k5.setCell (p := ⟨g, 10, none⟩) (.inl rfl) v5
  exact ⟨⟨t0.cell 5, t0.free 5⟩, ⟨t1.cell 6, t1.free 6⟩, ⟨t2.cell 7, t2.free 7⟩, ⟨t3.cell 8, t3.free 8⟩, ⟨t4.cell 9, t4.free 9⟩, ⟨t5.cell 10, t5.free 10⟩, t6, k6⟩
theorem newest_is {n : Int} {s : Bool} {p p' : Int} (hn : (if s = false ∨ p' ≤ p then (0 : Int) else 1) = n) (b : Nat) (q q' e e' r r' : Int) (l l' : Bool) (w : World) (h : Whole w b 49 #[.bool true, .int .u64 p, .int .u64 q, .bool l, .int .u64 e, .int .u64 r, .bool s, .int .u64 p', .int .u64 q', .bool l', .int .u64 e', .int .u64 r']) :
    Calls Try.prog 20 #[.slice (some ⟨b, 0, none⟩) 2 2] w fun e w' => e = .returned (.int .i64 n) ∧ Keep (fun _ => False) w w' := hn ▸ newest_any b p p' q q' e e' r r' s l l' w h
set_option maxHeartbeats 4000000 in
theorem sack_any (g : Nat) (now size : Int) (x : Smp) (y : Snt) (w : World) (h : SamAt w g x) (hn : Num now) (hs : Num size) (hy : y.Fit) :
    Calls Try.prog 9 #[.pointer (some ⟨g, 0, none⟩), .int .u64 now, .int .u64 size, y.v] w fun e w' => (∃ v, e = .returned v) ∧ SamAt w' g (ackS x now size y) ∧ Keep (fun k => k = g) w w' := by
  obtain ⟨D, hD⟩ : ∃ D, D = satAdd x.d size := ⟨_, rfl⟩
  obtain ⟨A, hA⟩ : ∃ A, A = satAdd x.a size := ⟨_, rfl⟩
  obtain ⟨M, hM⟩ : ∃ M, M = markS x size := ⟨_, rfl⟩
  obtain ⟨E, hE⟩ : ∃ E, E = satSub y.t y.f := ⟨_, rfl⟩
  obtain ⟨R, hR⟩ : ∃ R, R = satSub now y.t := ⟨_, rfl⟩
  have HF := Lib.hid (h.fit.ack hn hs hy)
  have HP : Hid (x.s = false ∨ x.p ≤ y.d → ackS x now size y = ⟨D, now, y.t, M, A, true, y.d, y.u, y.l, E, R⟩) := Lib.hid (fun c => by subst hD hA hM hE hR; exact if_pos c)
  have HN : Hid (¬ (x.s = false ∨ x.p ≤ y.d) → ackS x now size y = ⟨D, now, x.f, M, A, x.s, x.p, x.q, x.l, x.e, x.r⟩) := Lib.hid (fun c => by subst hD hA hM hE hR; exact if_neg c)
  have HM : Hid (M = if x.m < D then 0 else x.m) := Lib.hid (by subst hM hD; rfl)
  have CD := Lib.hid (add_any x.d size h.fit.d.1 h.fit.d.2 hs.1 hs.2); rw [← hD] at CD
  have CA := Lib.hid (add_any x.a size h.fit.a.1 h.fit.a.2 hs.1 hs.2); rw [← hA] at CA
  have CE := Lib.hid (sub_any y.t y.f hy.t.1 hy.t.2 hy.f.1 hy.f.2); rw [← hE] at CE
  have CR := Lib.hid (sub_any now y.t hn.1 hn.2 hy.t.1 hy.t.2); rw [← hR] at CR
  have H1 : Hid (Whole ((w.setCell ⟨g, 0, none⟩ (.int .u64 D)).setCell ⟨g, 1, none⟩ (.int .u64 now)) g 51 #[.int .u64 D, .int .u64 now, .int .u64 x.f, .int .u64 x.m, .int .u64 x.a, .bool x.s, .int .u64 x.p, .int .u64 x.q, .bool x.l, .int .u64 x.e, .int .u64 x.r]) := Lib.hid ((h.whole.put 0 _).put 1 _)
  have K1 := Lib.hid (((Keep.refl (fun k => k = g) w).setCell (p := ⟨g, 0, none⟩) (.inl rfl) (.int .u64 D)).setCell (p := ⟨g, 1, none⟩) (.inl rfl) (.int .u64 now))
  have f0 := h.whole.free 0
  have e0 : w.cell? ⟨g, 0, none⟩ = some (.int .u64 x.d) := h.whole.cell 0
  have f1 := (h.whole.put 0 (.int .u64 D)).free 1
  have e1 : (w.setCell ⟨g, 0, none⟩ (.int .u64 D)).cell? ⟨g, 1, none⟩ = some (.int .u64 x.u) := (h.whole.put 0 (.int .u64 D)).cell 1
  have hlt := h.lt
  have HZ : Hid (w.heap.size = ((w.setCell ⟨g, 0, none⟩ (.int .u64 D)).setCell ⟨g, 1, none⟩ (.int .u64 now)).heap.size) := Lib.hid (by simp [World.setCell])
  clear h hn hs hy hD hA hM hE hR
  generalize ackS x now size y = Z at *
  go_enter Try.func9, Try.ntmps9
  go_upto_region 3 with (go_at_call 18; (with_reducible refine (CD.out _).mono ?_); rintro e w' ⟨rfl, rfl⟩)
  clear f0 e0 f1 e1
  have B1 := Lib.hid (Whole.new ((w.setCell ⟨g, 0, none⟩ (.int .u64 D)).setCell ⟨g, 1, none⟩ (.int .u64 now)) 32 y.c)
  have K2 := Lib.hid (K1.out.alloc (.cells y.c 32))
  have H2 := Lib.hid (H1.out.alloc (.cells y.c 32))
  rw [← HZ.out] at B1
  clear K1 H1 HZ CD
  generalize hw1 : World.alloc _ _ = w1 at *
  clear hw1
  have hb : g ≠ w.heap.size := by omega
  clear hlt
  generalize w.heap.size = b at *
  have c0 : w1.cell? ⟨g, 0, none⟩ = some (.int .u64 D) := H2.out.cell 0
  have c3 : w1.cell? ⟨g, 3, none⟩ = some (.int .u64 x.m) := H2.out.cell 3
  go_quiet (fail)
  have B2 := Lib.hid (B1.out.drewN nq)
  have K3 := Lib.hid (K2.out.drewN nq)
  have H3 := Lib.hid (H2.out.drewN nq)
  clear c0 c3 B1 K2 H2
  generalize w1.drewN nq = w2 at *
  go_upto_if 32 with fail
  go_cut [1] (fun s1 wx => s1 = .int .u64 now ∧ Whole wx b 32 y.c ∧ Whole wx g 51 #[.int .u64 D, .int .u64 now, .int .u64 x.f, .int .u64 M, .int .u64 x.a, .bool x.s, .int .u64 x.p, .int .u64 x.q, .bool x.l, .int .u64 x.e, .int .u64 x.r] ∧ Keep (fun k => k = g) w wx)
  case first =>
    have f3 := H3.out.free 3
    have e3 : w2.cell? ⟨g, 3, none⟩ = some (.int .u64 x.m) := H3.out.cell 3
    by_cases hm : x.m < D
    · obtain rfl : M = 0 := HM.out.trans (if_pos hm)
      go_wp2
      go_meet
      exact ⟨rfl, B2.out.far (p := ⟨g, 3, none⟩) hb.symm _, H3.out.put 3 _, K3.out.setCell (p := ⟨g, 3, none⟩) (.inl rfl) _⟩
    · obtain rfl : M = x.m := HM.out.trans (if_neg hm)
      go_wp2
      go_meet
      exact ⟨rfl, B2.out, H3.out, K3.out⟩
  case rest =>
    obtain ⟨rfl, hb3, hw3, hk3⟩ := hcut
    clear HM B2 K3 H3
    have e4 : wc.cell? ⟨g, 4, none⟩ = some (.int .u64 x.a) := hw3.cell 4
    have f4 := hw3.free 4
    have B4 := Lib.hid (hb3.far (p := ⟨g, 4, none⟩) hb.symm (.int .u64 A))
    have H4 : Hid (Whole (wc.setCell ⟨g, 4, none⟩ (.int .u64 A)) g 51 #[.int .u64 D, .int .u64 now, .int .u64 x.f, .int .u64 M, .int .u64 A, .bool x.s, .int .u64 x.p, .int .u64 x.q, .bool x.l, .int .u64 x.e, .int .u64 x.r]) := Lib.hid (hw3.put 4 _)
    have K4 := Lib.hid (hk3.setCell (p := ⟨g, 4, none⟩) (.inl rfl) (.int .u64 A))
    clear hb3 hw3 hk3
    go_upto_region 6 with (go_at_call 18; (with_reducible refine (CA.out _).mono ?_); rintro e w' ⟨rfl, rfl⟩)
    clear e4 f4 CA
    generalize wc.setCell _ _ = w4 at *
    go_cut [8] (fun s8 wx => ∃ B, B ≠ g ∧ B ≠ b ∧ s8 = .pointer (some ⟨B, 0, none⟩) ∧ Whole wx B 49 #[.bool true, .int .u64 y.d, .int .u64 y.u, .bool y.l, .int .u64 E, .int .u64 R] ∧ Whole wx b 32 y.c ∧ Whole wx g 51 #[.int .u64 D, .int .u64 now, .int .u64 x.f, .int .u64 M, .int .u64 A, .bool x.s, .int .u64 x.p, .int .u64 x.q, .bool x.l, .int .u64 x.e, .int .u64 x.r] ∧ Keep (fun k => k = g) w wx)
    case first =>
      have hl1 := B4.out.lt
      have hl2 := H4.out.lt
      refine wp_region_sch2 (fun W => W.cell? ⟨b, 0, none⟩ = some (.int .u64 y.t) ∧ W.cell? ⟨b, 1, none⟩ = some (.int .u64 y.d) ∧ W.cell? ⟨b, 2, none⟩ = some (.int .u64 y.u) ∧ W.cell? ⟨b, 3, none⟩ = some (.int .u64 y.f) ∧ W.cell? ⟨b, 4, none⟩ = some (.bool y.l)) (.yes 0 (.yes 1 (.yes 2 (.yes 3 (.yes 4 (.yes 5 (.yes 6 (.yes 7 (.yes 8 (.yes 9 (.yes 11 (.yes 12 (.yes 13 (.two 10 (.two 14 (.yes 15 (.one 16 (.one 17 .nil))) 16 (.one 14 (.yes 15 (.one 17 .nil)))) 16 (.one 10 (.one 14 (.yes 15 (.one 17 .nil)))))))))))))))))) (by kernel_rfl) (by kernel_rfl) (by kernel_rfl) (by kernel_rfl) ⟨B4.out.drew.cell 0, B4.out.drew.cell 1, B4.out.drew.cell 2, B4.out.drew.cell 3, B4.out.drew.cell 4⟩ ?_
      (repeat (refine wpSch2_yes (v := ?_) rfl (fun _ _ _ h => h) (by rfl) ?_ ?_; rotate_left; (next => (intro w hSw; (try dsimp only at hSw); obtain ⟨hS1, hS2, hS3, hS4, hS5⟩ := hSw; go_simp; (try with_reducible rfl))); (try simp only [Act.put, List.setIfInBounds_toArray, List.set_cons_zero, List.set_cons_succ])))
      have HSK : Hid (∀ W, Keep (fun _ => False) w4 W → W.cell? ⟨b, 0, none⟩ = some (.int .u64 y.t) ∧ W.cell? ⟨b, 1, none⟩ = some (.int .u64 y.d) ∧ W.cell? ⟨b, 2, none⟩ = some (.int .u64 y.u) ∧ W.cell? ⟨b, 3, none⟩ = some (.int .u64 y.f) ∧ W.cell? ⟨b, 4, none⟩ = some (.bool y.l)) := Lib.hid (fun W hW => have h := B4.out.keep hW id; ⟨h.cell 0, h.cell 1, h.cell 2, h.cell 3, h.cell 4⟩)
      refine wpSch2_two ?_ ?_
      · refine wpOne_call rfl (by rfl) (fun K hK => ?_); go_simp
        refine (CE.out _).mono ?_
        rintro e w' ⟨rfl, rfl⟩
        refine hK.out _ _ (HSK.out _ (by first | exact (Keep.refl _ _).drew | exact ((Keep.refl _ _).alloc _).drew)) (fun hHeld => ?_); clear hK K hHeld; (try simp only [Act.put, List.setIfInBounds_toArray, List.set_cons_zero, List.set_cons_succ])
        refine wpSch2_two ?_ ?_
        · refine wpOne_call rfl (by rfl) (fun K hK => ?_); go_simp
          refine (CR.out _).mono ?_
          rintro e w' ⟨rfl, rfl⟩
          refine hK.out _ _ (HSK.out _ (by first | exact (Keep.refl _ _).drew | exact ((Keep.refl _ _).alloc _).drew)) (fun hHeld => ?_); clear hK K hHeld; (try simp only [Act.put, List.setIfInBounds_toArray, List.set_cons_zero, List.set_cons_succ])
          (repeat (refine wpSch2_yes (v := ?_) rfl (fun _ _ _ h => h) (by rfl) ?_ ?_; rotate_left; (next => (intro w hSw; (try dsimp only at hSw); obtain ⟨hS1, hS2, hS3, hS4, hS5⟩ := hSw; go_simp; (try with_reducible rfl))); (try simp only [Act.put, List.setIfInBounds_toArray, List.set_cons_zero, List.set_cons_succ])))
          refine wpSch2_one ?_
          refine wpOne_call rfl (by rfl) (fun K hK => ?_); go_simp
          refine hK.out _ _ (HSK.out _ (by first | exact (Keep.refl _ _).drew | exact ((Keep.refl _ _).alloc _).drew)) (fun hHeld => ?_); clear hK K hHeld; (try simp only [Act.put, List.setIfInBounds_toArray, List.set_cons_zero, List.set_cons_succ])
          refine wpSch2_one ?_
          refine wpOne_call rfl (by rfl) (fun K hK => ?_); go_simp
          refine hK.out _ _ (HSK.out _ (by first | exact (Keep.refl _ _).drew | exact ((Keep.refl _ _).alloc _).drew)) (fun hHeld => ?_); clear hK K hHeld; (try simp only [Act.put, List.setIfInBounds_toArray, List.set_cons_zero, List.set_cons_succ])
          refine wpSch2_nil ?_
          go_wp2
          go_meet
          exact ⟨w4.heap.size, by omega, by omega, rfl, (Whole.new w4 _ _).drew, (B4.out.alloc _).drew, (H4.out.alloc _).drew, (K4.out.alloc _).drew⟩
        · refine wpOne_call rfl (by rfl) (fun K hK => ?_); go_simp
          refine hK.out _ _ (HSK.out _ (by first | exact (Keep.refl _ _).drew | exact ((Keep.refl _ _).alloc _).drew)) (fun hHeld => ?_); clear hK K hHeld; (try simp only [Act.put, List.setIfInBounds_toArray, List.set_cons_zero, List.set_cons_succ])
          refine wpSch2_one ?_
          refine wpOne_call rfl (by rfl) (fun K hK => ?_); go_simp
          refine (CR.out _).mono ?_
          rintro e w' ⟨rfl, rfl⟩
          refine hK.out _ _ (HSK.out _ (by first | exact (Keep.refl _ _).drew | exact ((Keep.refl _ _).alloc _).drew)) (fun hHeld => ?_); clear hK K hHeld; (try simp only [Act.put, List.setIfInBounds_toArray, List.set_cons_zero, List.set_cons_succ])
          (repeat (refine wpSch2_yes (v := ?_) rfl (fun _ _ _ h => h) (by rfl) ?_ ?_; rotate_left; (next => (intro w hSw; (try dsimp only at hSw); obtain ⟨hS1, hS2, hS3, hS4, hS5⟩ := hSw; go_simp; (try with_reducible rfl))); (try simp only [Act.put, List.setIfInBounds_toArray, List.set_cons_zero, List.set_cons_succ])))
          refine wpSch2_one ?_
          refine wpOne_call rfl (by rfl) (fun K hK => ?_); go_simp
          refine hK.out _ _ (HSK.out _ (by first | exact (Keep.refl _ _).drew | exact ((Keep.refl _ _).alloc _).drew)) (fun hHeld => ?_); clear hK K hHeld; (try simp only [Act.put, List.setIfInBounds_toArray, List.set_cons_zero, List.set_cons_succ])
          refine wpSch2_nil ?_
          go_wp2
          go_meet
          exact ⟨w4.heap.size, by omega, by omega, rfl, (Whole.new w4 _ _).drew, (B4.out.alloc _).drew, (H4.out.alloc _).drew, (K4.out.alloc _).drew⟩
      · refine wpOne_call rfl (by rfl) (fun K hK => ?_); go_simp
        refine hK.out _ _ (HSK.out _ (by first | exact (Keep.refl _ _).drew | exact ((Keep.refl _ _).alloc _).drew)) (fun hHeld => ?_); clear hK K hHeld; (try simp only [Act.put, List.setIfInBounds_toArray, List.set_cons_zero, List.set_cons_succ])
        refine wpSch2_one ?_
        refine wpOne_call rfl (by rfl) (fun K hK => ?_); go_simp
        refine (CE.out _).mono ?_
        rintro e w' ⟨rfl, rfl⟩
        refine hK.out _ _ (HSK.out _ (by first | exact (Keep.refl _ _).drew | exact ((Keep.refl _ _).alloc _).drew)) (fun hHeld => ?_); clear hK K hHeld; (try simp only [Act.put, List.setIfInBounds_toArray, List.set_cons_zero, List.set_cons_succ])
        refine wpSch2_one ?_
        refine wpOne_call rfl (by rfl) (fun K hK => ?_); go_simp
        refine (CR.out _).mono ?_
        rintro e w' ⟨rfl, rfl⟩
        refine hK.out _ _ (HSK.out _ (by first | exact (Keep.refl _ _).drew | exact ((Keep.refl _ _).alloc _).drew)) (fun hHeld => ?_); clear hK K hHeld; (try simp only [Act.put, List.setIfInBounds_toArray, List.set_cons_zero, List.set_cons_succ])
        (repeat (refine wpSch2_yes (v := ?_) rfl (fun _ _ _ h => h) (by rfl) ?_ ?_; rotate_left; (next => (intro w hSw; (try dsimp only at hSw); obtain ⟨hS1, hS2, hS3, hS4, hS5⟩ := hSw; go_simp; (try with_reducible rfl))); (try simp only [Act.put, List.setIfInBounds_toArray, List.set_cons_zero, List.set_cons_succ])))
        refine wpSch2_one ?_
        refine wpOne_call rfl (by rfl) (fun K hK => ?_); go_simp
        refine hK.out _ _ (HSK.out _ (by first | exact (Keep.refl _ _).drew | exact ((Keep.refl _ _).alloc _).drew)) (fun hHeld => ?_); clear hK K hHeld; (try simp only [Act.put, List.setIfInBounds_toArray, List.set_cons_zero, List.set_cons_succ])
        refine wpSch2_nil ?_
        go_wp2
        go_meet
        exact ⟨w4.heap.size, by omega, by omega, rfl, (Whole.new w4 _ _).drew, (B4.out.alloc _).drew, (H4.out.alloc _).drew, (K4.out.alloc _).drew⟩
    case rest =>
      obtain ⟨B, hB1, hB2, rfl, h5, h5b, h5g, k5⟩ := hcut
      clear CE CR B4 H4 K4
      have H5 := Lib.hid h5; have B5 := Lib.hid h5b; have G5 := Lib.hid h5g; have K5 := Lib.hid k5
      clear h5 h5b h5g k5
      go_upto_region 7 with fail
      go_cut [68] (fun s68 wx => s68 = .bool (decide (x.s = false ∨ x.p ≤ y.d)) ∧ Keep (fun _ => False) wc wx)
      case first =>
        obtain ⟨n, hn⟩ : ∃ n : Int, (if x.s = false ∨ x.p ≤ y.d then (0 : Int) else 1) = n := ⟨_, rfl⟩
        have HE : Hid ((n == 0) = decide (x.s = false ∨ x.p ≤ y.d)) := Lib.hid (by
          subst hn
          by_cases c : x.s = false ∨ x.p ≤ y.d
          · rw [if_pos c, decide_eq_true c]; rfl
          · rw [if_neg c, decide_eq_false c]; rfl)
        have HN := Lib.hid hn
        clear hn
        have HSK : Hid (∀ W, Keep (fun _ => False) wc W → W.cell? ⟨B, 0, none⟩ = some (.bool true) ∧ W.cell? ⟨B, 1, none⟩ = some (.int .u64 y.d) ∧ W.cell? ⟨B, 2, none⟩ = some (.int .u64 y.u) ∧ W.cell? ⟨B, 3, none⟩ = some (.bool y.l) ∧ W.cell? ⟨B, 4, none⟩ = some (.int .u64 E) ∧ W.cell? ⟨B, 5, none⟩ = some (.int .u64 R) ∧
            W.cell? ⟨g, 5, none⟩ = some (.bool x.s) ∧ W.cell? ⟨g, 6, none⟩ = some (.int .u64 x.p) ∧ W.cell? ⟨g, 7, none⟩ = some (.int .u64 x.q) ∧ W.cell? ⟨g, 8, none⟩ = some (.bool x.l) ∧ W.cell? ⟨g, 9, none⟩ = some (.int .u64 x.e) ∧ W.cell? ⟨g, 10, none⟩ = some (.int .u64 x.r)) :=
          Lib.hid (fun W hW => have h := H5.out.keep hW id; have h' := G5.out.keep hW id; ⟨h.cell 0, h.cell 1, h.cell 2, h.cell 3, h.cell 4, h.cell 5, h'.cell 5, h'.cell 6, h'.cell 7, h'.cell 8, h'.cell 9, h'.cell 10⟩)
        refine wp_region_sch (fun W => W.cell? ⟨B, 0, none⟩ = some (.bool true) ∧ W.cell? ⟨B, 1, none⟩ = some (.int .u64 y.d) ∧ W.cell? ⟨B, 2, none⟩ = some (.int .u64 y.u) ∧ W.cell? ⟨B, 3, none⟩ = some (.bool y.l) ∧ W.cell? ⟨B, 4, none⟩ = some (.int .u64 E) ∧ W.cell? ⟨B, 5, none⟩ = some (.int .u64 R) ∧
            W.cell? ⟨g, 5, none⟩ = some (.bool x.s) ∧ W.cell? ⟨g, 6, none⟩ = some (.int .u64 x.p) ∧ W.cell? ⟨g, 7, none⟩ = some (.int .u64 x.q) ∧ W.cell? ⟨g, 8, none⟩ = some (.bool x.l) ∧ W.cell? ⟨g, 9, none⟩ = some (.int .u64 x.e) ∧ W.cell? ⟨g, 10, none⟩ = some (.int .u64 x.r)) [(true, 0), (true, 1), (true, 2), (true, 3), (true, 4), (false, 5), (false, 6), (true, 7)] (by kernel_rfl) (by kernel_rfl) (by kernel_rfl) (by kernel_rfl) (HSK.out _ (Keep.refl _ _).drew) ?_
        (repeat (refine wpSch_yes (v := ?_) rfl (fun _ _ _ h => h) (by rfl) ?_ ?_; rotate_left; (next => (intro w hSw; (try dsimp only at hSw); obtain ⟨hS1, hS2, hS3, hS4, hS5, hS6, hT1, hT2, hT3, hT4, hT5, hT6⟩ := hSw; go_simp; (try with_reducible rfl))); (try simp only [Act.put, List.setIfInBounds_toArray, List.set_cons_zero, List.set_cons_succ])))
        refine wpSch_call rfl (by rfl) (fun K hK => ?_)
        go_simp
        refine hK.out _ _ (HSK.out _ ((Keep.refl _ _).alloc _).drew) (fun hHeld => ?_)
        clear hK K hHeld
        (try simp only [Act.put, List.setIfInBounds_toArray, List.set_cons_zero, List.set_cons_succ])
        refine wpSch_call rfl (by rfl) (fun K hK => ?_)
        go_simp
        refine (newest_is HN.out _ _ _ _ _ _ _ _ _ _ (Whole.new wc 49 _).drew).mono ?_
        rintro e w6 ⟨rfl, k6⟩
        have K6 := Lib.hid ((((Keep.refl (fun _ => False) wc).alloc _).drew).trans k6)
        clear k6
        refine hK.out _ _ (HSK.out _ K6.out) (fun hHeld => ?_)
        clear hK K hHeld
        (try simp only [Act.put, List.setIfInBounds_toArray, List.set_cons_zero, List.set_cons_succ])
        (repeat (refine wpSch_yes (v := ?_) rfl (fun _ _ _ h => h) (by rfl) ?_ ?_; rotate_left; (next => (intro w hSw; (try dsimp only at hSw); obtain ⟨hS1, hS2, hS3, hS4, hS5, hS6, hT1, hT2, hT3, hT4, hT5, hT6⟩ := hSw; go_simp; (try with_reducible rfl))); (try simp only [Act.put, List.setIfInBounds_toArray, List.set_cons_zero, List.set_cons_succ])))
        refine wpSch_nil ?_
        go_wp2
        go_meet
        exact ⟨congrArg Value.bool HE.out, K6.out⟩
      case rest =>
        obtain ⟨rfl, k6⟩ := hcut
        have H6 := Lib.hid (H5.out.keep k6 id); have B6 := Lib.hid (B5.out.keep k6 id); have G6 := Lib.hid (G5.out.keep k6 id); have K6 := Lib.hid (K5.out.then k6 (fun _ h _ => h.elim))
        clear H5 B5 G5 K5 k6
        by_cases c : x.s = false ∨ x.p ≤ y.d
        · rw [decide_eq_true c]
          have HZ := Lib.hid (HP.out c)
          clear c HP HN
          go_upto_region 8 with fail
          obtain ⟨⟨p0, q0⟩, ⟨p1, q1⟩, ⟨p2, q2⟩, ⟨p3, q3⟩, ⟨p4, q4⟩, ⟨p5, q5⟩, pw, pk⟩ := G6.out.six (.bool true) (.int .u64 y.d) (.int .u64 y.u) (.bool y.l) (.int .u64 E) (.int .u64 R)
          have PW := Lib.hid pw; have PK := Lib.hid pk
          clear pw pk
          have HSK : Hid (∀ W, Keep (fun k => k = g) wc W → W.cell? ⟨B, 0, none⟩ = some (.bool true) ∧ W.cell? ⟨B, 1, none⟩ = some (.int .u64 y.d) ∧ W.cell? ⟨B, 2, none⟩ = some (.int .u64 y.u) ∧ W.cell? ⟨B, 3, none⟩ = some (.bool y.l) ∧ W.cell? ⟨B, 4, none⟩ = some (.int .u64 E) ∧ W.cell? ⟨B, 5, none⟩ = some (.int .u64 R) ∧ W.cell? ⟨b, 0, none⟩ = some (.int .u64 y.t)) :=
            Lib.hid (fun W hW => have h := H6.out.keep hW hB1; have h' := B6.out.keep hW (fun e => hb e.symm); ⟨h.cell 0, h.cell 1, h.cell 2, h.cell 3, h.cell 4, h.cell 5, h'.cell 0⟩)
          refine wp_region_sch (fun W => W.cell? ⟨B, 0, none⟩ = some (.bool true) ∧ W.cell? ⟨B, 1, none⟩ = some (.int .u64 y.d) ∧ W.cell? ⟨B, 2, none⟩ = some (.int .u64 y.u) ∧ W.cell? ⟨B, 3, none⟩ = some (.bool y.l) ∧ W.cell? ⟨B, 4, none⟩ = some (.int .u64 E) ∧ W.cell? ⟨B, 5, none⟩ = some (.int .u64 R) ∧ W.cell? ⟨b, 0, none⟩ = some (.int .u64 y.t)) [(true, 0), (true, 1), (true, 2), (true, 3), (true, 4), (true, 5), (true, 6), (false, 7), (true, 8), (true, 9), (false, 10)] (by kernel_rfl) (by kernel_rfl) (by kernel_rfl) (by kernel_rfl) (HSK.out _ (Keep.refl _ _).drew) ?_
          (repeat (refine wpSch_yes (v := ?_) rfl (fun _ _ _ h => h) (by rfl) ?_ ?_; rotate_left; (next => (intro w hSw; (try dsimp only at hSw); obtain ⟨hS1, hS2, hS3, hS4, hS5, hS6, hT1⟩ := hSw; go_simp; (try with_reducible rfl))); (try simp only [Act.put, List.setIfInBounds_toArray, List.set_cons_zero, List.set_cons_succ])))
          refine wpSch_call rfl (by rfl) (fun K hK => ?_)
          go_simp
          refine hK.out _ _ (HSK.out _ PK.out.drew) (fun hHeld => ?_)
          clear hK K hHeld p0 q0 p1 q1 p2 q2 p3 q3 p4 q4 p5 q5
          (try simp only [Act.put, List.setIfInBounds_toArray, List.set_cons_zero, List.set_cons_succ])
          (repeat (refine wpSch_yes (v := ?_) rfl (fun _ _ _ h => h) (by rfl) ?_ ?_; rotate_left; (next => (intro w hSw; (try dsimp only at hSw); obtain ⟨hS1, hS2, hS3, hS4, hS5, hS6, hT1⟩ := hSw; go_simp; (try with_reducible rfl))); (try simp only [Act.put, List.setIfInBounds_toArray, List.set_cons_zero, List.set_cons_succ])))
          have f2 := PW.out.free 2
          have e2 := PW.out.cell 2
          have PW2 := Lib.hid (PW.out.put 2 (.int .u64 y.t)).drew
          have PK2 := Lib.hid (PK.out.setCell (p := ⟨g, 2, none⟩) (.inl rfl) (.int .u64 y.t)).drew
          simp only [List.getElem?_toArray, List.getElem?_cons_succ, List.getElem?_cons_zero] at e2
          refine wpSch_call rfl (by rfl) (fun K hK => ?_)
          go_simp
          refine hK.out _ _ (HSK.out _ PK2.out) (fun hHeld => ?_)
          clear hK K hHeld f2 e2
          (try simp only [Act.put, List.setIfInBounds_toArray, List.set_cons_zero, List.set_cons_succ])
          refine wpSch_nil ?_
          go_wp2
          go_end0
          exact ⟨⟨_, rfl⟩, ⟨by rw [HZ.out]; exact PW2.out, HF.out⟩, K6.out.trans PK2.out⟩
        · rw [decide_eq_false c]
          have HZ := Lib.hid (HN.out c)
          clear c HP HN
          go_wp2
          go_end0
          exact ⟨⟨_, rfl⟩, ⟨by rw [HZ.out]; exact G6.out, HF.out⟩, K6.out⟩
end Go.Proofs.Ytiilbdmldonipaa
