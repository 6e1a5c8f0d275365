/-
  The document's own sampler (canterref08.Sampler): Take answers and leaves what the plain mathematics says. Conditions: the sampler lies in memory as the law makes it; the numbers are of their kind.
-/
import Derived.Test.YtiilbdmldonipaaRefAck
namespace Go.Proofs.Ytiilbdmldonipaa
open Go.RowKit
theorem Whole.nine {w : World} {g : Nat} {t : TypeId} {o0 o1 o2 o3 o4 o5 o6 o7 o8 : Value} (h : Whole w g t #[o0, o1, o2, o3, o4, o5, o6, o7, o8]) (v0 v1 v2 v3 v4 v5 v6 v7 v8 : Value) :
    (w.cell? ⟨g, 0, none⟩ = some o0 ∧ w.frozen? ⟨g, 0, none⟩ = false) ∧ ((w.setCell ⟨g, 0, none⟩ v0).cell? ⟨g, 1, none⟩ = some o1 ∧ (w.setCell ⟨g, 0, none⟩ v0).frozen? ⟨g, 1, none⟩ = false) ∧ (((w.setCell ⟨g, 0, none⟩ v0).setCell ⟨g, 1, none⟩ v1).cell? ⟨g, 2, none⟩ = some o2 ∧ ((w.setCell ⟨g, 0, none⟩ v0).setCell ⟨g, 1, none⟩ v1).frozen? ⟨g, 2, none⟩ = false) ∧ ((((w.setCell ⟨g, 0, none⟩ v0).setCell ⟨g, 1, none⟩ v1).setCell ⟨g, 2, none⟩ v2).cell? ⟨g, 3, none⟩ = some o3 ∧ (((w.setCell ⟨g, 0, none⟩ v0).setCell ⟨g, 1, none⟩ v1).setCell ⟨g, 2, none⟩ v2).frozen? ⟨g, 3, none⟩ = false) ∧ (((((w.setCell ⟨g, 0, none⟩ v0).setCell ⟨g, 1, none⟩ v1).setCell ⟨g, 2, none⟩ v2).setCell ⟨g, 3, none⟩ v3).cell? ⟨g, 4, none⟩ = some o4 ∧ ((((w.setCell ⟨g, 0, none⟩ v0).setCell ⟨g, 1, none⟩ v1).setCell ⟨g, 2, none⟩ v2).setCell ⟨g, 3, none⟩ v3).frozen? ⟨g, 4, none⟩ = false) ∧ ((((((w.setCell ⟨g, 0, none⟩ v0).setCell ⟨g, 1, none⟩ v1).setCell ⟨g, 2, none⟩ v2).setCell ⟨g, 3, none⟩ v3).setCell ⟨g, 4, none⟩ v4).cell? ⟨g, 5, none⟩ = some o5 ∧ (((((w.setCell ⟨g, 0, none⟩ v0).setCell ⟨g, 1, none⟩ v1).setCell ⟨g, 2, none⟩ v2).setCell ⟨g, 3, none⟩ v3).setCell ⟨g, 4, none⟩ v4).frozen? ⟨g, 5, none⟩ = false) ∧ (((((((w.setCell ⟨g, 0, none⟩ v0).setCell ⟨g, 1, none⟩ v1).setCell ⟨g, 2, none⟩ v2).setCell ⟨g, 3, none⟩ v3).setCell ⟨g, 4, none⟩ v4).setCell ⟨g, 5, none⟩ v5).cell? ⟨g, 6, none⟩ = some o6 ∧ ((((((w.setCell ⟨g, 0, none⟩ v0).setCell ⟨g, 1, none⟩ v1).setCell ⟨g, 2, none⟩ v2).setCell ⟨g, 3, none⟩ v3).setCell ⟨g, 4, none⟩ v4).setCell ⟨g, 5, none⟩ v5).frozen? ⟨g, 6, none⟩ = false) ∧ ((((((((w.setCell ⟨g, 0, none⟩ v0).setCell ⟨g, 1, none⟩ v1).setCell ⟨g, 2, none⟩ v2).setCell ⟨g, 3, none⟩ v3).setCell ⟨g, 4, none⟩ v4).setCell ⟨g, 5, none⟩ v5).setCell ⟨g, 6, none⟩ v6).cell? ⟨g, 7, none⟩ = some o7 ∧ (((((((w.setCell ⟨g, 0, none⟩ v0).setCell ⟨g, 1, none⟩ v1).setCell ⟨g, 2, none⟩ v2).setCell ⟨g, 3, none⟩ v3).setCell ⟨g, 4, none⟩ v4).setCell ⟨g, 5, none⟩ v5).setCell ⟨g, 6, none⟩ v6).frozen? ⟨g, 7, none⟩ = false) ∧ (((((((((w.setCell ⟨g, 0, none⟩ v0).setCell ⟨g, 1, none⟩ v1).setCell ⟨g, 2, none⟩ v2).setCell ⟨g, 3, none⟩ v3).setCell ⟨g, 4, none⟩ v4).setCell ⟨g, 5, none⟩ v5).setCell ⟨g, 6, none⟩ v6).setCell ⟨g, 7, none⟩ v7).cell? ⟨g, 8, none⟩ = some o8 ∧ ((((((((w.setCell ⟨g, 0, none⟩ v0).setCell ⟨g, 1, none⟩ v1).setCell ⟨g, 2, none⟩ v2).setCell ⟨g, 3, none⟩ v3).setCell ⟨g, 4, none⟩ v4).setCell ⟨g, 5, none⟩ v5).setCell ⟨g, 6, none⟩ v6).setCell ⟨g, 7, none⟩ v7).frozen? ⟨g, 8, none⟩ = false) ∧ Whole (((((((((w.setCell ⟨g, 0, none⟩ v0).setCell ⟨g, 1, none⟩ v1).setCell ⟨g, 2, none⟩ v2).setCell ⟨g, 3, none⟩ v3).setCell ⟨g, 4, none⟩ v4).setCell ⟨g, 5, none⟩ v5).setCell ⟨g, 6, none⟩ v6).setCell ⟨g, 7, none⟩ v7).setCell ⟨g, 8, none⟩ v8) g t #[v0, v1, v2, v3, v4, v5, v6, v7, v8] ∧ Keep (fun k => k = g) w (((((((((w.setCell ⟨g, 0, none⟩ v0).setCell ⟨g, 1, none⟩ v1).setCell ⟨g, 2, none⟩ v2).setCell ⟨g, 3, none⟩ v3).setCell ⟨g, 4, none⟩ v4).setCell ⟨g, 5, none⟩ v5).setCell ⟨g, 6, none⟩ v6).setCell ⟨g, 7, none⟩ v7).setCell ⟨g, 8, none⟩ v8) := by
  have t0 := h
  have t1 : Whole (w.setCell ⟨g, 0, none⟩ v0) g t #[v0, o1, o2, o3, o4, o5, o6, o7, o8] := t0.put 0 v0
  have t2 : Whole ((w.setCell ⟨g, 0, none⟩ v0).setCell ⟨g, 1, none⟩ v1) g t #[v0, v1, o2, o3, o4, o5, o6, o7, o8] := t1.put 1 v1
  have t3 : Whole (((w.setCell ⟨g, 0, none⟩ v0).setCell ⟨g, 1, none⟩ v1).setCell ⟨g, 2, none⟩ v2) g t #[v0, v1, v2, o3, o4, o5, o6, o7, o8] := t2.put 2 v2
  have t4 : Whole ((((w.setCell ⟨g, 0, none⟩ v0).setCell ⟨g, 1, none⟩ v1).setCell ⟨g, 2, none⟩ v2).setCell ⟨g, 3, none⟩ v3) g t #[v0, v1, v2, v3, o4, o5, o6, o7, o8] := t3.put 3 v3
  have t5 : Whole (((((w.setCell ⟨g, 0, none⟩ v0).setCell ⟨g, 1, none⟩ v1).setCell ⟨g, 2, none⟩ v2).setCell ⟨g, 3, none⟩ v3).setCell ⟨g, 4, none⟩ v4) g t #[v0, v1, v2, v3, v4, o5, o6, o7, o8] := t4.put 4 v4
  have t6 : Whole ((((((w.setCell ⟨g, 0, none⟩ v0).setCell ⟨g, 1, none⟩ v1).setCell ⟨g, 2, none⟩ v2).setCell ⟨g, 3, none⟩ v3).setCell ⟨g, 4, none⟩ v4).setCell ⟨g, 5, none⟩ v5) g t #[v0, v1, v2, v3, v4, v5, o6, o7, o8] := t5.put 5 v5
  have t7 : Whole (((((((w.setCell ⟨g, 0, none⟩ v0).setCell ⟨g, 1, none⟩ v1).setCell ⟨g, 2, none⟩ v2).setCell ⟨g, 3, none⟩ v3).setCell ⟨g, 4, none⟩ v4).setCell ⟨g, 5, none⟩ v5).setCell ⟨g, 6, none⟩ v6) g t #[v0, v1, v2, v3, v4, v5, v6, o7, o8] := t6.put 6 v6
  have t8 : Whole ((((((((w.setCell ⟨g, 0, none⟩ v0).setCell ⟨g, 1, none⟩ v1).setCell ⟨g, 2, none⟩ v2).setCell ⟨g, 3, none⟩ v3).setCell ⟨g, 4, none⟩ v4).setCell ⟨g, 5, none⟩ v5).setCell ⟨g, 6, none⟩ v6).setCell ⟨g, 7, none⟩ v7) g t #[v0, v1, v2, v3, v4, v5, v6, v7, o8] := t7.put 7 v7
  have t9 : Whole (((((((((w.setCell ⟨g, 0, none⟩ v0).setCell ⟨g, 1, none⟩ v1).setCell ⟨g, 2, none⟩ v2).setCell ⟨g, 3, none⟩ v3).setCell ⟨g, 4, none⟩ v4).setCell ⟨g, 5, none⟩ v5).setCell ⟨g, 6, none⟩ v6).setCell ⟨g, 7, none⟩ v7).setCell ⟨g, 8, none⟩ v8) g t #[v0, v1, v2, v3, v4, v5, v6, v7, v8] := t8.put 8 v8
  have k0 := Keep.refl (fun k => k = g) w
  have k1 := k0.setCell (p := ⟨g, 0, none⟩) (.inl rfl) v0
  have k2 := k1.setCell (p := ⟨g, 1, none⟩) (.inl rfl) v1
  have k3 := k2.setCell (p := ⟨g, 2, none⟩) (.inl rfl) v2
  have k4 := k3.setCell (p := ⟨g, 3, none⟩) (.inl rfl) v3
  have k5 := k4.setCell (p := ⟨g, 4, none⟩) (.inl rfl) v4
  have k6 := k5.setCell (p := ⟨g, 5, none⟩) (.inl rfl) v5
  have k7 := k6.setCell (p := ⟨g, 6, none⟩) (.inl rfl) v6
  have k8 := k7.setCell (p := ⟨g, 7, none⟩) (.inl rfl) v7
  have k9 := k8.setCell (p := ⟨g, 8, none⟩) (.inl rfl) v8
  exact ⟨⟨t0.cell 0, t0.free 0⟩, ⟨t1.cell 1, t1.free 1⟩, ⟨t2.cell 2, t2.free 2⟩, ⟨t3.cell 3, t3.free 3⟩, ⟨t4.cell 4, t4.free 4⟩, ⟨t5.cell 5, t5.free 5⟩, ⟨t6.cell 6, t6.free 6⟩, ⟨t7.cell 7, t7.free 7⟩, ⟨t8.cell 8, t8.free 8⟩, t9, k9⟩


set_option maxHeartbeats 4000000 in
set_option maxRecDepth 100000 in
theorem rstake_any (g : Nat) (now lost fl : Int) (x : Smp) (w : World) (h : RSamAt w g x) (hn : Num now) :
    Calls Try.prog 12 #[.pointer (some ⟨g, 0, none⟩), .int .u64 now, .int .u64 lost, .int .u64 fl] w fun e w' => e = .returned (takeV x now lost fl).v ∧ RSamAt w' g (takeR x) ∧ Keep (fun k => k = g) w w' := by
  obtain ⟨s, hs⟩ : ∃ s, s = x.s := ⟨_, rfl⟩
  obtain ⟨T, hT⟩ : ∃ T, T = takeV x now lost fl := ⟨_, rfl⟩
  have HF := Lib.hid h.fit.takeR
  have HT : Hid (T = if s = true then ⟨now, x.d, x.p, topI x.e (satSub now x.q), x.r, x.a, lost, fl, x.l⟩ else ⟨now, x.d, 0, 0, 0, 0, lost, fl, false⟩) := Lib.hid (by subst hT hs; rfl)
  have CI := Lib.hid (rsub_any now x.q hn.1 hn.2 h.fit.q.1 h.fit.q.2)
  have hw := h.whole
  unfold rsmpC at hw
  rw [← hs] at hw
  have c0 : w.cell? ⟨g, 0, none⟩ = some (.int .u64 x.d) := hw.cell 0
  have c4 : w.cell? ⟨g, 4, none⟩ = some (.bool s) := hw.cell 4
  have hlt := h.lt
  have H := Lib.hid hw
  have HTK : Hid (takeR x = ⟨x.d, x.u, x.f, x.m, 0, false, 0, 0, false, 0, 0⟩) := Lib.hid rfl
  rw [← hT]
  generalize takeR x = Y at *
  clear h hn hs hT hw
  have g4 : ((w.alloc (.cells #[.int .u64 0, .int .u64 0, .int .u64 0, .int .u64 0, .int .u64 0, .int .u64 0, .int .u64 0, .int .u64 0, .bool false] 38)).alloc (.cells #[.int .u64 now, .int .u64 x.d, .int .u64 0, .int .u64 0, .int .u64 0, .int .u64 0, .int .u64 lost, .int .u64 fl, .bool false] 38)).cell? ⟨g, 4, none⟩ = some (.bool s) := ((H.out.alloc (.cells #[.int .u64 0, .int .u64 0, .int .u64 0, .int .u64 0, .int .u64 0, .int .u64 0, .int .u64 0, .int .u64 0, .bool false] 38)).alloc (.cells #[.int .u64 now, .int .u64 x.d, .int .u64 0, .int .u64 0, .int .u64 0, .int .u64 0, .int .u64 lost, .int .u64 fl, .bool false] 38)).cell 4
  go_enter Try.func12, Try.ntmps12
  go_upto_if 21 with fail
  have Z1 := Lib.hid ((Whole.new w 38 #[.int .u64 0, .int .u64 0, .int .u64 0, .int .u64 0, .int .u64 0, .int .u64 0, .int .u64 0, .int .u64 0, .bool false]).alloc (.cells #[.int .u64 now, .int .u64 x.d, .int .u64 0, .int .u64 0, .int .u64 0, .int .u64 0, .int .u64 lost, .int .u64 fl, .bool false] 38))
  have X1 := Whole.new (w.alloc (.cells #[.int .u64 0, .int .u64 0, .int .u64 0, .int .u64 0, .int .u64 0, .int .u64 0, .int .u64 0, .int .u64 0, .bool false] 38)) 38 #[.int .u64 now, .int .u64 x.d, .int .u64 0, .int .u64 0, .int .u64 0, .int .u64 0, .int .u64 lost, .int .u64 fl, .bool false]
  have G1 := Lib.hid ((H.out.alloc (.cells #[.int .u64 0, .int .u64 0, .int .u64 0, .int .u64 0, .int .u64 0, .int .u64 0, .int .u64 0, .int .u64 0, .bool false] 38)).alloc (.cells #[.int .u64 now, .int .u64 x.d, .int .u64 0, .int .u64 0, .int .u64 0, .int .u64 0, .int .u64 lost, .int .u64 fl, .bool false] 38))
  have K1 := Lib.hid (((Keep.refl (fun k => k = g) w).alloc (.cells #[.int .u64 0, .int .u64 0, .int .u64 0, .int .u64 0, .int .u64 0, .int .u64 0, .int .u64 0, .int .u64 0, .bool false] 38)).alloc (.cells #[.int .u64 now, .int .u64 x.d, .int .u64 0, .int .u64 0, .int .u64 0, .int .u64 0, .int .u64 lost, .int .u64 fl, .bool false] 38))
  rw [World.size_alloc] at X1
  have HX1 := Lib.hid X1
  clear X1 c0 c4 g4 H
  generalize hw1 : World.alloc (World.alloc _ _) (Obj.cells _ 38) = w1 at *
  clear hw1
  obtain ⟨b1, hb1⟩ : ∃ b1, b1 = w.heap.size + 1 := ⟨_, rfl⟩
  rw [← hb1] at HX1 ⊢
  obtain ⟨b0, hb0⟩ : ∃ b0, b0 = w.heap.size := ⟨_, rfl⟩
  rw [← hb0] at Z1 ⊢
  have h0 : g < b0 ∧ b0 < b1 ∧ w.heap.size ≤ b0 := ⟨by omega, by omega, by omega⟩
  clear hb0 hb1 hlt
  obtain ⟨h00, h01, hb⟩ := h0
  go_cut [1] (fun s1 wx => s1 = .int .u64 now ∧ Whole wx b1 38 T.c ∧ Whole wx b0 38 #[.int .u64 0, .int .u64 0, .int .u64 0, .int .u64 0, .int .u64 0, .int .u64 0, .int .u64 0, .int .u64 0, .bool false] ∧ Whole wx g 28 #[.int .u64 x.d, .int .u64 x.u, .int .u64 x.f, .int .u64 x.m, .bool s, .int .u64 x.a, .int .u64 x.p, .int .u64 x.q, .int .u64 x.e, .int .u64 x.r, .bool x.l] ∧ Keep (fun k => k = g) w wx)
  case first =>
    cases s
    · obtain rfl : T = _ := HT.out.trans (if_neg (by decide))
      go_wp2
      go_meet
      exact ⟨rfl, HX1.out, Z1.out, G1.out, K1.out⟩
    · have HV0 := Lib.hid (HT.out.trans (if_pos rfl))
      clear HT
      go_upto_region 3 with fail
      have HSK : Hid (∀ W, Keep (fun k => k = b1) w1 W → W.cell? ⟨g, 5, none⟩ = some (.int .u64 x.a) ∧ W.cell? ⟨g, 6, none⟩ = some (.int .u64 x.p) ∧ W.cell? ⟨g, 10, none⟩ = some (.bool x.l) ∧ W.cell? ⟨g, 9, none⟩ = some (.int .u64 x.r)) :=
        Lib.hid (fun W hW => have h := G1.out.keep hW (by omega); ⟨h.cell 5, h.cell 6, h.cell 10, h.cell 9⟩)
      refine wp_region_sch (fun W => W.cell? ⟨g, 5, none⟩ = some (.int .u64 x.a) ∧ W.cell? ⟨g, 6, none⟩ = some (.int .u64 x.p) ∧ W.cell? ⟨g, 10, none⟩ = some (.bool x.l) ∧ W.cell? ⟨g, 9, none⟩ = some (.int .u64 x.r)) [(true, 0), (true, 1), (true, 2), (true, 3), (true, 4), (true, 5), (true, 6), (true, 7), (true, 8), (true, 9), (true, 10), (true, 11), (true, 12), (true, 13), (true, 14), (true, 15), (true, 16), (false, 17), (true, 18), (false, 19), (true, 20), (false, 21), (true, 22), (false, 23)] (by kernel_rfl) (by kernel_rfl) (by kernel_rfl) (by kernel_rfl) (HSK.out _ (Keep.refl _ _).drew) ?_
      (repeat (refine wpSch_yes (v := ?_) rfl (fun _ _ _ h => h) (by rfl) ?_ ?_; rotate_left; (next => (intro w hSw; (try dsimp only at hSw); obtain ⟨hS1, hS2, hS3, hS4⟩ := hSw; go_simp; (try with_reducible rfl))); (try simp only [Act.put, List.setIfInBounds_toArray, List.set_cons_zero, List.set_cons_succ])))
      have e5 : w1.cell? ⟨b1, 5, none⟩ = some (.int .u64 0) := HX1.out.cell 5
      have f5 := HX1.out.free 5
      have t1 := HX1.out.put 5 (.int .u64 x.a)
      have k1 := (Keep.refl (fun k => k = b1) w1).setCell (p := ⟨b1, 5, none⟩) (.inl rfl) (.int .u64 x.a)
      have e2 : (w1.setCell ⟨b1, 5, none⟩ (.int .u64 x.a)).cell? ⟨b1, 2, none⟩ = some (.int .u64 0) := t1.cell 2
      have f2 := t1.free 2
      have t2 := t1.put 2 (.int .u64 x.p)
      have k2 := k1.setCell (p := ⟨b1, 2, none⟩) (.inl rfl) (.int .u64 x.p)
      have e8 : ((w1.setCell ⟨b1, 5, none⟩ (.int .u64 x.a)).setCell ⟨b1, 2, none⟩ (.int .u64 x.p)).cell? ⟨b1, 8, none⟩ = some (.bool false) := t2.cell 8
      have f8 := t2.free 8
      have t3 := t2.put 8 (.bool x.l)
      have k3 := k2.setCell (p := ⟨b1, 8, none⟩) (.inl rfl) (.bool x.l)
      have e4 : (((w1.setCell ⟨b1, 5, none⟩ (.int .u64 x.a)).setCell ⟨b1, 2, none⟩ (.int .u64 x.p)).setCell ⟨b1, 8, none⟩ (.bool x.l)).cell? ⟨b1, 4, none⟩ = some (.int .u64 0) := t3.cell 4
      have f4 := t3.free 4
      have X2 : Hid (Whole ((((w1.setCell ⟨b1, 5, none⟩ (.int .u64 x.a)).setCell ⟨b1, 2, none⟩ (.int .u64 x.p)).setCell ⟨b1, 8, none⟩ (.bool x.l)).setCell ⟨b1, 4, none⟩ (.int .u64 x.r)).drew b1 38 #[.int .u64 now, .int .u64 x.d, .int .u64 x.p, .int .u64 0, .int .u64 x.r, .int .u64 x.a, .int .u64 lost, .int .u64 fl, .bool x.l]) := Lib.hid (t3.put 4 _).drew
      have KK1 := Lib.hid k1.drew; have KK2 := Lib.hid k2.drew; have KK3 := Lib.hid k3.drew
      have KK4 := Lib.hid (k3.setCell (p := ⟨b1, 4, none⟩) (.inl rfl) (.int .u64 x.r)).drew
      clear t1 t2 t3 k1 k2 k3
      refine wpSch_call rfl (by rfl) (fun K hK => ?_); go_simp
      refine hK.out _ _ (HSK.out _ KK1.out) (fun hHeld => ?_)
      clear hK K hHeld; (try simp only [Act.put, List.setIfInBounds_toArray, List.set_cons_zero, List.set_cons_succ])
      (repeat (refine wpSch_yes (v := ?_) rfl (fun _ _ _ h => h) (by rfl) ?_ ?_; rotate_left; (next => (intro w hSw; (try dsimp only at hSw); obtain ⟨hS1, hS2, hS3, hS4⟩ := hSw; go_simp; (try with_reducible rfl))); (try simp only [Act.put, List.setIfInBounds_toArray, List.set_cons_zero, List.set_cons_succ])))
      refine wpSch_call rfl (by rfl) (fun K hK => ?_); go_simp
      refine hK.out _ _ (HSK.out _ KK2.out) (fun hHeld => ?_)
      clear hK K hHeld; (try simp only [Act.put, List.setIfInBounds_toArray, List.set_cons_zero, List.set_cons_succ])
      (repeat (refine wpSch_yes (v := ?_) rfl (fun _ _ _ h => h) (by rfl) ?_ ?_; rotate_left; (next => (intro w hSw; (try dsimp only at hSw); obtain ⟨hS1, hS2, hS3, hS4⟩ := hSw; go_simp; (try with_reducible rfl))); (try simp only [Act.put, List.setIfInBounds_toArray, List.set_cons_zero, List.set_cons_succ])))
      refine wpSch_call rfl (by rfl) (fun K hK => ?_); go_simp
      refine hK.out _ _ (HSK.out _ KK3.out) (fun hHeld => ?_)
      clear hK K hHeld; (try simp only [Act.put, List.setIfInBounds_toArray, List.set_cons_zero, List.set_cons_succ])
      (repeat (refine wpSch_yes (v := ?_) rfl (fun _ _ _ h => h) (by rfl) ?_ ?_; rotate_left; (next => (intro w hSw; (try dsimp only at hSw); obtain ⟨hS1, hS2, hS3, hS4⟩ := hSw; go_simp; (try with_reducible rfl))); (try simp only [Act.put, List.setIfInBounds_toArray, List.set_cons_zero, List.set_cons_succ])))
      refine wpSch_call rfl (by rfl) (fun K hK => ?_); go_simp
      refine hK.out _ _ (HSK.out _ KK4.out) (fun hHeld => ?_)
      clear e5 f5 e2 f2 e8 f8 e4 f4
      clear hK K hHeld; (try simp only [Act.put, List.setIfInBounds_toArray, List.set_cons_zero, List.set_cons_succ])
      have Z2 := Lib.hid (Z1.out.keep KK4.out (by omega))
      have G2 := Lib.hid (G1.out.keep KK4.out (by omega))
      have K2 := Lib.hid (K1.out.then KK4.out (fun i e hl => by omega))
      clear HSK KK1 KK2 KK3 KK4 HX1 Z1 G1 K1
      generalize hw2 : World.drew _ = w2 at *
      clear hw2
      refine wpSch_nil ?_
      go_upto_region 4 with fail
      generalize satSub now x.q = J at *
      obtain ⟨I, hI⟩ : ∃ I, I = topI x.e J := ⟨_, rfl⟩
      rw [← hI] at HV0
      rcases Int.lt_trichotomy x.e J with hc | hc | hc
      · obtain rfl : I = J := hI.trans (if_pos (by omega))
        clear hI
        have HV := HV0
        refine wp_region_sch (fun W => W.cell? ⟨g, 8, none⟩ = some (.int .u64 x.e) ∧ W.cell? ⟨g, 7, none⟩ = some (.int .u64 x.q)) [(true, 0), (true, 1), (true, 2), (true, 3), (true, 4), (true, 5), (true, 6), (true, 7), (true, 8), (false, 9), (true, 10), (true, 11), (false, 12)] (by kernel_rfl) (by kernel_rfl) (by kernel_rfl) (by kernel_rfl) ⟨G2.out.drew.cell 8, G2.out.drew.cell 7⟩ ?_
        (repeat (refine wpSch_yes (v := ?_) rfl (fun _ _ _ h => h) (by rfl) ?_ ?_; rotate_left; (next => (intro w hSw; (try dsimp only at hSw); obtain ⟨hS1, hS2⟩ := hSw; go_simp; (try with_reducible rfl))); (try simp only [Act.put, List.setIfInBounds_toArray, List.set_cons_zero, List.set_cons_succ])))
        refine wpSch_call rfl (by rfl) (fun K hK => ?_); go_simp
        refine (CI.out _).mono ?_
        rintro e w' ⟨rfl, rfl⟩
        refine hK.out _ _ ⟨G2.out.drew.cell 8, G2.out.drew.cell 7⟩ (fun hHeld => ?_)
        clear hK K hHeld; (try simp only [Act.put, List.setIfInBounds_toArray, List.set_cons_zero, List.set_cons_succ])
        (repeat (refine wpSch_yes (v := ?_) rfl (fun _ _ _ h => h) (by rfl) ?_ ?_; rotate_left; (next => (intro w hSw; (try dsimp only at hSw); obtain ⟨hS1, hS2⟩ := hSw; go_simp; (try with_reducible rfl))); (try simp only [Act.put, List.setIfInBounds_toArray, List.set_cons_zero, List.set_cons_succ])))
        have X3 := Lib.hid (X2.out.put 3 (.int .u64 I)).drew
        have Z3 := Lib.hid (Z2.out.far (p := ⟨b1, 3, none⟩) (by simp; omega) (.int .u64 I)).drew
        have G3 := Lib.hid (G2.out.far (p := ⟨b1, 3, none⟩) (by simp; omega) (.int .u64 I)).drew
        have K3 := Lib.hid (K2.out.setCell (p := ⟨b1, 3, none⟩) (.inr (by simp; omega)) (.int .u64 I)).drew
        have e3 : w2.cell? ⟨b1, 3, none⟩ = some (.int .u64 0) := X2.out.cell 3
        have f3 := X2.out.free 3
        refine wpSch_call rfl (by rfl) (fun K hK => ?_); go_simp
        refine hK.out _ _ ⟨G3.out.cell 8, G3.out.cell 7⟩ (fun hHeld => ?_)
        clear hK K hHeld; (try simp only [Act.put, List.setIfInBounds_toArray, List.set_cons_zero, List.set_cons_succ])
        refine wpSch_nil ?_
        go_wp2
        go_meet
        exact ⟨rfl, by rw [HV.out]; exact X3.out, Z3.out, G3.out, K3.out⟩
      · obtain rfl : I = J := hI.trans (if_pos (by omega))
        clear hI
        have HV := HV0
        rw [← hc] at HV
        have HC := Lib.hid hc
        clear hc HV0
        have h1 : ¬ x.e < I := by rw [HC.out]; omega
        have h2 : ¬ I < x.e := by rw [HC.out]; omega
        refine wp_region_sch (fun W => W.cell? ⟨g, 8, none⟩ = some (.int .u64 x.e) ∧ W.cell? ⟨g, 7, none⟩ = some (.int .u64 x.q)) [(true, 0), (true, 1), (true, 2), (true, 3), (true, 4), (true, 5), (true, 6), (true, 7), (true, 8), (false, 9), (true, 10), (true, 11), (false, 12)] (by kernel_rfl) (by kernel_rfl) (by kernel_rfl) (by kernel_rfl) ⟨G2.out.drew.cell 8, G2.out.drew.cell 7⟩ ?_
        (repeat (refine wpSch_yes (v := ?_) rfl (fun _ _ _ h => h) (by rfl) ?_ ?_; rotate_left; (next => (intro w hSw; (try dsimp only at hSw); obtain ⟨hS1, hS2⟩ := hSw; go_simp; (try with_reducible rfl))); (try simp only [Act.put, List.setIfInBounds_toArray, List.set_cons_zero, List.set_cons_succ])))
        refine wpSch_call rfl (by rfl) (fun K hK => ?_); go_simp
        refine (CI.out _).mono ?_
        rintro e w' ⟨rfl, rfl⟩
        refine hK.out _ _ ⟨G2.out.drew.cell 8, G2.out.drew.cell 7⟩ (fun hHeld => ?_)
        clear hK K hHeld; (try simp only [Act.put, List.setIfInBounds_toArray, List.set_cons_zero, List.set_cons_succ])
        (repeat (refine wpSch_yes (v := ?_) rfl (fun _ _ _ h => h) (by rfl) ?_ ?_; rotate_left; (next => (intro w hSw; (try dsimp only at hSw); obtain ⟨hS1, hS2⟩ := hSw; go_simp; (try with_reducible rfl))); (try simp only [Act.put, List.setIfInBounds_toArray, List.set_cons_zero, List.set_cons_succ])))
        have X3 := Lib.hid (X2.out.put 3 (.int .u64 x.e)).drew
        have Z3 := Lib.hid (Z2.out.far (p := ⟨b1, 3, none⟩) (by simp; omega) (.int .u64 x.e)).drew
        have G3 := Lib.hid (G2.out.far (p := ⟨b1, 3, none⟩) (by simp; omega) (.int .u64 x.e)).drew
        have K3 := Lib.hid (K2.out.setCell (p := ⟨b1, 3, none⟩) (.inr (by simp; omega)) (.int .u64 x.e)).drew
        have e3 : w2.cell? ⟨b1, 3, none⟩ = some (.int .u64 0) := X2.out.cell 3
        have f3 := X2.out.free 3
        refine wpSch_call rfl (by rfl) (fun K hK => ?_); go_simp
        refine hK.out _ _ ⟨G3.out.cell 8, G3.out.cell 7⟩ (fun hHeld => ?_)
        clear hK K hHeld; (try simp only [Act.put, List.setIfInBounds_toArray, List.set_cons_zero, List.set_cons_succ])
        refine wpSch_nil ?_
        go_wp2
        go_meet
        exact ⟨rfl, by rw [HV.out]; exact X3.out, Z3.out, G3.out, K3.out⟩
      · obtain rfl : I = x.e := hI.trans (if_neg (by omega))
        clear hI
        have h1 : ¬ x.e < J := by omega
        have HV := HV0
        refine wp_region_sch (fun W => W.cell? ⟨g, 8, none⟩ = some (.int .u64 x.e) ∧ W.cell? ⟨g, 7, none⟩ = some (.int .u64 x.q)) [(true, 0), (true, 1), (true, 2), (true, 3), (true, 4), (true, 5), (true, 6), (true, 7), (true, 8), (false, 9), (true, 10), (true, 11), (false, 12)] (by kernel_rfl) (by kernel_rfl) (by kernel_rfl) (by kernel_rfl) ⟨G2.out.drew.cell 8, G2.out.drew.cell 7⟩ ?_
        (repeat (refine wpSch_yes (v := ?_) rfl (fun _ _ _ h => h) (by rfl) ?_ ?_; rotate_left; (next => (intro w hSw; (try dsimp only at hSw); obtain ⟨hS1, hS2⟩ := hSw; go_simp; (try with_reducible rfl))); (try simp only [Act.put, List.setIfInBounds_toArray, List.set_cons_zero, List.set_cons_succ])))
        refine wpSch_call rfl (by rfl) (fun K hK => ?_); go_simp
        refine (CI.out _).mono ?_
        rintro e w' ⟨rfl, rfl⟩
        refine hK.out _ _ ⟨G2.out.drew.cell 8, G2.out.drew.cell 7⟩ (fun hHeld => ?_)
        clear hK K hHeld; (try simp only [Act.put, List.setIfInBounds_toArray, List.set_cons_zero, List.set_cons_succ])
        (repeat (refine wpSch_yes (v := ?_) rfl (fun _ _ _ h => h) (by rfl) ?_ ?_; rotate_left; (next => (intro w hSw; (try dsimp only at hSw); obtain ⟨hS1, hS2⟩ := hSw; go_simp; (try with_reducible rfl))); (try simp only [Act.put, List.setIfInBounds_toArray, List.set_cons_zero, List.set_cons_succ])))
        have X3 := Lib.hid (X2.out.put 3 (.int .u64 x.e)).drew
        have Z3 := Lib.hid (Z2.out.far (p := ⟨b1, 3, none⟩) (by simp; omega) (.int .u64 x.e)).drew
        have G3 := Lib.hid (G2.out.far (p := ⟨b1, 3, none⟩) (by simp; omega) (.int .u64 x.e)).drew
        have K3 := Lib.hid (K2.out.setCell (p := ⟨b1, 3, none⟩) (.inr (by simp; omega)) (.int .u64 x.e)).drew
        have e3 : w2.cell? ⟨b1, 3, none⟩ = some (.int .u64 0) := X2.out.cell 3
        have f3 := X2.out.free 3
        refine wpSch_call rfl (by rfl) (fun K hK => ?_); go_simp
        refine hK.out _ _ ⟨G3.out.cell 8, G3.out.cell 7⟩ (fun hHeld => ?_)
        clear hK K hHeld; (try simp only [Act.put, List.setIfInBounds_toArray, List.set_cons_zero, List.set_cons_succ])
        refine wpSch_nil ?_
        go_wp2
        go_meet
        exact ⟨rfl, by rw [HV.out]; exact X3.out, Z3.out, G3.out, K3.out⟩
  case rest =>
    obtain ⟨rfl, hx, hz, hg, hk⟩ := hcut
    clear HX1 Z1 G1 K1 CI HT
    have t0 := hg
    have k0 := Keep.refl (fun k => k = g) wc
    have e4 : wc.cell? ⟨g, 4, none⟩ = some (.bool s) := t0.cell 4
    have f4 := t0.free 4
    have t1 : Whole (wc.setCell ⟨g, 4, none⟩ (.bool false)) g 28 #[.int .u64 x.d, .int .u64 x.u, .int .u64 x.f, .int .u64 x.m, .bool false, .int .u64 x.a, .int .u64 x.p, .int .u64 x.q, .int .u64 x.e, .int .u64 x.r, .bool x.l] := t0.put 4 _
    have k1 := k0.setCell (p := ⟨g, 4, none⟩) (.inl rfl) (.bool false)
    have e5 : (wc.setCell ⟨g, 4, none⟩ (.bool false)).cell? ⟨g, 5, none⟩ = some (.int .u64 x.a) := t1.cell 5
    have f5 := t1.free 5
    have t2 : Whole ((wc.setCell ⟨g, 4, none⟩ (.bool false)).setCell ⟨g, 5, none⟩ (.int .u64 0)) g 28 #[.int .u64 x.d, .int .u64 x.u, .int .u64 x.f, .int .u64 x.m, .bool false, .int .u64 0, .int .u64 x.p, .int .u64 x.q, .int .u64 x.e, .int .u64 x.r, .bool x.l] := t1.put 5 _
    have k2 := k1.setCell (p := ⟨g, 5, none⟩) (.inl rfl) (.int .u64 0)
    have e6 : ((wc.setCell ⟨g, 4, none⟩ (.bool false)).setCell ⟨g, 5, none⟩ (.int .u64 0)).cell? ⟨g, 6, none⟩ = some (.int .u64 x.p) := t2.cell 6
    have f6 := t2.free 6
    have t3 : Whole (((wc.setCell ⟨g, 4, none⟩ (.bool false)).setCell ⟨g, 5, none⟩ (.int .u64 0)).setCell ⟨g, 6, none⟩ (.int .u64 0)) g 28 #[.int .u64 x.d, .int .u64 x.u, .int .u64 x.f, .int .u64 x.m, .bool false, .int .u64 0, .int .u64 0, .int .u64 x.q, .int .u64 x.e, .int .u64 x.r, .bool x.l] := t2.put 6 _
    have k3 := k2.setCell (p := ⟨g, 6, none⟩) (.inl rfl) (.int .u64 0)
    have e7 : (((wc.setCell ⟨g, 4, none⟩ (.bool false)).setCell ⟨g, 5, none⟩ (.int .u64 0)).setCell ⟨g, 6, none⟩ (.int .u64 0)).cell? ⟨g, 7, none⟩ = some (.int .u64 x.q) := t3.cell 7
    have f7 := t3.free 7
    have t4 : Whole ((((wc.setCell ⟨g, 4, none⟩ (.bool false)).setCell ⟨g, 5, none⟩ (.int .u64 0)).setCell ⟨g, 6, none⟩ (.int .u64 0)).setCell ⟨g, 7, none⟩ (.int .u64 0)) g 28 #[.int .u64 x.d, .int .u64 x.u, .int .u64 x.f, .int .u64 x.m, .bool false, .int .u64 0, .int .u64 0, .int .u64 0, .int .u64 x.e, .int .u64 x.r, .bool x.l] := t3.put 7 _
    have k4 := k3.setCell (p := ⟨g, 7, none⟩) (.inl rfl) (.int .u64 0)
    have e8 : ((((wc.setCell ⟨g, 4, none⟩ (.bool false)).setCell ⟨g, 5, none⟩ (.int .u64 0)).setCell ⟨g, 6, none⟩ (.int .u64 0)).setCell ⟨g, 7, none⟩ (.int .u64 0)).cell? ⟨g, 8, none⟩ = some (.int .u64 x.e) := t4.cell 8
    have f8 := t4.free 8
    have t5 : Whole (((((wc.setCell ⟨g, 4, none⟩ (.bool false)).setCell ⟨g, 5, none⟩ (.int .u64 0)).setCell ⟨g, 6, none⟩ (.int .u64 0)).setCell ⟨g, 7, none⟩ (.int .u64 0)).setCell ⟨g, 8, none⟩ (.int .u64 0)) g 28 #[.int .u64 x.d, .int .u64 x.u, .int .u64 x.f, .int .u64 x.m, .bool false, .int .u64 0, .int .u64 0, .int .u64 0, .int .u64 0, .int .u64 x.r, .bool x.l] := t4.put 8 _
    have k5 := k4.setCell (p := ⟨g, 8, none⟩) (.inl rfl) (.int .u64 0)
    have e9 : (((((wc.setCell ⟨g, 4, none⟩ (.bool false)).setCell ⟨g, 5, none⟩ (.int .u64 0)).setCell ⟨g, 6, none⟩ (.int .u64 0)).setCell ⟨g, 7, none⟩ (.int .u64 0)).setCell ⟨g, 8, none⟩ (.int .u64 0)).cell? ⟨g, 9, none⟩ = some (.int .u64 x.r) := t5.cell 9
    have f9 := t5.free 9
    have t6 : Whole ((((((wc.setCell ⟨g, 4, none⟩ (.bool false)).setCell ⟨g, 5, none⟩ (.int .u64 0)).setCell ⟨g, 6, none⟩ (.int .u64 0)).setCell ⟨g, 7, none⟩ (.int .u64 0)).setCell ⟨g, 8, none⟩ (.int .u64 0)).setCell ⟨g, 9, none⟩ (.int .u64 0)) g 28 #[.int .u64 x.d, .int .u64 x.u, .int .u64 x.f, .int .u64 x.m, .bool false, .int .u64 0, .int .u64 0, .int .u64 0, .int .u64 0, .int .u64 0, .bool x.l] := t5.put 9 _
    have k6 := k5.setCell (p := ⟨g, 9, none⟩) (.inl rfl) (.int .u64 0)
    have e10 : ((((((wc.setCell ⟨g, 4, none⟩ (.bool false)).setCell ⟨g, 5, none⟩ (.int .u64 0)).setCell ⟨g, 6, none⟩ (.int .u64 0)).setCell ⟨g, 7, none⟩ (.int .u64 0)).setCell ⟨g, 8, none⟩ (.int .u64 0)).setCell ⟨g, 9, none⟩ (.int .u64 0)).cell? ⟨g, 10, none⟩ = some (.bool x.l) := t6.cell 10
    have f10 := t6.free 10
    have t7 : Whole (((((((wc.setCell ⟨g, 4, none⟩ (.bool false)).setCell ⟨g, 5, none⟩ (.int .u64 0)).setCell ⟨g, 6, none⟩ (.int .u64 0)).setCell ⟨g, 7, none⟩ (.int .u64 0)).setCell ⟨g, 8, none⟩ (.int .u64 0)).setCell ⟨g, 9, none⟩ (.int .u64 0)).setCell ⟨g, 10, none⟩ (.bool false)) g 28 #[.int .u64 x.d, .int .u64 x.u, .int .u64 x.f, .int .u64 x.m, .bool false, .int .u64 0, .int .u64 0, .int .u64 0, .int .u64 0, .int .u64 0, .bool false] := t6.put 10 _
    have k7 := k6.setCell (p := ⟨g, 10, none⟩) (.inl rfl) (.bool false)
    have G2 : Hid (Whole (((((((wc.setCell ⟨g, 4, none⟩ (.bool false)).setCell ⟨g, 5, none⟩ (.int .u64 0)).setCell ⟨g, 6, none⟩ (.int .u64 0)).setCell ⟨g, 7, none⟩ (.int .u64 0)).setCell ⟨g, 8, none⟩ (.int .u64 0)).setCell ⟨g, 9, none⟩ (.int .u64 0)).setCell ⟨g, 10, none⟩ (.bool false)) g 28 (rsmpC Y)) := Lib.hid (by rw [HTK.out]; exact t7)
    have X2 := Lib.hid (hx.keep k7 (by omega))
    have Z2 := Lib.hid (hz.keep k7 (by omega))
    have K2 := Lib.hid (hk.trans k7)
    clear hx hz hg hk t0 t1 t2 t3 t4 t5 t6 t7 k0 k1 k2 k3 k4 k5 k6 k7
    go_upto_region 6 with fail
    clear e4 f4 e5 f5 e6 f6 e7 f7 e8 f8 e9 f9 e10 f10
    generalize hw2 : World.setCell _ _ _ = w2 at *
    clear hw2
    have d0 : w2.cell? ⟨b1, 0, none⟩ = some (.int .u64 T.n) := X2.out.cell 0
    have d1 : w2.cell? ⟨b1, 1, none⟩ = some (.int .u64 T.d) := X2.out.cell 1
    have d2 : w2.cell? ⟨b1, 2, none⟩ = some (.int .u64 T.p) := X2.out.cell 2
    have d3 : w2.cell? ⟨b1, 3, none⟩ = some (.int .u64 T.i) := X2.out.cell 3
    have d4 : w2.cell? ⟨b1, 4, none⟩ = some (.int .u64 T.r) := X2.out.cell 4
    have d5 : w2.cell? ⟨b1, 5, none⟩ = some (.int .u64 T.a) := X2.out.cell 5
    have d6 : w2.cell? ⟨b1, 6, none⟩ = some (.int .u64 T.o) := X2.out.cell 6
    have d7 : w2.cell? ⟨b1, 7, none⟩ = some (.int .u64 T.f) := X2.out.cell 7
    have d8 : w2.cell? ⟨b1, 8, none⟩ = some (.bool T.l) := X2.out.cell 8
    obtain ⟨⟨p0, q0⟩, ⟨p1, q1⟩, ⟨p2, q2⟩, ⟨p3, q3⟩, ⟨p4, q4⟩, ⟨p5, q5⟩, ⟨p6, q6⟩, ⟨p7, q7⟩, ⟨p8, q8⟩, pw, pk⟩ := Z2.out.nine (.int .u64 T.n) (.int .u64 T.d) (.int .u64 T.p) (.int .u64 T.i) (.int .u64 T.r) (.int .u64 T.a) (.int .u64 T.o) (.int .u64 T.f) (.bool T.l)
    have PW := Lib.hid pw; have PK := Lib.hid (K2.out.then pk (fun i e hl => by omega)); have PG := Lib.hid (G2.out.keep pk (by omega))
    clear pw pk Z2 X2 G2 K2
    go_wp2
    clear d0 d1 d2 d3 d4 d5 d6 d7 d8 p0 q0 p1 q1 p2 q2 p3 q3 p4 q4 p5 q5 p6 q6 p7 q7 p8 q8
    generalize hw3 : World.setCell _ _ _ = w3 at *
    clear hw3
    have z0 : w3.cell? ⟨b0, 0, none⟩ = some (.int .u64 T.n) := PW.out.cell 0
    have z1 : w3.cell? ⟨b0, 1, none⟩ = some (.int .u64 T.d) := PW.out.cell 1
    have z2 : w3.cell? ⟨b0, 2, none⟩ = some (.int .u64 T.p) := PW.out.cell 2
    have z3 : w3.cell? ⟨b0, 3, none⟩ = some (.int .u64 T.i) := PW.out.cell 3
    have z4 : w3.cell? ⟨b0, 4, none⟩ = some (.int .u64 T.r) := PW.out.cell 4
    have z5 : w3.cell? ⟨b0, 5, none⟩ = some (.int .u64 T.a) := PW.out.cell 5
    have z6 : w3.cell? ⟨b0, 6, none⟩ = some (.int .u64 T.o) := PW.out.cell 6
    have z7 : w3.cell? ⟨b0, 7, none⟩ = some (.int .u64 T.f) := PW.out.cell 7
    have z8 : w3.cell? ⟨b0, 8, none⟩ = some (.bool T.l) := PW.out.cell 8
    refine bodyPost_ret (v := T.v) (by rw [results_cell1 rfl]; go_simp) rfl ?_
    exact ⟨rfl, ⟨PG.out, HF.out⟩, PK.out⟩
end Go.Proofs.Ytiilbdmldonipaa
