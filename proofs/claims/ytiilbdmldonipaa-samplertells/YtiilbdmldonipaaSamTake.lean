/-
  Package sampler's Take answers what the document says, and leaves what it says. Conditions: the sampler lies in memory as New makes it, or is nil; the numbers are of their kind.
-/
import Derived.Test.YtiilbdmldonipaaSamAck
namespace Go.Proofs.Ytiilbdmldonipaa
open Go.RowKit
theorem Whole.fill9 {w : World} {g : Nat} {t : TypeId} {o0 o1 o2 o3 o4 o5 o6 o7 o8 : Value} (h : Whole w g t #[o0, o1, o2, o3, o4, o5, o6, o7, o8]) (v0 v1 v2 v3 v4 v5 v6 v7 v8 : Value) :
    (w.cell? ⟨g, 0, none⟩ = some o0 ∧ w.frozen? ⟨g, 0, none⟩ = false) ∧ ((w.setCell ⟨g, 0, none⟩ v0).cell? ⟨g, 1, none⟩ = some o1 ∧ (w.setCell ⟨g, 0, none⟩ v0).frozen? ⟨g, 1, none⟩ = false) ∧ (((w.setCell ⟨g, 0, none⟩ v0).setCell ⟨g, 1, none⟩ v1).cell? ⟨g, 2, none⟩ = some o2 ∧ ((w.setCell ⟨g, 0, none⟩ v0).setCell ⟨g, 1, none⟩ v1).frozen? ⟨g, 2, none⟩ = false) ∧ ((((w.setCell ⟨g, 0, none⟩ v0).setCell ⟨g, 1, none⟩ v1).setCell ⟨g, 2, none⟩ v2).cell? ⟨g, 3, none⟩ = some o3 ∧ (((w.setCell ⟨g, 0, none⟩ v0).setCell ⟨g, 1, none⟩ v1).setCell ⟨g, 2, none⟩ v2).frozen? ⟨g, 3, none⟩ = false) ∧ (((((w.setCell ⟨g, 0, none⟩ v0).setCell ⟨g, 1, none⟩ v1).setCell ⟨g, 2, none⟩ v2).setCell ⟨g, 3, none⟩ v3).cell? ⟨g, 4, none⟩ = some o4 ∧ ((((w.setCell ⟨g, 0, none⟩ v0).setCell ⟨g, 1, none⟩ v1).setCell ⟨g, 2, none⟩ v2).setCell ⟨g, 3, none⟩ v3).frozen? ⟨g, 4, none⟩ = false) ∧ ((((((w.setCell ⟨g, 0, none⟩ v0).setCell ⟨g, 1, none⟩ v1).setCell ⟨g, 2, none⟩ v2).setCell ⟨g, 3, none⟩ v3).setCell ⟨g, 4, none⟩ v4).cell? ⟨g, 5, none⟩ = some o5 ∧ (((((w.setCell ⟨g, 0, none⟩ v0).setCell ⟨g, 1, none⟩ v1).setCell ⟨g, 2, none⟩ v2).setCell ⟨g, 3, none⟩ v3).setCell ⟨g, 4, none⟩ v4).frozen? ⟨g, 5, none⟩ = false) ∧ (((((((w.setCell ⟨g, 0, none⟩ v0).setCell ⟨g, 1, none⟩ v1).setCell ⟨g, 2, none⟩ v2).setCell ⟨g, 3, none⟩ v3).setCell ⟨g, 4, none⟩ v4).setCell ⟨g, 5, none⟩ v5).cell? ⟨g, 6, none⟩ = some o6 ∧ ((((((w.setCell ⟨g, 0, none⟩ v0).setCell ⟨g, 1, none⟩ v1).setCell ⟨g, 2, none⟩ v2).setCell ⟨g, 3, none⟩ v3).setCell ⟨g, 4, none⟩ v4).setCell ⟨g, 5, none⟩ v5).frozen? ⟨g, 6, none⟩ = false) ∧ ((((((((w.setCell ⟨g, 0, none⟩ v0).setCell ⟨g, 1, none⟩ v1).setCell ⟨g, 2, none⟩ v2).setCell ⟨g, 3, none⟩ v3).setCell ⟨g, 4, none⟩ v4).setCell ⟨g, 5, none⟩ v5).setCell ⟨g, 6, none⟩ v6).cell? ⟨g, 7, none⟩ = some o7 ∧ (((((((w.setCell ⟨g, 0, none⟩ v0).setCell ⟨g, 1, none⟩ v1).setCell ⟨g, 2, none⟩ v2).setCell ⟨g, 3, none⟩ v3).setCell ⟨g, 4, none⟩ v4).setCell ⟨g, 5, none⟩ v5).setCell ⟨g, 6, none⟩ v6).frozen? ⟨g, 7, none⟩ = false) ∧ (((((((((w.setCell ⟨g, 0, none⟩ v0).setCell ⟨g, 1, none⟩ v1).setCell ⟨g, 2, none⟩ v2).setCell ⟨g, 3, none⟩ v3).setCell ⟨g, 4, none⟩ v4).setCell ⟨g, 5, none⟩ v5).setCell ⟨g, 6, none⟩ v6).setCell ⟨g, 7, none⟩ v7).cell? ⟨g, 8, none⟩ = some o8 ∧ ((((((((w.setCell ⟨g, 0, none⟩ v0).setCell ⟨g, 1, none⟩ v1).setCell ⟨g, 2, none⟩ v2).setCell ⟨g, 3, none⟩ v3).setCell ⟨g, 4, none⟩ v4).setCell ⟨g, 5, none⟩ v5).setCell ⟨g, 6, none⟩ v6).setCell ⟨g, 7, none⟩ v7).frozen? ⟨g, 8, none⟩ = false) ∧ Whole (((((((((w.setCell ⟨g, 0, none⟩ v0).setCell ⟨g, 1, none⟩ v1).setCell ⟨g, 2, none⟩ v2).setCell ⟨g, 3, none⟩ v3).setCell ⟨g, 4, none⟩ v4).setCell ⟨g, 5, none⟩ v5).setCell ⟨g, 6, none⟩ v6).setCell ⟨g, 7, none⟩ v7).setCell ⟨g, 8, none⟩ v8) g t #[v0, v1, v2, v3, v4, v5, v6, v7, v8] ∧ Keep (fun k => k = g) w (((((((((w.setCell ⟨g, 0, none⟩ v0).setCell ⟨g, 1, none⟩ v1).setCell ⟨g, 2, none⟩ v2).setCell ⟨g, 3, none⟩ v3).setCell ⟨g, 4, none⟩ v4).setCell ⟨g, 5, none⟩ v5).setCell ⟨g, 6, none⟩ v6).setCell ⟨g, 7, none⟩ v7).setCell ⟨g, 8, none⟩ v8) := by
  have t0 := h
  have t1 : Whole (w.setCell ⟨g, 0, none⟩ v0) g t #[v0, o1, o2, o3, o4, o5, o6, o7, o8] := t0.put 0 v0
  have t2 : Whole ((w.setCell ⟨g, 0, none⟩ v0).setCell ⟨g, 1, none⟩ v1) g t #[v0, v1, o2, o3, o4, o5, o6, o7, o8] := t1.put 1 v1
  have t3 : Whole (((w.setCell ⟨g, 0, none⟩ v0).setCell ⟨g, 1, none⟩ v1).setCell ⟨g, 2, none⟩ v2) g t #[v0, v1, v2, o3, o4, o5, o6, o7, o8] := t2.put 2 v2
  have t4 : Whole ((((w.setCell ⟨g, 0, none⟩ v0).setCell ⟨g, 1, none⟩ v1).setCell ⟨g, 2, none⟩ v2).setCell ⟨g, 3, none⟩ v3) g t #[v0, v1, v2, v3, o4, o5, o6, o7, o8] := t3.put 3 v3
  have t5 : Whole (((((w.setCell ⟨g, 0, none⟩ v0).setCell ⟨g, 1, none⟩ v1).setCell ⟨g, 2, none⟩ v2).setCell ⟨g, 3, none⟩ v3).setCell ⟨g, 4, none⟩ v4) g t #[v0, v1, v2, v3, v4, o5, o6, o7, o8] := t4.put 4 v4
  have t6 : Whole ((((((w.setCell ⟨g, 0, none⟩ v0).setCell ⟨g, 1, none⟩ v1).setCell ⟨g, 2, none⟩ v2).setCell ⟨g, 3, none⟩ v3).setCell ⟨g, 4, none⟩ v4).setCell ⟨g, 5, none⟩ v5) g t #[v0, v1, v2, v3, v4, v5, o6, o7, o8] := t5.put 5 v5
  have t7 : Whole (((((((w.setCell ⟨g, 0, none⟩ v0).setCell ⟨g, 1, none⟩ v1).setCell ⟨g, 2, none⟩ v2).setCell ⟨g, 3, none⟩ v3).setCell ⟨g, 4, none⟩ v4).setCell ⟨g, 5, none⟩ v5).setCell ⟨g, 6, none⟩ v6) g t #[v0, v1, v2, v3, v4, v5, v6, o7, o8] := t6.put 6 v6
  have t8 : Whole ((((((((w.setCell ⟨g, 0, none⟩ v0).setCell ⟨g, 1, none⟩ v1).setCell ⟨g, 2, none⟩ v2).setCell ⟨g, 3, none⟩ v3).setCell ⟨g, 4, none⟩ v4).setCell ⟨g, 5, none⟩ v5).setCell ⟨g, 6, none⟩ v6).setCell ⟨g, 7, none⟩ v7) g t #[v0, v1, v2, v3, v4, v5, v6, v7, o8] := t7.put 7 v7
  have t9 : Whole (((((((((w.setCell ⟨g, 0, none⟩ v0).setCell ⟨g, 1, none⟩ v1).setCell ⟨g, 2, none⟩ v2).setCell ⟨g, 3, none⟩ v3).setCell ⟨g, 4, none⟩ v4).setCell ⟨g, 5, none⟩ v5).setCell ⟨g, 6, none⟩ v6).setCell ⟨g, 7, none⟩ v7).setCell ⟨g, 8, none⟩ v8) g t #[v0, v1, v2, v3, v4, v5, v6, v7, v8] := t8.put 8 v8
  have k0 := Keep.refl (fun k => k = g) w
  have k1 := k0.setCell (p := ⟨g, 0, none⟩) (.inl rfl) v0
  have k2 := k1.setCell (p := ⟨g, 1, none⟩) (.inl rfl) v1
  have k3 := k2.setCell (p := ⟨g, 2, none⟩) (.inl rfl) v2
  have k4 := k3.setCell (p := ⟨g, 3, none⟩) (.inl rfl) v3
  have k5 := k4.setCell (p := ⟨g, 4, none⟩) (.inl rfl) v4
  have k6 := k5.setCell (p := ⟨g, 5, none⟩) (.inl rfl) v5
  have k7 := k6.setCell (p := ⟨g, 6, none⟩) (.inl rfl) v6
  have k8 := k7.setCell (p := ⟨g, 7, none⟩) (.inl rfl) v7
  have k9 := k8.setCell (p := ⟨g, 8, none⟩) (.inl rfl) v8
  exact ⟨⟨t0.cell 0, t0.free 0⟩, ⟨t1.cell 1, t1.free 1⟩, ⟨t2.cell 2, t2.free 2⟩, ⟨t3.cell 3, t3.free 3⟩, ⟨t4.cell 4, t4.free 4⟩, ⟨t5.cell 5, t5.free 5⟩, ⟨t6.cell 6, t6.free 6⟩, ⟨t7.cell 7, t7.free 7⟩, ⟨t8.cell 8, t8.free 8⟩, t9, k9⟩

set_option maxHeartbeats 400000 in
theorem stake_nil (now lost fl : Int) (w : World) : Calls Try.prog 11 #[.pointer none, .int .u64 now, .int .u64 lost, .int .u64 fl] w fun e w' => e = .returned (.agg #[.int .u64 0, .int .u64 0, .int .u64 0, .int .u64 0, .int .u64 0, .int .u64 0, .int .u64 0, .int .u64 0, .bool false]) ∧ Keep (fun _ => False) w w' := by
  go_enter Try.func11, Try.ntmps11
  go_wp2
  refine bodyPost_ret (v := .agg #[.int .u64 0, .int .u64 0, .int .u64 0, .int .u64 0, .int .u64 0, .int .u64 0, .int .u64 0, .int .u64 0, .bool false]) (by rw [results_cell1 rfl]; go_simp) rfl ?_
  exact ⟨rfl, (Keep.refl _ _).alloc _⟩
set_option maxHeartbeats 4000000 in
theorem stake_any (g : Nat) (now lost fl : Int) (x : Smp) (w : World) (h : SamAt w g x) (hn : Num now) :
    Calls Try.prog 11 #[.pointer (some ⟨g, 0, none⟩), .int .u64 now, .int .u64 lost, .int .u64 fl] w fun e w' => e = .returned (takeV x now lost fl).v ∧ SamAt w' g (takeS x) ∧ Keep (fun k => k = g) w w' := by
  obtain ⟨s, hs⟩ : ∃ s, s = x.s := ⟨_, rfl⟩
  obtain ⟨T, hT⟩ : ∃ T, T = takeV x now lost fl := ⟨_, rfl⟩
  have HF := Lib.hid h.fit.take
  have HT : Hid (T = if s = true then ⟨now, x.d, x.p, topI x.e (satSub now x.q), x.r, x.a, lost, fl, x.l⟩ else ⟨now, x.d, 0, 0, 0, 0, lost, fl, false⟩) := Lib.hid (by subst hT hs; rfl)
  have CI := Lib.hid (sub_any now x.q hn.1 hn.2 h.fit.q.1 h.fit.q.2)
  have c0 : w.cell? ⟨g, 0, none⟩ = some (.int .u64 x.d) := h.whole.cell 0
  have c5 : w.cell? ⟨g, 5, none⟩ = some (.bool s) := hs ▸ h.whole.cell 5
  have c6 : w.cell? ⟨g, 6, none⟩ = some (.int .u64 x.p) := h.whole.cell 6
  have c7 : w.cell? ⟨g, 7, none⟩ = some (.int .u64 x.q) := h.whole.cell 7
  have c8 : w.cell? ⟨g, 8, none⟩ = some (.bool x.l) := h.whole.cell 8
  have c9 : w.cell? ⟨g, 9, none⟩ = some (.int .u64 x.e) := h.whole.cell 9
  have c10 : w.cell? ⟨g, 10, none⟩ = some (.int .u64 x.r) := h.whole.cell 10
  have hlt := h.lt
  have H := Lib.hid h.whole
  have HTK : Hid (takeS x = ⟨x.d, x.u, x.f, x.m, 0, false, x.p, x.q, x.l, x.e, x.r⟩) := Lib.hid rfl
  rw [← hT]
  generalize takeS x = Y at *
  clear h hn hs hT
  go_enter Try.func11, Try.ntmps11
  go_upto_if 27 with fail
  have Z1 := Lib.hid (((Whole.new w 38 #[.int .u64 0, .int .u64 0, .int .u64 0, .int .u64 0, .int .u64 0, .int .u64 0, .int .u64 0, .int .u64 0, .bool false]).alloc (.cells #[.int .u64 now, .int .u64 x.d, .int .u64 0, .int .u64 0, .int .u64 0, .int .u64 0, .int .u64 lost, .int .u64 fl, .bool false] 38)).alloc (.cells #[.bool s, .int .u64 x.p, .int .u64 x.q, .bool x.l, .int .u64 x.e, .int .u64 x.r] 49))
  have X1 := (Whole.new (w.alloc (.cells #[.int .u64 0, .int .u64 0, .int .u64 0, .int .u64 0, .int .u64 0, .int .u64 0, .int .u64 0, .int .u64 0, .bool false] 38)) 38 #[.int .u64 now, .int .u64 x.d, .int .u64 0, .int .u64 0, .int .u64 0, .int .u64 0, .int .u64 lost, .int .u64 fl, .bool false]).alloc (.cells #[.bool s, .int .u64 x.p, .int .u64 x.q, .bool x.l, .int .u64 x.e, .int .u64 x.r] 49)
  have A1 := Whole.new ((w.alloc (.cells #[.int .u64 0, .int .u64 0, .int .u64 0, .int .u64 0, .int .u64 0, .int .u64 0, .int .u64 0, .int .u64 0, .bool false] 38)).alloc (.cells #[.int .u64 now, .int .u64 x.d, .int .u64 0, .int .u64 0, .int .u64 0, .int .u64 0, .int .u64 lost, .int .u64 fl, .bool false] 38)) 49 #[.bool s, .int .u64 x.p, .int .u64 x.q, .bool x.l, .int .u64 x.e, .int .u64 x.r]
  have G1 := Lib.hid (((H.out.alloc (.cells #[.int .u64 0, .int .u64 0, .int .u64 0, .int .u64 0, .int .u64 0, .int .u64 0, .int .u64 0, .int .u64 0, .bool false] 38)).alloc (.cells #[.int .u64 now, .int .u64 x.d, .int .u64 0, .int .u64 0, .int .u64 0, .int .u64 0, .int .u64 lost, .int .u64 fl, .bool false] 38)).alloc (.cells #[.bool s, .int .u64 x.p, .int .u64 x.q, .bool x.l, .int .u64 x.e, .int .u64 x.r] 49))
  have K1 := Lib.hid ((((Keep.refl (fun k => k = g) w).alloc (.cells #[.int .u64 0, .int .u64 0, .int .u64 0, .int .u64 0, .int .u64 0, .int .u64 0, .int .u64 0, .int .u64 0, .bool false] 38)).alloc (.cells #[.int .u64 now, .int .u64 x.d, .int .u64 0, .int .u64 0, .int .u64 0, .int .u64 0, .int .u64 lost, .int .u64 fl, .bool false] 38)).alloc (.cells #[.bool s, .int .u64 x.p, .int .u64 x.q, .bool x.l, .int .u64 x.e, .int .u64 x.r] 49))
  rw [World.size_alloc] at X1 A1
  rw [World.size_alloc] at A1
  have HX1 := Lib.hid X1; have HA1 := Lib.hid A1
  clear X1 A1 c0 c5 c6 c7 c8 c9 c10 H
  generalize hw1 : World.alloc (World.alloc _ _) (Obj.cells _ 49) = w1 at *
  clear hw1
  obtain ⟨b2, hb2⟩ : ∃ b2, b2 = w.heap.size + 1 + 1 := ⟨_, rfl⟩
  rw [← hb2] at HA1 ⊢
  obtain ⟨b1, hb1⟩ : ∃ b1, b1 = w.heap.size + 1 := ⟨_, rfl⟩
  rw [← hb1] at HX1 ⊢
  obtain ⟨b0, hb0⟩ : ∃ b0, b0 = w.heap.size := ⟨_, rfl⟩
  rw [← hb0] at Z1 ⊢
  have h0 : g < b0 ∧ b0 < b1 ∧ b1 < b2 ∧ w.heap.size ≤ b0 := ⟨by omega, by omega, by omega, by omega⟩
  clear hb0 hb1 hb2 hlt
  obtain ⟨h00, h01, h12, hb⟩ := h0
  go_cut [1] (fun s1 wx => s1 = .int .u64 now ∧ Whole wx b1 38 T.c ∧ Whole wx b0 38 #[.int .u64 0, .int .u64 0, .int .u64 0, .int .u64 0, .int .u64 0, .int .u64 0, .int .u64 0, .int .u64 0, .bool false] ∧ Whole wx g 51 #[.int .u64 x.d, .int .u64 x.u, .int .u64 x.f, .int .u64 x.m, .int .u64 x.a, .bool x.s, .int .u64 x.p, .int .u64 x.q, .bool x.l, .int .u64 x.e, .int .u64 x.r] ∧ Keep (fun k => k = g) w wx)
  case first =>
    cases s
    · obtain rfl : T = _ := HT.out.trans (if_neg (by decide))
      go_wp2
      go_meet
      exact ⟨rfl, HX1.out, Z1.out, G1.out, K1.out⟩
    · have HV0 := Lib.hid (HT.out.trans (if_pos rfl))
      clear HT
      go_upto_region 6 with fail
      have HSK : Hid (∀ W, Keep (fun k => k = b1) w1 W → W.cell? ⟨g, 4, none⟩ = some (.int .u64 x.a) ∧ W.cell? ⟨b2, 1, none⟩ = some (.int .u64 x.p) ∧ W.cell? ⟨b2, 3, none⟩ = some (.bool x.l) ∧ W.cell? ⟨b2, 5, none⟩ = some (.int .u64 x.r)) :=
        Lib.hid (fun W hW => have h := G1.out.keep hW (by omega); have h' := HA1.out.keep hW (by omega); ⟨h.cell 4, h'.cell 1, h'.cell 3, h'.cell 5⟩)
      refine wp_region_sch (fun W => W.cell? ⟨g, 4, none⟩ = some (.int .u64 x.a) ∧ W.cell? ⟨b2, 1, none⟩ = some (.int .u64 x.p) ∧ W.cell? ⟨b2, 3, none⟩ = some (.bool x.l) ∧ W.cell? ⟨b2, 5, none⟩ = some (.int .u64 x.r)) [(true, 0), (true, 1), (true, 2), (true, 3), (true, 4), (true, 5), (true, 6), (true, 7), (true, 8), (true, 9), (true, 10), (false, 11), (true, 12), (false, 13), (true, 14), (false, 15), (true, 16), (false, 17)] (by kernel_rfl) (by kernel_rfl) (by kernel_rfl) (by kernel_rfl) (HSK.out _ (Keep.refl _ _).drew) ?_
      (repeat (refine wpSch_yes (v := ?_) rfl (fun _ _ _ h => h) (by rfl) ?_ ?_; rotate_left; (next => (intro w hSw; (try dsimp only at hSw); obtain ⟨hS1, hS2, hS3, hS4⟩ := hSw; go_simp; (try with_reducible rfl))); (try simp only [Act.put, List.setIfInBounds_toArray, List.set_cons_zero, List.set_cons_succ])))
      have e5 : w1.cell? ⟨b1, 5, none⟩ = some (.int .u64 0) := HX1.out.cell 5
      have f5 := HX1.out.free 5
      have t1 := HX1.out.put 5 (.int .u64 x.a)
      have k1 := (Keep.refl (fun k => k = b1) w1).setCell (p := ⟨b1, 5, none⟩) (.inl rfl) (.int .u64 x.a)
      have e2 : (w1.setCell ⟨b1, 5, none⟩ (.int .u64 x.a)).cell? ⟨b1, 2, none⟩ = some (.int .u64 0) := t1.cell 2
      have f2 := t1.free 2
      have t2 := t1.put 2 (.int .u64 x.p)
      have k2 := k1.setCell (p := ⟨b1, 2, none⟩) (.inl rfl) (.int .u64 x.p)
      have e8 : ((w1.setCell ⟨b1, 5, none⟩ (.int .u64 x.a)).setCell ⟨b1, 2, none⟩ (.int .u64 x.p)).cell? ⟨b1, 8, none⟩ = some (.bool false) := t2.cell 8
      have f8 := t2.free 8
      have t3 := t2.put 8 (.bool x.l)
      have k3 := k2.setCell (p := ⟨b1, 8, none⟩) (.inl rfl) (.bool x.l)
      have e4 : (((w1.setCell ⟨b1, 5, none⟩ (.int .u64 x.a)).setCell ⟨b1, 2, none⟩ (.int .u64 x.p)).setCell ⟨b1, 8, none⟩ (.bool x.l)).cell? ⟨b1, 4, none⟩ = some (.int .u64 0) := t3.cell 4
      have f4 := t3.free 4
      have X2 : Hid (Whole ((((w1.setCell ⟨b1, 5, none⟩ (.int .u64 x.a)).setCell ⟨b1, 2, none⟩ (.int .u64 x.p)).setCell ⟨b1, 8, none⟩ (.bool x.l)).setCell ⟨b1, 4, none⟩ (.int .u64 x.r)).drew b1 38 #[.int .u64 now, .int .u64 x.d, .int .u64 x.p, .int .u64 0, .int .u64 x.r, .int .u64 x.a, .int .u64 lost, .int .u64 fl, .bool x.l]) := Lib.hid (t3.put 4 _).drew
      have KK1 := Lib.hid k1.drew; have KK2 := Lib.hid k2.drew; have KK3 := Lib.hid k3.drew
      have KK4 := Lib.hid (k3.setCell (p := ⟨b1, 4, none⟩) (.inl rfl) (.int .u64 x.r)).drew
      clear t1 t2 t3 k1 k2 k3
      refine wpSch_call rfl (by rfl) (fun K hK => ?_); go_simp
      refine hK.out _ _ (HSK.out _ KK1.out) (fun hHeld => ?_)
      clear hK K hHeld; (try simp only [Act.put, List.setIfInBounds_toArray, List.set_cons_zero, List.set_cons_succ])
      (repeat (refine wpSch_yes (v := ?_) rfl (fun _ _ _ h => h) (by rfl) ?_ ?_; rotate_left; (next => (intro w hSw; (try dsimp only at hSw); obtain ⟨hS1, hS2, hS3, hS4⟩ := hSw; go_simp; (try with_reducible rfl))); (try simp only [Act.put, List.setIfInBounds_toArray, List.set_cons_zero, List.set_cons_succ])))
      refine wpSch_call rfl (by rfl) (fun K hK => ?_); go_simp
      refine hK.out _ _ (HSK.out _ KK2.out) (fun hHeld => ?_)
      clear hK K hHeld; (try simp only [Act.put, List.setIfInBounds_toArray, List.set_cons_zero, List.set_cons_succ])
      (repeat (refine wpSch_yes (v := ?_) rfl (fun _ _ _ h => h) (by rfl) ?_ ?_; rotate_left; (next => (intro w hSw; (try dsimp only at hSw); obtain ⟨hS1, hS2, hS3, hS4⟩ := hSw; go_simp; (try with_reducible rfl))); (try simp only [Act.put, List.setIfInBounds_toArray, List.set_cons_zero, List.set_cons_succ])))
      refine wpSch_call rfl (by rfl) (fun K hK => ?_); go_simp
      refine hK.out _ _ (HSK.out _ KK3.out) (fun hHeld => ?_)
      clear hK K hHeld; (try simp only [Act.put, List.setIfInBounds_toArray, List.set_cons_zero, List.set_cons_succ])
      (repeat (refine wpSch_yes (v := ?_) rfl (fun _ _ _ h => h) (by rfl) ?_ ?_; rotate_left; (next => (intro w hSw; (try dsimp only at hSw); obtain ⟨hS1, hS2, hS3, hS4⟩ := hSw; go_simp; (try with_reducible rfl))); (try simp only [Act.put, List.setIfInBounds_toArray, List.set_cons_zero, List.set_cons_succ])))
      refine wpSch_call rfl (by rfl) (fun K hK => ?_); go_simp
      refine hK.out _ _ (HSK.out _ KK4.out) (fun hHeld => ?_)
      clear e5 f5 e2 f2 e8 f8 e4 f4
      clear hK K hHeld; (try simp only [Act.put, List.setIfInBounds_toArray, List.set_cons_zero, List.set_cons_succ])
      have A2 := Lib.hid (HA1.out.keep KK4.out (by omega))
      have Z2 := Lib.hid (Z1.out.keep KK4.out (by omega))
      have G2 := Lib.hid (G1.out.keep KK4.out (by omega))
      have K2 := Lib.hid (K1.out.then KK4.out (fun i e hl => by omega))
      clear HSK KK1 KK2 KK3 KK4 HX1 HA1 Z1 G1 K1
      generalize hw2 : World.drew _ = w2 at *
      clear hw2
      refine wpSch_nil ?_
      go_upto_region 7 with fail
      generalize satSub now x.q = J at *
      obtain ⟨I, hI⟩ : ∃ I, I = topI x.e J := ⟨_, rfl⟩
      rw [← hI] at HV0
      rcases Int.lt_trichotomy x.e J with hc | hc | hc
      · obtain rfl : I = J := hI.trans (if_pos (by omega))
        clear hI
        have HV := HV0
        refine wp_region_sch (fun W => W.cell? ⟨b2, 4, none⟩ = some (.int .u64 x.e) ∧ W.cell? ⟨b2, 2, none⟩ = some (.int .u64 x.q)) [(true, 0), (true, 1), (true, 2), (true, 3), (true, 4), (false, 5), (true, 6), (true, 7), (false, 8)] (by kernel_rfl) (by kernel_rfl) (by kernel_rfl) (by kernel_rfl) ⟨A2.out.drew.cell 4, A2.out.drew.cell 2⟩ ?_
        (repeat (refine wpSch_yes (v := ?_) rfl (fun _ _ _ h => h) (by rfl) ?_ ?_; rotate_left; (next => (intro w hSw; (try dsimp only at hSw); obtain ⟨hS1, hS2⟩ := hSw; go_simp; (try with_reducible rfl))); (try simp only [Act.put, List.setIfInBounds_toArray, List.set_cons_zero, List.set_cons_succ])))
        refine wpSch_call rfl (by rfl) (fun K hK => ?_); go_simp
        refine (CI.out _).mono ?_
        rintro e w' ⟨rfl, rfl⟩
        refine hK.out _ _ ⟨A2.out.drew.cell 4, A2.out.drew.cell 2⟩ (fun hHeld => ?_)
        clear hK K hHeld; (try simp only [Act.put, List.setIfInBounds_toArray, List.set_cons_zero, List.set_cons_succ])
        (repeat (refine wpSch_yes (v := ?_) rfl (fun _ _ _ h => h) (by rfl) ?_ ?_; rotate_left; (next => (intro w hSw; (try dsimp only at hSw); obtain ⟨hS1, hS2⟩ := hSw; go_simp; (try with_reducible rfl))); (try simp only [Act.put, List.setIfInBounds_toArray, List.set_cons_zero, List.set_cons_succ])))
        have X3 := Lib.hid (X2.out.put 3 (.int .u64 I)).drew
        have A3 := Lib.hid (A2.out.far (p := ⟨b1, 3, none⟩) (by simp; omega) (.int .u64 I)).drew
        have Z3 := Lib.hid (Z2.out.far (p := ⟨b1, 3, none⟩) (by simp; omega) (.int .u64 I)).drew
        have G3 := Lib.hid (G2.out.far (p := ⟨b1, 3, none⟩) (by simp; omega) (.int .u64 I)).drew
        have K3 := Lib.hid (K2.out.setCell (p := ⟨b1, 3, none⟩) (.inr (by simp; omega)) (.int .u64 I)).drew
        have e3 : w2.cell? ⟨b1, 3, none⟩ = some (.int .u64 0) := X2.out.cell 3
        have f3 := X2.out.free 3
        refine wpSch_call rfl (by rfl) (fun K hK => ?_); go_simp
        refine hK.out _ _ ⟨A3.out.cell 4, A3.out.cell 2⟩ (fun hHeld => ?_)
        clear hK K hHeld; (try simp only [Act.put, List.setIfInBounds_toArray, List.set_cons_zero, List.set_cons_succ])
        refine wpSch_nil ?_
        go_wp2
        go_meet
        exact ⟨rfl, by rw [HV.out]; exact X3.out, Z3.out, G3.out, K3.out⟩
      · obtain rfl : I = J := hI.trans (if_pos (by omega))
        clear hI
        have HV := HV0
        rw [← hc] at HV
        have HC := Lib.hid hc
        clear hc HV0
        have h1 : ¬ x.e < I := by rw [HC.out]; omega
        have h2 : ¬ I < x.e := by rw [HC.out]; omega
        refine wp_region_sch (fun W => W.cell? ⟨b2, 4, none⟩ = some (.int .u64 x.e) ∧ W.cell? ⟨b2, 2, none⟩ = some (.int .u64 x.q)) [(true, 0), (true, 1), (true, 2), (true, 3), (true, 4), (false, 5), (true, 6), (true, 7), (false, 8)] (by kernel_rfl) (by kernel_rfl) (by kernel_rfl) (by kernel_rfl) ⟨A2.out.drew.cell 4, A2.out.drew.cell 2⟩ ?_
        (repeat (refine wpSch_yes (v := ?_) rfl (fun _ _ _ h => h) (by rfl) ?_ ?_; rotate_left; (next => (intro w hSw; (try dsimp only at hSw); obtain ⟨hS1, hS2⟩ := hSw; go_simp; (try with_reducible rfl))); (try simp only [Act.put, List.setIfInBounds_toArray, List.set_cons_zero, List.set_cons_succ])))
        refine wpSch_call rfl (by rfl) (fun K hK => ?_); go_simp
        refine (CI.out _).mono ?_
        rintro e w' ⟨rfl, rfl⟩
        refine hK.out _ _ ⟨A2.out.drew.cell 4, A2.out.drew.cell 2⟩ (fun hHeld => ?_)
        clear hK K hHeld; (try simp only [Act.put, List.setIfInBounds_toArray, List.set_cons_zero, List.set_cons_succ])
        (repeat (refine wpSch_yes (v := ?_) rfl (fun _ _ _ h => h) (by rfl) ?_ ?_; rotate_left; (next => (intro w hSw; (try dsimp only at hSw); obtain ⟨hS1, hS2⟩ := hSw; go_simp; (try with_reducible rfl))); (try simp only [Act.put, List.setIfInBounds_toArray, List.set_cons_zero, List.set_cons_succ])))
        have X3 := Lib.hid (X2.out.put 3 (.int .u64 x.e)).drew
        have A3 := Lib.hid (A2.out.far (p := ⟨b1, 3, none⟩) (by simp; omega) (.int .u64 x.e)).drew
        have Z3 := Lib.hid (Z2.out.far (p := ⟨b1, 3, none⟩) (by simp; omega) (.int .u64 x.e)).drew
        have G3 := Lib.hid (G2.out.far (p := ⟨b1, 3, none⟩) (by simp; omega) (.int .u64 x.e)).drew
        have K3 := Lib.hid (K2.out.setCell (p := ⟨b1, 3, none⟩) (.inr (by simp; omega)) (.int .u64 x.e)).drew
        have e3 : w2.cell? ⟨b1, 3, none⟩ = some (.int .u64 0) := X2.out.cell 3
        have f3 := X2.out.free 3
        refine wpSch_call rfl (by rfl) (fun K hK => ?_); go_simp
        refine hK.out _ _ ⟨A3.out.cell 4, A3.out.cell 2⟩ (fun hHeld => ?_)
        clear hK K hHeld; (try simp only [Act.put, List.setIfInBounds_toArray, List.set_cons_zero, List.set_cons_succ])
        refine wpSch_nil ?_
        go_wp2
        go_meet
        exact ⟨rfl, by rw [HV.out]; exact X3.out, Z3.out, G3.out, K3.out⟩
      · obtain rfl : I = x.e := hI.trans (if_neg (by omega))
        clear hI
        have h1 : ¬ x.e < J := by omega
        have HV := HV0
        refine wp_region_sch (fun W => W.cell? ⟨b2, 4, none⟩ = some (.int .u64 x.e) ∧ W.cell? ⟨b2, 2, none⟩ = some (.int .u64 x.q)) [(true, 0), (true, 1), (true, 2), (true, 3), (true, 4), (false, 5), (true, 6), (true, 7), (false, 8)] (by kernel_rfl) (by kernel_rfl) (by kernel_rfl) (by kernel_rfl) ⟨A2.out.drew.cell 4, A2.out.drew.cell 2⟩ ?_
        (repeat (refine wpSch_yes (v := ?_) rfl (fun _ _ _ h => h) (by rfl) ?_ ?_; rotate_left; (next => (intro w hSw; (try dsimp only at hSw); obtain ⟨hS1, hS2⟩ := hSw; go_simp; (try with_reducible rfl))); (try simp only [Act.put, List.setIfInBounds_toArray, List.set_cons_zero, List.set_cons_succ])))
        refine wpSch_call rfl (by rfl) (fun K hK => ?_); go_simp
        refine (CI.out _).mono ?_
        rintro e w' ⟨rfl, rfl⟩
        refine hK.out _ _ ⟨A2.out.drew.cell 4, A2.out.drew.cell 2⟩ (fun hHeld => ?_)
        clear hK K hHeld; (try simp only [Act.put, List.setIfInBounds_toArray, List.set_cons_zero, List.set_cons_succ])
        (repeat (refine wpSch_yes (v := ?_) rfl (fun _ _ _ h => h) (by rfl) ?_ ?_; rotate_left; (next => (intro w hSw; (try dsimp only at hSw); obtain ⟨hS1, hS2⟩ := hSw; go_simp; (try with_reducible rfl))); (try simp only [Act.put, List.setIfInBounds_toArray, List.set_cons_zero, List.set_cons_succ])))
        have X3 := Lib.hid (X2.out.put 3 (.int .u64 x.e)).drew
        have A3 := Lib.hid (A2.out.far (p := ⟨b1, 3, none⟩) (by simp; omega) (.int .u64 x.e)).drew
        have Z3 := Lib.hid (Z2.out.far (p := ⟨b1, 3, none⟩) (by simp; omega) (.int .u64 x.e)).drew
        have G3 := Lib.hid (G2.out.far (p := ⟨b1, 3, none⟩) (by simp; omega) (.int .u64 x.e)).drew
        have K3 := Lib.hid (K2.out.setCell (p := ⟨b1, 3, none⟩) (.inr (by simp; omega)) (.int .u64 x.e)).drew
        have e3 : w2.cell? ⟨b1, 3, none⟩ = some (.int .u64 0) := X2.out.cell 3
        have f3 := X2.out.free 3
        refine wpSch_call rfl (by rfl) (fun K hK => ?_); go_simp
        refine hK.out _ _ ⟨A3.out.cell 4, A3.out.cell 2⟩ (fun hHeld => ?_)
        clear hK K hHeld; (try simp only [Act.put, List.setIfInBounds_toArray, List.set_cons_zero, List.set_cons_succ])
        refine wpSch_nil ?_
        go_wp2
        go_meet
        exact ⟨rfl, by rw [HV.out]; exact X3.out, Z3.out, G3.out, K3.out⟩
  case rest =>
    obtain ⟨rfl, hx, hz, hg, hk⟩ := hcut
    clear HX1 HA1 Z1 G1 K1 CI HT
    have e4 : wc.cell? ⟨g, 4, none⟩ = some (.int .u64 x.a) := hg.cell 4
    have f4 := hg.free 4
    have e5 : (wc.setCell ⟨g, 4, none⟩ (.int .u64 0)).cell? ⟨g, 5, none⟩ = some (.bool x.s) := (hg.put 4 (.int .u64 0)).cell 5
    have f5 := (hg.put 4 (.int .u64 0)).free 5
    have G2 : Hid (Whole ((wc.setCell ⟨g, 4, none⟩ (.int .u64 0)).setCell ⟨g, 5, none⟩ (.bool false)) g 51 (smpC Y)) := Lib.hid (by rw [HTK.out]; exact (hg.put 4 _).put 5 _)
    have X2 := Lib.hid ((hx.far (p := ⟨g, 4, none⟩) (by simp; omega) (.int .u64 0)).far (p := ⟨g, 5, none⟩) (by simp; omega) (.bool false))
    have Z2 := Lib.hid ((hz.far (p := ⟨g, 4, none⟩) (by simp; omega) (.int .u64 0)).far (p := ⟨g, 5, none⟩) (by simp; omega) (.bool false))
    have K2 := Lib.hid ((hk.setCell (p := ⟨g, 4, none⟩) (.inl rfl) (.int .u64 0)).setCell (p := ⟨g, 5, none⟩) (.inl rfl) (.bool false))
    clear hx hz hg hk
    go_upto_region 9 with fail
    clear e4 f4 e5 f5
    generalize hw2 : World.setCell _ _ _ = w2 at *
    clear hw2
    have d0 : w2.cell? ⟨b1, 0, none⟩ = some (.int .u64 T.n) := X2.out.cell 0
    have d1 : w2.cell? ⟨b1, 1, none⟩ = some (.int .u64 T.d) := X2.out.cell 1
    have d2 : w2.cell? ⟨b1, 2, none⟩ = some (.int .u64 T.p) := X2.out.cell 2
    have d3 : w2.cell? ⟨b1, 3, none⟩ = some (.int .u64 T.i) := X2.out.cell 3
    have d4 : w2.cell? ⟨b1, 4, none⟩ = some (.int .u64 T.r) := X2.out.cell 4
    have d5 : w2.cell? ⟨b1, 5, none⟩ = some (.int .u64 T.a) := X2.out.cell 5
    have d6 : w2.cell? ⟨b1, 6, none⟩ = some (.int .u64 T.o) := X2.out.cell 6
    have d7 : w2.cell? ⟨b1, 7, none⟩ = some (.int .u64 T.f) := X2.out.cell 7
    have d8 : w2.cell? ⟨b1, 8, none⟩ = some (.bool T.l) := X2.out.cell 8
    obtain ⟨⟨p0, q0⟩, ⟨p1, q1⟩, ⟨p2, q2⟩, ⟨p3, q3⟩, ⟨p4, q4⟩, ⟨p5, q5⟩, ⟨p6, q6⟩, ⟨p7, q7⟩, ⟨p8, q8⟩, pw, pk⟩ := Z2.out.fill9 (.int .u64 T.n) (.int .u64 T.d) (.int .u64 T.p) (.int .u64 T.i) (.int .u64 T.r) (.int .u64 T.a) (.int .u64 T.o) (.int .u64 T.f) (.bool T.l)
    have PW := Lib.hid pw; have PK := Lib.hid (K2.out.then pk (fun i e hl => by omega)); have PG := Lib.hid (G2.out.keep pk (by omega))
    clear pw pk Z2 X2 G2 K2
    go_wp2
    clear d0 d1 d2 d3 d4 d5 d6 d7 d8 p0 q0 p1 q1 p2 q2 p3 q3 p4 q4 p5 q5 p6 q6 p7 q7 p8 q8
    generalize hw3 : World.setCell _ _ _ = w3 at *
    clear hw3
    have z0 : w3.cell? ⟨b0, 0, none⟩ = some (.int .u64 T.n) := PW.out.cell 0
    have z1 : w3.cell? ⟨b0, 1, none⟩ = some (.int .u64 T.d) := PW.out.cell 1
    have z2 : w3.cell? ⟨b0, 2, none⟩ = some (.int .u64 T.p) := PW.out.cell 2
    have z3 : w3.cell? ⟨b0, 3, none⟩ = some (.int .u64 T.i) := PW.out.cell 3
    have z4 : w3.cell? ⟨b0, 4, none⟩ = some (.int .u64 T.r) := PW.out.cell 4
    have z5 : w3.cell? ⟨b0, 5, none⟩ = some (.int .u64 T.a) := PW.out.cell 5
    have z6 : w3.cell? ⟨b0, 6, none⟩ = some (.int .u64 T.o) := PW.out.cell 6
    have z7 : w3.cell? ⟨b0, 7, none⟩ = some (.int .u64 T.f) := PW.out.cell 7
    have z8 : w3.cell? ⟨b0, 8, none⟩ = some (.bool T.l) := PW.out.cell 8
    refine bodyPost_ret (v := T.v) (by rw [results_cell1 rfl]; go_simp) rfl ?_
    exact ⟨rfl, ⟨PG.out, HF.out⟩, PK.out⟩
end Go.Proofs.Ytiilbdmldonipaa
