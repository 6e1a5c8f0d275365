/-
  Words on memory: a struct of ten cells that is stored anew into a block known whole. No program is spoken of. Conditions: none.
  The document's own model: State. Conditions: none beyond that it lies in memory as NewModel makes it.
  Package bbr's measure and turn: what they leave. Conditions: the Model lies in memory as New makes it, be it inside a block; numbers are of 64 bits; fewer than 2^64-1 rounds have begun.
-/
import Derived.Test.YtcjgpkjhfbamfaaGreatJ01
import Derived.Test.YtcjgpkjhfbamfaaGreatJ23
namespace Go.Proofs.YtcjgpkjhfbamfaaGreat
open Go.RowKit
set_option maxRecDepth 100000
theorem Whole.fill10 {w : World} {g : Nat} {t : TypeId} {o0 o1 o2 o3 o4 o5 o6 o7 o8 o9 : Value} (h : Whole w g t #[o0, o1, o2, o3, o4, o5, o6, o7, o8, o9]) (v0 v1 v2 v3 v4 v5 v6 v7 v8 v9 : Value) :
    (w.cell? ⟨g, 0, none⟩ = some o0 ∧ w.frozen? ⟨g, 0, none⟩ = false) ∧ ((w.setCell ⟨g, 0, none⟩ v0).cell? ⟨g, 1, none⟩ = some o1 ∧ (w.setCell ⟨g, 0, none⟩ v0).frozen? ⟨g, 1, none⟩ = false) ∧ (((w.setCell ⟨g, 0, none⟩ v0).setCell ⟨g, 1, none⟩ v1).cell? ⟨g, 2, none⟩ = some o2 ∧ ((w.setCell ⟨g, 0, none⟩ v0).setCell ⟨g, 1, none⟩ v1).frozen? ⟨g, 2, none⟩ = false) ∧ ((((w.setCell ⟨g, 0, none⟩ v0).setCell ⟨g, 1, none⟩ v1).setCell ⟨g, 2, none⟩ v2).cell? ⟨g, 3, none⟩ = some o3 ∧ (((w.setCell ⟨g, 0, none⟩ v0).setCell ⟨g, 1, none⟩ v1).setCell ⟨g, 2, none⟩ v2).frozen? ⟨g, 3, none⟩ = false) ∧ (((((w.setCell ⟨g, 0, none⟩ v0).setCell ⟨g, 1, none⟩ v1).setCell ⟨g, 2, none⟩ v2).setCell ⟨g, 3, none⟩ v3).cell? ⟨g, 4, none⟩ = some o4 ∧ ((((w.setCell ⟨g, 0, none⟩ v0).setCell ⟨g, 1, none⟩ v1).setCell ⟨g, 2, none⟩ v2).setCell ⟨g, 3, none⟩ v3).frozen? ⟨g, 4, none⟩ = false) ∧ ((((((w.setCell ⟨g, 0, none⟩ v0).setCell ⟨g, 1, none⟩ v1).setCell ⟨g, 2, none⟩ v2).setCell ⟨g, 3, none⟩ v3).setCell ⟨g, 4, none⟩ v4).cell? ⟨g, 5, none⟩ = some o5 ∧ (((((w.setCell ⟨g, 0, none⟩ v0).setCell ⟨g, 1, none⟩ v1).setCell ⟨g, 2, none⟩ v2).setCell ⟨g, 3, none⟩ v3).setCell ⟨g, 4, none⟩ v4).frozen? ⟨g, 5, none⟩ = false) ∧ (((((((w.setCell ⟨g, 0, none⟩ v0).setCell ⟨g, 1, none⟩ v1).setCell ⟨g, 2, none⟩ v2).setCell ⟨g, 3, none⟩ v3).setCell ⟨g, 4, none⟩ v4).setCell ⟨g, 5, none⟩ v5).cell? ⟨g, 6, none⟩ = some o6 ∧ ((((((w.setCell ⟨g, 0, none⟩ v0).setCell ⟨g, 1, none⟩ v1).setCell ⟨g, 2, none⟩ v2).setCell ⟨g, 3, none⟩ v3).setCell ⟨g, 4, none⟩ v4).setCell ⟨g, 5, none⟩ v5).frozen? ⟨g, 6, none⟩ = false) ∧ ((((((((w.setCell ⟨g, 0, none⟩ v0).setCell ⟨g, 1, none⟩ v1).setCell ⟨g, 2, none⟩ v2).setCell ⟨g, 3, none⟩ v3).setCell ⟨g, 4, none⟩ v4).setCell ⟨g, 5, none⟩ v5).setCell ⟨g, 6, none⟩ v6).cell? ⟨g, 7, none⟩ = some o7 ∧ (((((((w.setCell ⟨g, 0, none⟩ v0).setCell ⟨g, 1, none⟩ v1).setCell ⟨g, 2, none⟩ v2).setCell ⟨g, 3, none⟩ v3).setCell ⟨g, 4, none⟩ v4).setCell ⟨g, 5, none⟩ v5).setCell ⟨g, 6, none⟩ v6).frozen? ⟨g, 7, none⟩ = false) ∧ (((((((((w.setCell ⟨g, 0, none⟩ v0).setCell ⟨g, 1, none⟩ v1).setCell ⟨g, 2, none⟩ v2).setCell ⟨g, 3, none⟩ v3).setCell ⟨g, 4, none⟩ v4).setCell ⟨g, 5, none⟩ v5).setCell ⟨g, 6, none⟩ v6).setCell ⟨g, 7, none⟩ v7).cell? ⟨g, 8, none⟩ = some o8 ∧ ((((((((w.setCell ⟨g, 0, none⟩ v0).setCell ⟨g, 1, none⟩ v1).setCell ⟨g, 2, none⟩ v2).setCell ⟨g, 3, none⟩ v3).setCell ⟨g, 4, none⟩ v4).setCell ⟨g, 5, none⟩ v5).setCell ⟨g, 6, none⟩ v6).setCell ⟨g, 7, none⟩ v7).frozen? ⟨g, 8, none⟩ = false) ∧ ((((((((((w.setCell ⟨g, 0, none⟩ v0).setCell ⟨g, 1, none⟩ v1).setCell ⟨g, 2, none⟩ v2).setCell ⟨g, 3, none⟩ v3).setCell ⟨g, 4, none⟩ v4).setCell ⟨g, 5, none⟩ v5).setCell ⟨g, 6, none⟩ v6).setCell ⟨g, 7, none⟩ v7).setCell ⟨g, 8, none⟩ v8).cell? ⟨g, 9, none⟩ = some o9 ∧ (((((((((w.setCell ⟨g, 0, none⟩ v0).setCell ⟨g, 1, none⟩ v1).setCell ⟨g, 2, none⟩ v2).setCell ⟨g, 3, none⟩ v3).setCell ⟨g, 4, none⟩ v4).setCell ⟨g, 5, none⟩ v5).setCell ⟨g, 6, none⟩ v6).setCell ⟨g, 7, none⟩ v7).setCell ⟨g, 8, none⟩ v8).frozen? ⟨g, 9, none⟩ = false) ∧ Whole ((((((((((w.setCell ⟨g, 0, none⟩ v0).setCell ⟨g, 1, none⟩ v1).setCell ⟨g, 2, none⟩ v2).setCell ⟨g, 3, none⟩ v3).setCell ⟨g, 4, none⟩ v4).setCell ⟨g, 5, none⟩ v5).setCell ⟨g, 6, none⟩ v6).setCell ⟨g, 7, none⟩ v7).setCell ⟨g, 8, none⟩ v8).setCell ⟨g, 9, none⟩ v9) g t #[v0, v1, v2, v3, v4, v5, v6, v7, v8, v9] ∧ Keep (fun k => k = g) w ((((((((((w.setCell ⟨g, 0, none⟩ v0).setCell ⟨g, 1, none⟩ v1).setCell ⟨g, 2, none⟩ v2).setCell ⟨g, 3, none⟩ v3).setCell ⟨g, 4, none⟩ v4).setCell ⟨g, 5, none⟩ v5).setCell ⟨g, 6, none⟩ v6).setCell ⟨g, 7, none⟩ v7).setCell ⟨g, 8, none⟩ v8).setCell ⟨g, 9, none⟩ v9) := by
  have t0 := h
  have t1 : Whole (w.setCell ⟨g, 0, none⟩ v0) g t #[v0, o1, o2, o3, o4, o5, o6, o7, o8, o9] := t0.put 0 v0
  have t2 : Whole ((w.setCell ⟨g, 0, none⟩ v0).setCell ⟨g, 1, none⟩ v1) g t #[v0, v1, o2, o3, o4, o5, o6, o7, o8, o9] := t1.put 1 v1
  have t3 : Whole (((w.setCell ⟨g, 0, none⟩ v0).setCell ⟨g, 1, none⟩ v1).setCell ⟨g, 2, none⟩ v2) g t #[v0, v1, v2, o3, o4, o5, o6, o7, o8, o9] := t2.put 2 v2
  have t4 : Whole ((((w.setCell ⟨g, 0, none⟩ v0).setCell ⟨g, 1, none⟩ v1).setCell ⟨g, 2, none⟩ v2).setCell ⟨g, 3, none⟩ v3) g t #[v0, v1, v2, v3, o4, o5, o6, o7, o8, o9] := t3.put 3 v3
  have t5 : Whole (((((w.setCell ⟨g, 0, none⟩ v0).setCell ⟨g, 1, none⟩ v1).setCell ⟨g, 2, none⟩ v2).setCell ⟨g, 3, none⟩ v3).setCell ⟨g, 4, none⟩ v4) g t #[v0, v1, v2, v3, v4, o5, o6, o7, o8, o9] := t4.put 4 v4
  have t6 : Whole ((((((w.setCell ⟨g, 0, none⟩ v0).setCell ⟨g, 1, none⟩ v1).setCell ⟨g, 2, none⟩ v2).setCell ⟨g, 3, none⟩ v3).setCell ⟨g, 4, none⟩ v4).setCell ⟨g, 5, none⟩ v5) g t #[v0, v1, v2, v3, v4, v5, o6, o7, o8, o9] := t5.put 5 v5
  have t7 : Whole (((((((w.setCell ⟨g, 0, none⟩ v0).setCell ⟨g, 1, none⟩ v1).setCell ⟨g, 2, none⟩ v2).setCell ⟨g, 3, none⟩ v3).setCell ⟨g, 4, none⟩ v4).setCell ⟨g, 5, none⟩ v5).setCell ⟨g, 6, none⟩ v6) g t #[v0, v1, v2, v3, v4, v5, v6, o7, o8, o9] := t6.put 6 v6
  have t8 : Whole ((((((((w.setCell ⟨g, 0, none⟩ v0).setCell ⟨g, 1, none⟩ v1).setCell ⟨g, 2, none⟩ v2).setCell ⟨g, 3, none⟩ v3).setCell ⟨g, 4, none⟩ v4).setCell ⟨g, 5, none⟩ v5).setCell ⟨g, 6, none⟩ v6).setCell ⟨g, 7, none⟩ v7) g t #[v0, v1, v2, v3, v4, v5, v6, v7, o8, o9] := t7.put 7 v7
  have t9 : Whole (((((((((w.setCell ⟨g, 0, none⟩ v0).setCell ⟨g, 1, none⟩ v1).setCell ⟨g, 2, none⟩ v2).setCell ⟨g, 3, none⟩ v3).setCell ⟨g, 4, none⟩ v4).setCell ⟨g, 5, none⟩ v5).setCell ⟨g, 6, none⟩ v6).setCell ⟨g, 7, none⟩ v7).setCell ⟨g, 8, none⟩ v8) g t #[v0, v1, v2, v3, v4, v5, v6, v7, v8, o9] := t8.put 8 v8
  have t10 : Whole ((((((((((w.setCell ⟨g, 0, none⟩ v0).setCell ⟨g, 1, none⟩ v1).setCell ⟨g, 2, none⟩ v2).setCell ⟨g, 3, none⟩ v3).setCell ⟨g, 4, none⟩ v4).setCell ⟨g, 5, none⟩ v5).setCell ⟨g, 6, none⟩ v6).setCell ⟨g, 7, none⟩ v7).setCell ⟨g, 8, none⟩ v8).setCell ⟨g, 9, none⟩ v9) g t #[v0, v1, v2, v3, v4, v5, v6, v7, v8, v9] := t9.put 9 v9
  have k0 := Keep.refl (fun k => k = g) w
  have k1 := k0.setCell (p := ⟨g, 0, none⟩) (.inl rfl) v0
  have k2 := k1.setCell (p := ⟨g, 1, none⟩) (.inl rfl) v1
  have k3 := k2.setCell (p := ⟨g, 2, none⟩) (.inl rfl) v2
  have k4 := k3.setCell (p := ⟨g, 3, none⟩) (.inl rfl) v3
  have k5 := k4.setCell (p := ⟨g, 4, none⟩) (.inl rfl) v4
  have k6 := k5.setCell (p := ⟨g, 5, none⟩) (.inl rfl) v5
  have k7 := k6.setCell (p := ⟨g, 6, none⟩) (.inl rfl) v6
  have k8 := k7.setCell (p := ⟨g, 7, none⟩) (.inl rfl) v7
  have k9 := k8.setCell (p := ⟨g, 8, none⟩) (.inl rfl) v8
  have k10 := k9.setCell (p := ⟨g, 9, none⟩) (.inl rfl) v9
  exact ⟨⟨t0.cell 0, t0.free 0⟩, ⟨t1.cell 1, t1.free 1⟩, ⟨t2.cell 2, t2.free 2⟩, ⟨t3.cell 3, t3.free 3⟩, ⟨t4.cell 4, t4.free 4⟩, ⟨t5.cell 5, t5.free 5⟩, ⟨t6.cell 6, t6.free 6⟩, ⟨t7.cell 7, t7.free 7⟩, ⟨t8.cell 8, t8.free 8⟩, ⟨t9.cell 9, t9.free 9⟩, t10, k10⟩
end Go.Proofs.YtcjgpkjhfbamfaaGreat
set_option linter.unusedVariables false
set_option linter.unusedSimpArgs false
namespace Go.Proofs.YtcjgpkjhfbamfaaGreat
open Go.RowKit
set_option maxRecDepth 100000
set_option maxHeartbeats 4000000 in
set_option maxRecDepth 100000 in
theorem rstate_any (g k : Nat) (x : Mdl) (w : World) (h : RM w g k x (gainM x)) : Calls Tryz.prog 8 #[.pointer (some ⟨g, 0, none⟩)] w fun e w' => e = .returned (.agg (staC x)) ∧ Keep (fun _ => False) w w' := by
  have HM0 := Lib.hid (h.kept ((Keep.refl _ _).alloc (.cells #[.int .i64 0, .int .i64 0, .int .u64 0, .int .u64 0, .int .u64 0, .int .u64 0, .int .u64 0, .int .u64 0, .bool false, .bool false] 31)))
  have HZ0 := Lib.hid (Whole.new w 31 #[.int .i64 0, .int .i64 0, .int .u64 0, .int .u64 0, .int .u64 0, .int .u64 0, .int .u64 0, .int .u64 0, .bool false, .bool false])
  have HK0 := Lib.hid ((Keep.refl (fun _ => False) w).alloc (.cells #[.int .i64 0, .int .i64 0, .int .u64 0, .int .u64 0, .int .u64 0, .int .u64 0, .int .u64 0, .int .u64 0, .bool false, .bool false] 31))
  clear h
  go_enter Tryz.func8, Tryz.ntmps8
  go_upto_region 1 with fail
  generalize hw1 : World.alloc w _ = w1 at *
  generalize hB : w.heap.size = B at HZ0 ⊢
  have HBB : Hid (w.heap.size ≤ B) := Lib.hid (by omega)
  clear hw1 hB
  have HM1 := Lib.hid HM0.out.drew
  clear HM0
  refine wp_region_late (fun W => RM W g k x (gainM x)) [44] (.yes 0 (.yes 1 (.yes 2 (.yes 3 (.yes 4 (.yes 5 (.yes 6 (.yes 7 (.yes 8 (.yes 9 (.yes 10 (.yes 11 (.yes 12 (.yes 14 (.yes 15 (.yes 16 (.yes 17 (.yes 18 (.yes 19 (.yes 20 (.yes 21 (.yes 22 (.yes 23 (.yes 24 (.yes 25 (.yes 26 (.yes 27 (.yes 28 (.yes 29 (.yes 30 (.yes 31 (.yes 32 (.yes 33 (.yes 34 (.yes 35 (.yes 36 (.yes 37 (.yes 38 (.yes 39 (.yes 40 (.yes 41 (.yes 42 (.one 13 (.yes 43 (.one 44 .nil))))))))))))))))))))))))))))))))))))))))))))) (by kernel_rfl) (by kernel_rfl) (by kernel_rfl) (by kernel_rfl) HM1.out ?_
  (repeat (refine wpSchL_yes (v := ?_) rfl (fun _ _ _ h => h) (by rfl) ?_ ?_; rotate_left; (next => (intro w hSw; obtain ⟨c0, c1, c2, c3, c4, c5, c6, c7⟩ := RM.own hSw; obtain ⟨m0, m1, m2, m3, m4, m5, m6, m7⟩ := RM.own' hSw; clear hSw; go_simp; (try with_reducible rfl))); (try simp only [Act.put, List.setIfInBounds_toArray, List.set_cons_zero, List.set_cons_succ])))
  refine wpSchL_one ?_
  refine wpOneL_call rfl (by rfl) (fun K hK => ?_)
  go_simp
  refine (rbw_any _ HM1.out).mono ?_
  rintro e w' ⟨rfl, rfl⟩
  refine hK.out _ _ (fun _ => HM1.out) (fun hHeld => ?_)
  clear hK K hHeld
  (try simp only [Act.put, List.setIfInBounds_toArray, List.set_cons_zero, List.set_cons_succ])
  generalize hV : bwM x = V at *
  generalize hG : gainM x = G at *
  generalize hFF : fullP x.p = F at *
  have HV := Lib.hid hV; have HG := Lib.hid hG; have HFF := Lib.hid hFF
  clear hV hG hFF
  (repeat (refine wpSchL_yes (v := ?_) rfl (fun _ _ _ h => h) (by rfl) ?_ ?_; rotate_left; (next => (intro w hSw; obtain ⟨c0, c1, c2, c3, c4, c5, c6, c7⟩ := RM.own hSw; obtain ⟨m0, m1, m2, m3, m4, m5, m6, m7⟩ := RM.own' hSw; clear hSw; go_simp; (try with_reducible rfl))); (try simp only [Act.put, List.setIfInBounds_toArray, List.set_cons_zero, List.set_cons_succ])))
  obtain ⟨⟨p0, q0⟩, ⟨p1, q1⟩, ⟨p2, q2⟩, ⟨p3, q3⟩, ⟨p4, q4⟩, ⟨p5, q5⟩, ⟨p6, q6⟩, ⟨p7, q7⟩, ⟨p8, q8⟩, ⟨p9, q9⟩, pw, pk⟩ := HZ0.out.fill10 (.int .i64 x.m) (.int .i64 x.c.p) (.int .u64 x.t) (.int .u64 x.w) (.int .u64 V) (.int .u64 x.q.b) (.int .u64 G) (.int .u64 x.r.c) (.bool F) (.bool x.o.u)
  have PW := Lib.hid pw.drew; have PK := Lib.hid (HK0.out.then pk (fun i e hl => by have := HBB.out; omega)).drew
  clear pw pk HZ0 HK0
  refine wpSchL_one ?_
  refine wpOneL_call rfl (by rfl) (fun K hK => ?_)
  go_simp
  refine hK.out _ _ (fun h => absurd h (by decide)) (fun hHeld => ?_)
  clear hK K hHeld
  (try simp only [Act.put, List.setIfInBounds_toArray, List.set_cons_zero, List.set_cons_succ])
  clear p0 q0 p1 q1 p2 q2 p3 q3 p4 q4 p5 q5 p6 q6 p7 q7 p8 q8 p9 q9 HM1
  generalize World.drew _ = w3 at *
  refine wpSchL_nil ?_
  have z0 : w3.cell? ⟨B, 0, none⟩ = some (.int .i64 x.m) := PW.out.cell 0
  have z1 : w3.cell? ⟨B, 1, none⟩ = some (.int .i64 x.c.p) := PW.out.cell 1
  have z2 : w3.cell? ⟨B, 2, none⟩ = some (.int .u64 x.t) := PW.out.cell 2
  have z3 : w3.cell? ⟨B, 3, none⟩ = some (.int .u64 x.w) := PW.out.cell 3
  have z4 : w3.cell? ⟨B, 4, none⟩ = some (.int .u64 V) := PW.out.cell 4
  have z5 : w3.cell? ⟨B, 5, none⟩ = some (.int .u64 x.q.b) := PW.out.cell 5
  have z6 : w3.cell? ⟨B, 6, none⟩ = some (.int .u64 G) := PW.out.cell 6
  have z7 : w3.cell? ⟨B, 7, none⟩ = some (.int .u64 x.r.c) := PW.out.cell 7
  have z8 : w3.cell? ⟨B, 8, none⟩ = some (.bool F) := PW.out.cell 8
  have z9 : w3.cell? ⟨B, 9, none⟩ = some (.bool x.o.u) := PW.out.cell 9
  go_wp2
  refine bodyPost_ret (v := .agg #[.int .i64 x.m, .int .i64 x.c.p, .int .u64 x.t, .int .u64 x.w, .int .u64 V, .int .u64 x.q.b, .int .u64 G, .int .u64 x.r.c, .bool F, .bool x.o.u]) (by rw [results_cell1 rfl]; go_simp) rfl ?_
  exact ⟨by rw [← HV.out, ← HG.out, ← HFF.out], PK.out⟩
end Go.Proofs.YtcjgpkjhfbamfaaGreat
set_option linter.unusedVariables false
set_option linter.unusedSimpArgs false
namespace Go.Proofs.YtcjgpkjhfbamfaaGreat
open Go.RowKit
set_option maxRecDepth 100000
variable {Fm : Fr} {oo : Nat}
set_option maxHeartbeats 2000000 in
theorem measure_any (g : Nat) (x : Mdl) (s : Spl) (w : World) (h : MdlAt Fm oo w g x) (hf : x.Fit) (hs : s.Fit) : Calls Tryz.prog 31 #[.pointer (some ⟨g, oo, none⟩), s.v] w fun e w' => (∃ v, e = .returned v) ∧ MdlAt Fm oo w' g (meaM x s) ∧ Keep (fun k => k = g) w w' := by
  obtain ⟨V, hV⟩ : ∃ V, tolM s = V := ⟨_, rfl⟩
  have HVN : Hid (Num V) := Lib.hid (hV ▸ tolM_num hs)
  have HD := Lib.hid (numSub hs.d hs.p)
  have HM := Lib.hid (SM.begin (s := s) h)
  have HF := Lib.hid hf
  have HS := Lib.hid hs
  clear h hf hs
  by_cases ha : s.a = 0
  · have HE : Hid (meaM x s = x) := Lib.hid (by simp [meaM, telM, ha])
    have qa : (s.a == 0) = true := by simp [ha]
    clear ha hV
    go_enter Tryz.func31, Tryz.ntmps31
    go_wp2
    refine bodyPost_ret (results_none rfl _ _ _) rfl ?_
    exact ⟨⟨_, rfl⟩, by rw [HE.out]; exact HM.out.m, HM.out.k⟩
  have qa : (s.a == 0) = false := by simp [ha]
  by_cases hi : s.i = 0
  · have HE : Hid (meaM x s = x) := Lib.hid (by simp [meaM, telM, hi])
    have qi : (s.i == 0) = true := by simp [hi]
    clear ha hi hV
    go_enter Tryz.func31, Tryz.ntmps31
    go_wp2
    refine bodyPost_ret (results_none rfl _ _ _) rfl ?_
    exact ⟨⟨_, rfl⟩, by rw [HE.out]; exact HM.out.m, HM.out.k⟩
  have qi : (s.i == 0) = false := by simp [hi]
  have HV : Hid (mulDivV (satSub s.d s.p) 1000000000 s.i = V) := Lib.hid hV
  have ht : telM s = true := by simp [telM, ha, hi]
  by_cases hl : s.l = true
  · by_cases hb : x.b.v0 ≤ V
    · have HE : Hid (meaM x s = { x with b := updT false 10 x.b x.r.c V }) := Lib.hid (by simp [meaM, ht, hl, hV, hb])
      clear ha hi hV ht
      have HL := Lib.hid hl
      clear hl
      go_enter Tryz.func31, Tryz.ntmps31
      go_upto_region 2 with fail
      generalize hw1 : World.alloc w _ = w1 at *
      have HM1 : Hid (SM Fm oo w g w.heap.size x s w1) := HM
      clear HM hw1
      generalize w.heap.size = B at *
      obtain ⟨a0, a1, a2, a3, a4, a5, a6, a7, a8⟩ := HM1.out.spl
      refine wp_region_sch (SM Fm oo w g B x s) [(true, 0), (true, 1), (true, 2), (true, 3), (true, 5), (true, 6), (false, 4), (false, 7), (true, 8)] (by kernel_rfl) (by kernel_rfl) (by kernel_rfl) (by kernel_rfl) HM1.out.drew ?_
      (repeat (first | (refine wpSch_yes (v := ?_) rfl (fun _ _ _ h => h) (by rfl) ?_ ?_; rotate_left; (next => (intro w hSw; obtain ⟨a0, a1, a2, a3, a4, a5, a6, a7, a8⟩ := SM.spl hSw; obtain ⟨m0, m1, m2, m3, m4, m5, m6, m7⟩ := MdlAt.own (SM.m hSw); clear hSw; go_simp; (try with_reducible rfl))); (try simp only [Act.put, List.setIfInBounds_toArray, List.set_cons_zero, List.set_cons_succ])) | (refine wpSch_no rfl (fun _ _ _ h => h) (by rfl) ?_; (try simp only [Act.put, List.setIfInBounds_toArray, List.set_cons_zero, List.set_cons_succ]))))
      refine wpSch_call rfl (by rfl) (fun K hK => ?_)
      go_simp
      refine (sub_any _ _ HS.out.d.1 HS.out.d.2 HS.out.p.1 HS.out.p.2 _).mono ?_
      rintro e w' ⟨rfl, rfl⟩
      refine hK.out _ _ HM1.out.drew (fun hHeld => ?_)
      clear hK K hHeld
      (try simp only [Act.put, List.setIfInBounds_toArray, List.set_cons_zero, List.set_cons_succ])
      refine wpSch_call rfl (by rfl) (fun K hK => ?_)
      go_simp
      refine (wmuldiv_any _ _ _ HD.out.1 HD.out.2 (by decide) (by decide) HS.out.i.1 HS.out.i.2 _).mono ?_
      rintro e w' ⟨rfl, rfl⟩
      rw [HV.out]
      refine hK.out _ _ HM1.out.drew (fun hHeld => ?_)
      clear hK K hHeld
      (try simp only [Act.put, List.setIfInBounds_toArray, List.set_cons_zero, List.set_cons_succ])
      (repeat (first | (refine wpSch_yes (v := ?_) rfl (fun _ _ _ h => h) (by rfl) ?_ ?_; rotate_left; (next => (intro w hSw; obtain ⟨a0, a1, a2, a3, a4, a5, a6, a7, a8⟩ := SM.spl hSw; obtain ⟨m0, m1, m2, m3, m4, m5, m6, m7⟩ := MdlAt.own (SM.m hSw); clear hSw; go_simp; (try with_reducible rfl))); (try simp only [Act.put, List.setIfInBounds_toArray, List.set_cons_zero, List.set_cons_succ])) | (refine wpSch_no rfl (fun _ _ _ h => h) (by rfl) ?_; (try simp only [Act.put, List.setIfInBounds_toArray, List.set_cons_zero, List.set_cons_succ]))))
      refine wpSch_nil ?_
      have HM2 := Lib.hid HM1.out.drew
      clear a0 a1 a2 a3 a4 a5 a6 a7 a8 HM1
      generalize w1.drew = w2 at *
      obtain ⟨a0, a1, a2, a3, a4, a5, a6, a7, a8⟩ := HM2.out.spl
      have HX := Lib.hid (HM2.out.m.max HF.out)
      have hl := HL.out
      go_wp2_with fail
      refine (xbest_any _ _ _ _ HX.out).mono ?_
      rintro e w' ⟨rfl, rfl⟩
      go_upto_region 4 with fail
      refine wp_region_late (SM Fm oo w g B x s) [8] (.yes 0 (.yes 1 (.yes 2 (.yes 3 (.yes 4 (.yes 5 (.yes 7 (.one 6 (.one 8 .nil))))))))) (by kernel_rfl) (by kernel_rfl) (by kernel_rfl) (by kernel_rfl) HM2.out.drew ?_
      (repeat (refine wpSchL_yes (v := ?_) rfl (fun _ _ _ h => h) (by rfl) ?_ ?_; rotate_left; (next => (intro w hSw; obtain ⟨a0, a1, a2, a3, a4, a5, a6, a7, a8⟩ := SM.spl hSw; obtain ⟨m0, m1, m2, m3, m4, m5, m6, m7⟩ := MdlAt.own (SM.m hSw); clear hSw; go_simp; (try with_reducible rfl))); (try simp only [Act.put, List.setIfInBounds_toArray, List.set_cons_zero, List.set_cons_succ])))
      refine wpSchL_one ?_
      refine wpOneL_call rfl (by rfl) (fun K hK => ?_)
      go_simp
      refine (rcount_any _ _ _ (HM2.out.m.rnd HF.out).drew).mono ?_
      rintro e w' ⟨rfl, rfl⟩
      refine hK.out _ _ (fun _ => HM2.out.drew) (fun hHeld => ?_)
      clear hK K hHeld
      (try simp only [Act.put, List.setIfInBounds_toArray, List.set_cons_zero, List.set_cons_succ])
      refine wpSchL_one ?_
      refine wpOneL_call rfl (by rfl) (fun K hK => ?_)
      go_simp
      refine (xupd_any _ _ _ _ _ _ HX.out.drew HF.out.r.c HVN.out).mono ?_
      rintro e w' ⟨rfl, h', k'⟩
      have HM3 := Lib.hid (HM2.out.drew.call (MdlAt.max' h') k')
      clear h' k'
      refine hK.out _ _ (fun h => absurd h (by decide)) (fun hHeld => ?_)
      clear hK K hHeld
      (try simp only [Act.put, List.setIfInBounds_toArray, List.set_cons_zero, List.set_cons_succ])
      refine wpSchL_nil ?_
      go_wp2
      go_end0
      exact ⟨⟨_, rfl⟩, by rw [HE.out]; exact HM3.out.m, HM3.out.k⟩
    · have HE : Hid (meaM x s = x) := Lib.hid (by simp [meaM, ht, hl, hV, hb])
      clear ha hi hV ht
      have HL := Lib.hid hl
      clear hl
      go_enter Tryz.func31, Tryz.ntmps31
      go_upto_region 2 with fail
      generalize hw1 : World.alloc w _ = w1 at *
      have HM1 : Hid (SM Fm oo w g w.heap.size x s w1) := HM
      clear HM hw1
      generalize w.heap.size = B at *
      obtain ⟨a0, a1, a2, a3, a4, a5, a6, a7, a8⟩ := HM1.out.spl
      refine wp_region_sch (SM Fm oo w g B x s) [(true, 0), (true, 1), (true, 2), (true, 3), (true, 5), (true, 6), (false, 4), (false, 7), (true, 8)] (by kernel_rfl) (by kernel_rfl) (by kernel_rfl) (by kernel_rfl) HM1.out.drew ?_
      (repeat (first | (refine wpSch_yes (v := ?_) rfl (fun _ _ _ h => h) (by rfl) ?_ ?_; rotate_left; (next => (intro w hSw; obtain ⟨a0, a1, a2, a3, a4, a5, a6, a7, a8⟩ := SM.spl hSw; obtain ⟨m0, m1, m2, m3, m4, m5, m6, m7⟩ := MdlAt.own (SM.m hSw); clear hSw; go_simp; (try with_reducible rfl))); (try simp only [Act.put, List.setIfInBounds_toArray, List.set_cons_zero, List.set_cons_succ])) | (refine wpSch_no rfl (fun _ _ _ h => h) (by rfl) ?_; (try simp only [Act.put, List.setIfInBounds_toArray, List.set_cons_zero, List.set_cons_succ]))))
      refine wpSch_call rfl (by rfl) (fun K hK => ?_)
      go_simp
      refine (sub_any _ _ HS.out.d.1 HS.out.d.2 HS.out.p.1 HS.out.p.2 _).mono ?_
      rintro e w' ⟨rfl, rfl⟩
      refine hK.out _ _ HM1.out.drew (fun hHeld => ?_)
      clear hK K hHeld
      (try simp only [Act.put, List.setIfInBounds_toArray, List.set_cons_zero, List.set_cons_succ])
      refine wpSch_call rfl (by rfl) (fun K hK => ?_)
      go_simp
      refine (wmuldiv_any _ _ _ HD.out.1 HD.out.2 (by decide) (by decide) HS.out.i.1 HS.out.i.2 _).mono ?_
      rintro e w' ⟨rfl, rfl⟩
      rw [HV.out]
      refine hK.out _ _ HM1.out.drew (fun hHeld => ?_)
      clear hK K hHeld
      (try simp only [Act.put, List.setIfInBounds_toArray, List.set_cons_zero, List.set_cons_succ])
      (repeat (first | (refine wpSch_yes (v := ?_) rfl (fun _ _ _ h => h) (by rfl) ?_ ?_; rotate_left; (next => (intro w hSw; obtain ⟨a0, a1, a2, a3, a4, a5, a6, a7, a8⟩ := SM.spl hSw; obtain ⟨m0, m1, m2, m3, m4, m5, m6, m7⟩ := MdlAt.own (SM.m hSw); clear hSw; go_simp; (try with_reducible rfl))); (try simp only [Act.put, List.setIfInBounds_toArray, List.set_cons_zero, List.set_cons_succ])) | (refine wpSch_no rfl (fun _ _ _ h => h) (by rfl) ?_; (try simp only [Act.put, List.setIfInBounds_toArray, List.set_cons_zero, List.set_cons_succ]))))
      refine wpSch_nil ?_
      have HM2 := Lib.hid HM1.out.drew
      clear a0 a1 a2 a3 a4 a5 a6 a7 a8 HM1
      generalize w1.drew = w2 at *
      obtain ⟨a0, a1, a2, a3, a4, a5, a6, a7, a8⟩ := HM2.out.spl
      have HX := Lib.hid (HM2.out.m.max HF.out)
      have hl := HL.out
      go_wp2_with fail
      refine (xbest_any _ _ _ _ HX.out).mono ?_
      rintro e w' ⟨rfl, rfl⟩
      go_wp2
      go_end0
      exact ⟨⟨_, rfl⟩, by rw [HE.out]; exact HM2.out.m, HM2.out.k⟩
  · have hl0 : s.l = false := by simpa using hl
    clear hl
    have hl := hl0
    clear hl0
    have HE : Hid (meaM x s = { x with b := updT false 10 x.b x.r.c V }) := Lib.hid (by simp [meaM, ht, hl, hV])
    clear ha hi hV ht
    have HL := Lib.hid hl
    clear hl
    go_enter Tryz.func31, Tryz.ntmps31
    go_upto_region 2 with fail
    generalize hw1 : World.alloc w _ = w1 at *
    have HM1 : Hid (SM Fm oo w g w.heap.size x s w1) := HM
    clear HM hw1
    generalize w.heap.size = B at *
    obtain ⟨a0, a1, a2, a3, a4, a5, a6, a7, a8⟩ := HM1.out.spl
    refine wp_region_sch (SM Fm oo w g B x s) [(true, 0), (true, 1), (true, 2), (true, 3), (true, 5), (true, 6), (false, 4), (false, 7), (true, 8)] (by kernel_rfl) (by kernel_rfl) (by kernel_rfl) (by kernel_rfl) HM1.out.drew ?_
    (repeat (first | (refine wpSch_yes (v := ?_) rfl (fun _ _ _ h => h) (by rfl) ?_ ?_; rotate_left; (next => (intro w hSw; obtain ⟨a0, a1, a2, a3, a4, a5, a6, a7, a8⟩ := SM.spl hSw; obtain ⟨m0, m1, m2, m3, m4, m5, m6, m7⟩ := MdlAt.own (SM.m hSw); clear hSw; go_simp; (try with_reducible rfl))); (try simp only [Act.put, List.setIfInBounds_toArray, List.set_cons_zero, List.set_cons_succ])) | (refine wpSch_no rfl (fun _ _ _ h => h) (by rfl) ?_; (try simp only [Act.put, List.setIfInBounds_toArray, List.set_cons_zero, List.set_cons_succ]))))
    refine wpSch_call rfl (by rfl) (fun K hK => ?_)
    go_simp
    refine (sub_any _ _ HS.out.d.1 HS.out.d.2 HS.out.p.1 HS.out.p.2 _).mono ?_
    rintro e w' ⟨rfl, rfl⟩
    refine hK.out _ _ HM1.out.drew (fun hHeld => ?_)
    clear hK K hHeld
    (try simp only [Act.put, List.setIfInBounds_toArray, List.set_cons_zero, List.set_cons_succ])
    refine wpSch_call rfl (by rfl) (fun K hK => ?_)
    go_simp
    refine (wmuldiv_any _ _ _ HD.out.1 HD.out.2 (by decide) (by decide) HS.out.i.1 HS.out.i.2 _).mono ?_
    rintro e w' ⟨rfl, rfl⟩
    rw [HV.out]
    refine hK.out _ _ HM1.out.drew (fun hHeld => ?_)
    clear hK K hHeld
    (try simp only [Act.put, List.setIfInBounds_toArray, List.set_cons_zero, List.set_cons_succ])
    (repeat (first | (refine wpSch_yes (v := ?_) rfl (fun _ _ _ h => h) (by rfl) ?_ ?_; rotate_left; (next => (intro w hSw; obtain ⟨a0, a1, a2, a3, a4, a5, a6, a7, a8⟩ := SM.spl hSw; obtain ⟨m0, m1, m2, m3, m4, m5, m6, m7⟩ := MdlAt.own (SM.m hSw); clear hSw; go_simp; (try with_reducible rfl))); (try simp only [Act.put, List.setIfInBounds_toArray, List.set_cons_zero, List.set_cons_succ])) | (refine wpSch_no rfl (fun _ _ _ h => h) (by rfl) ?_; (try simp only [Act.put, List.setIfInBounds_toArray, List.set_cons_zero, List.set_cons_succ]))))
    refine wpSch_nil ?_
    have HM2 := Lib.hid HM1.out.drew
    clear a0 a1 a2 a3 a4 a5 a6 a7 a8 HM1
    generalize w1.drew = w2 at *
    obtain ⟨a0, a1, a2, a3, a4, a5, a6, a7, a8⟩ := HM2.out.spl
    have HX := Lib.hid (HM2.out.m.max HF.out)
    have hl := HL.out
    go_upto_region 4 with fail
    refine wp_region_late (SM Fm oo w g B x s) [8] (.yes 0 (.yes 1 (.yes 2 (.yes 3 (.yes 4 (.yes 5 (.yes 7 (.one 6 (.one 8 .nil))))))))) (by kernel_rfl) (by kernel_rfl) (by kernel_rfl) (by kernel_rfl) HM2.out.drew ?_
    (repeat (refine wpSchL_yes (v := ?_) rfl (fun _ _ _ h => h) (by rfl) ?_ ?_; rotate_left; (next => (intro w hSw; obtain ⟨a0, a1, a2, a3, a4, a5, a6, a7, a8⟩ := SM.spl hSw; obtain ⟨m0, m1, m2, m3, m4, m5, m6, m7⟩ := MdlAt.own (SM.m hSw); clear hSw; go_simp; (try with_reducible rfl))); (try simp only [Act.put, List.setIfInBounds_toArray, List.set_cons_zero, List.set_cons_succ])))
    refine wpSchL_one ?_
    refine wpOneL_call rfl (by rfl) (fun K hK => ?_)
    go_simp
    refine (rcount_any _ _ _ (HM2.out.m.rnd HF.out).drew).mono ?_
    rintro e w' ⟨rfl, rfl⟩
    refine hK.out _ _ (fun _ => HM2.out.drew) (fun hHeld => ?_)
    clear hK K hHeld
    (try simp only [Act.put, List.setIfInBounds_toArray, List.set_cons_zero, List.set_cons_succ])
    refine wpSchL_one ?_
    refine wpOneL_call rfl (by rfl) (fun K hK => ?_)
    go_simp
    refine (xupd_any _ _ _ _ _ _ HX.out.drew HF.out.r.c HVN.out).mono ?_
    rintro e w' ⟨rfl, h', k'⟩
    have HM3 := Lib.hid (HM2.out.drew.call (MdlAt.max' h') k')
    clear h' k'
    refine hK.out _ _ (fun h => absurd h (by decide)) (fun hHeld => ?_)
    clear hK K hHeld
    (try simp only [Act.put, List.setIfInBounds_toArray, List.set_cons_zero, List.set_cons_succ])
    refine wpSchL_nil ?_
    go_wp2
    go_end0
    exact ⟨⟨_, rfl⟩, by rw [HE.out]; exact HM3.out.m, HM3.out.k⟩
end Go.Proofs.YtcjgpkjhfbamfaaGreat
