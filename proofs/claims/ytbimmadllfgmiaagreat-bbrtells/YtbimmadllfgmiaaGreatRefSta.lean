/-
  The document's own model: State. Conditions: none beyond that it lies in memory as NewModel makes it.
-/
import Derived.Test.YtbimmadllfgmiaaGreatRefSM
import Derived.Test.YtbimmadllfgmiaaGreatFill10
set_option linter.unusedVariables false
set_option linter.unusedSimpArgs false
namespace Go.Proofs.YtbimmadllfgmiaaGreat
open Go.RowKit
set_option maxRecDepth 100000
set_option maxHeartbeats 4000000 in
set_option maxRecDepth 100000 in
theorem rstate_any (g k : Nat) (x : Mdl) (w : World) (h : RM w g k x (gainM x)) : Calls Tryz.prog 8 #[.pointer (some ⟨g, 0, none⟩)] w fun e w' => e = .returned (.agg (staC x)) ∧ Keep (fun _ => False) w w' := by
  have HM0 := Lib.hid (h.kept ((Keep.refl _ _).alloc (.cells #[.int .i64 0, .int .i64 0, .int .u64 0, .int .u64 0, .int .u64 0, .int .u64 0, .int .u64 0, .int .u64 0, .bool false, .bool false] 31)))
  have HZ0 := Lib.hid (Whole.new w 31 #[.int .i64 0, .int .i64 0, .int .u64 0, .int .u64 0, .int .u64 0, .int .u64 0, .int .u64 0, .int .u64 0, .bool false, .bool false])
  have HK0 := Lib.hid ((Keep.refl (fun _ => False) w).alloc (.cells #[.int .i64 0, .int .i64 0, .int .u64 0, .int .u64 0, .int .u64 0, .int .u64 0, .int .u64 0, .int .u64 0, .bool false, .bool false] 31))
  clear h
  go_enter Tryz.func8, Tryz.ntmps8
  go_upto_region 1 with fail
  generalize hw1 : World.alloc w _ = w1 at *
  generalize hB : w.heap.size = B at HZ0 ⊢
  have HBB : Hid (w.heap.size ≤ B) := Lib.hid (by omega)
  clear hw1 hB
  have HM1 := Lib.hid HM0.out.drew
  clear HM0
  refine wp_region_late (fun W => RM W g k x (gainM x)) [44] (.yes 0 (.yes 1 (.yes 2 (.yes 3 (.yes 4 (.yes 5 (.yes 6 (.yes 7 (.yes 8 (.yes 9 (.yes 10 (.yes 11 (.yes 12 (.yes 14 (.yes 15 (.yes 16 (.yes 17 (.yes 18 (.yes 19 (.yes 20 (.yes 21 (.yes 22 (.yes 23 (.yes 24 (.yes 25 (.yes 26 (.yes 27 (.yes 28 (.yes 29 (.yes 30 (.yes 31 (.yes 32 (.yes 33 (.yes 34 (.yes 35 (.yes 36 (.yes 37 (.yes 38 (.yes 39 (.yes 40 (.yes 41 (.yes 42 (.one 13 (.yes 43 (.one 44 .nil))))))))))))))))))))))))))))))))))))))))))))) (by kernel_rfl) (by kernel_rfl) (by kernel_rfl) (by kernel_rfl) HM1.out ?_
  (repeat (refine wpSchL_yes (v := ?_) rfl (fun _ _ _ h => h) (by rfl) ?_ ?_; rotate_left; (next => (intro w hSw; obtain ⟨c0, c1, c2, c3, c4, c5, c6, c7⟩ := RM.own hSw; obtain ⟨m0, m1, m2, m3, m4, m5, m6, m7⟩ := RM.own' hSw; clear hSw; go_simp; (try with_reducible rfl))); (try simp only [Act.put, List.setIfInBounds_toArray, List.set_cons_zero, List.set_cons_succ])))
  refine wpSchL_one ?_
  refine wpOneL_call rfl (by rfl) (fun K hK => ?_)
  go_simp
  refine (rbw_any _ HM1.out).mono ?_
  rintro e w' ⟨rfl, rfl⟩
  refine hK.out _ _ (fun _ => HM1.out) (fun hHeld => ?_)
  clear hK K hHeld
  (try simp only [Act.put, List.setIfInBounds_toArray, List.set_cons_zero, List.set_cons_succ])
  generalize hV : bwM x = V at *
  generalize hG : gainM x = G at *
  generalize hFF : fullP x.p = F at *
  have HV := Lib.hid hV; have HG := Lib.hid hG; have HFF := Lib.hid hFF
  clear hV hG hFF
  (repeat (refine wpSchL_yes (v := ?_) rfl (fun _ _ _ h => h) (by rfl) ?_ ?_; rotate_left; (next => (intro w hSw; obtain ⟨c0, c1, c2, c3, c4, c5, c6, c7⟩ := RM.own hSw; obtain ⟨m0, m1, m2, m3, m4, m5, m6, m7⟩ := RM.own' hSw; clear hSw; go_simp; (try with_reducible rfl))); (try simp only [Act.put, List.setIfInBounds_toArray, List.set_cons_zero, List.set_cons_succ])))
  obtain ⟨⟨p0, q0⟩, ⟨p1, q1⟩, ⟨p2, q2⟩, ⟨p3, q3⟩, ⟨p4, q4⟩, ⟨p5, q5⟩, ⟨p6, q6⟩, ⟨p7, q7⟩, ⟨p8, q8⟩, ⟨p9, q9⟩, pw, pk⟩ := HZ0.out.fill10 (.int .i64 x.m) (.int .i64 x.c.p) (.int .u64 x.t) (.int .u64 x.w) (.int .u64 V) (.int .u64 x.q.b) (.int .u64 G) (.int .u64 x.r.c) (.bool F) (.bool x.o.u)
  have PW := Lib.hid pw.drew; have PK := Lib.hid (HK0.out.then pk (fun i e hl => by have := HBB.out; omega)).drew
  clear pw pk HZ0 HK0
  refine wpSchL_one ?_
  refine wpOneL_call rfl (by rfl) (fun K hK => ?_)
  go_simp
  refine hK.out _ _ (fun h => absurd h (by decide)) (fun hHeld => ?_)
  clear hK K hHeld
  (try simp only [Act.put, List.setIfInBounds_toArray, List.set_cons_zero, List.set_cons_succ])
  clear p0 q0 p1 q1 p2 q2 p3 q3 p4 q4 p5 q5 p6 q6 p7 q7 p8 q8 p9 q9 HM1
  generalize World.drew _ = w3 at *
  refine wpSchL_nil ?_
  have z0 : w3.cell? ⟨B, 0, none⟩ = some (.int .i64 x.m) := PW.out.cell 0
  have z1 : w3.cell? ⟨B, 1, none⟩ = some (.int .i64 x.c.p) := PW.out.cell 1
  have z2 : w3.cell? ⟨B, 2, none⟩ = some (.int .u64 x.t) := PW.out.cell 2
  have z3 : w3.cell? ⟨B, 3, none⟩ = some (.int .u64 x.w) := PW.out.cell 3
  have z4 : w3.cell? ⟨B, 4, none⟩ = some (.int .u64 V) := PW.out.cell 4
  have z5 : w3.cell? ⟨B, 5, none⟩ = some (.int .u64 x.q.b) := PW.out.cell 5
  have z6 : w3.cell? ⟨B, 6, none⟩ = some (.int .u64 G) := PW.out.cell 6
  have z7 : w3.cell? ⟨B, 7, none⟩ = some (.int .u64 x.r.c) := PW.out.cell 7
  have z8 : w3.cell? ⟨B, 8, none⟩ = some (.bool F) := PW.out.cell 8
  have z9 : w3.cell? ⟨B, 9, none⟩ = some (.bool x.o.u) := PW.out.cell 9
  go_wp2
  refine bodyPost_ret (v := .agg #[.int .i64 x.m, .int .i64 x.c.p, .int .u64 x.t, .int .u64 x.w, .int .u64 V, .int .u64 x.q.b, .int .u64 G, .int .u64 x.r.c, .bool F, .bool x.o.u]) (by rw [results_cell1 rfl]; go_simp) rfl ?_
  exact ⟨by rw [← HV.out, ← HG.out, ← HFF.out], PK.out⟩
end Go.Proofs.YtbimmadllfgmiaaGreat
