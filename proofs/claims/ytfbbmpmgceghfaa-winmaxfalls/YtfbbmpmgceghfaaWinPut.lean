/-
  Package winmax's fill and shift: what they leave. Conditions: the window lies in memory as New makes it.
-/
import Derived.Test.YtfbbmpmgceghfaaWin
namespace Go.Proofs.Ytfbbmpmgceghfaa
open Go.RowKit
set_option maxRecDepth 100000
set_option maxHeartbeats 1000000 in
theorem fill2_any (g : Nat) (T : TypeId) (c0 c1 a0 a1 a2 a3 a4 a5 : Value) (t v : Int) (w : World) (h : Whole w g T #[c0, c1, a0, a1, a2, a3, a4, a5]) :
    Calls Try.prog 51 #[.pointer (some ⟨g, 0, none⟩), .int .i64 2, .agg #[.int .u64 t, .int .u64 v]] w fun e w' => (∃ v, e = .returned v) ∧ Whole w' g T #[c0, c1, a0, a1, a2, a3, .int .u64 t, .int .u64 v] ∧ Keep (fun k => k = g) w w' := by
  have hlt := h.lt
  have H := Lib.hid h; clear h
  go_enter Try.func51, Try.ntmps51
  go_wp2
  have B2 := Lib.hid (Whole.new w 73 #[.int .u64 t, .int .u64 v])
  have H2 := Lib.hid (H.out.alloc (.cells #[.int .u64 t, .int .u64 v] 73))
  have K2 := Lib.hid ((Keep.refl (fun k => k = g) w).alloc (.cells #[.int .u64 t, .int .u64 v] 73))
  generalize hw2 : w.alloc _ = w2 at *
  have hb : g ≠ w.heap.size := by omega
  generalize w.heap.size = b at *
  clear hw2 hlt H
  refine wp_loop_rounds 2 ?_
  rw [rounds_succ]
  go_wp2
  have f2 := H2.out.free 6
  have e2 : w2.cell? ⟨g, 6, none⟩ = some (a4) := H2.out.cell 6
  have f2' := (H2.out.put 6 (.int .u64 t)).free 7
  have e2' : (w2.setCell ⟨g, 6, none⟩ (.int .u64 t)).cell? ⟨g, 7, none⟩ = some (a5) := (H2.out.put 6 (.int .u64 t)).cell 7
  refine wp_region_sch (fun W => W.cell? ⟨b, 0, none⟩ = some (.int .u64 t) ∧ W.cell? ⟨b, 1, none⟩ = some (.int .u64 v)) [(true, 0), (true, 1), (true, 2), (true, 3), (true, 4), (true, 5), (false, 6)] (by kernel_rfl) (by kernel_rfl) (by kernel_rfl) (by kernel_rfl) ⟨B2.out.drew.cell 0, B2.out.drew.cell 1⟩ ?_
  (repeat (refine wpSch_yes (v := ?_) rfl (fun _ _ _ h => h) (by rfl) ?_ ?_; rotate_left; (next => (intro w hSw; (try dsimp only at hSw); obtain ⟨hS1, hS2⟩ := hSw; go_simp; (try with_reducible rfl))); (try simp only [Act.put, List.setIfInBounds_toArray, List.set_cons_zero, List.set_cons_succ])))
  refine wpSch_call rfl (by rfl) (fun K hK => ?_)
  go_simp
  have B3 : Hid (Whole ((w2.setCell ⟨g, 6, none⟩ (.int .u64 t)).setCell ⟨g, 7, none⟩ (.int .u64 v)).drew b 73 #[.int .u64 t, .int .u64 v]) := Lib.hid (((B2.out.far (p := ⟨g, 6, none⟩) hb.symm _).far (p := ⟨g, 7, none⟩) hb.symm _).drew)
  have H3 : Hid (Whole ((w2.setCell ⟨g, 6, none⟩ (.int .u64 t)).setCell ⟨g, 7, none⟩ (.int .u64 v)).drew g T #[c0, c1, a0, a1, a2, a3, .int .u64 t, .int .u64 v]) := Lib.hid ((H2.out.put 6 (.int .u64 t)).put 7 (.int .u64 v)).drew
  have K3 : Hid (Keep (fun k => k = g) w (((w2.setCell ⟨g, 6, none⟩ (.int .u64 t)).setCell ⟨g, 7, none⟩ (.int .u64 v)).drew)) := Lib.hid ((K2.out.setCell (p := ⟨g, 6, none⟩) (.inl rfl) _).setCell (p := ⟨g, 7, none⟩) (.inl rfl) _).drew
  refine hK.out _ _ ⟨B3.out.cell 0, B3.out.cell 1⟩ (fun hHeld => ?_)
  clear hK K hHeld f2 e2 f2' e2' B2 H2 K2
  (try simp only [Act.put, List.setIfInBounds_toArray, List.set_cons_zero, List.set_cons_succ])
  generalize hw3 : World.drew _ = w3 at *
  clear hw3
  refine wpSch_nil ?_
  go_wp2
  rw [rounds_succ]
  go_wp2
  go_end0
  exact ⟨⟨_, rfl⟩, H3.out, K3.out⟩
set_option maxHeartbeats 1000000 in
theorem fill1_any (g : Nat) (T : TypeId) (c0 c1 a0 a1 a2 a3 a4 a5 : Value) (t v : Int) (w : World) (h : Whole w g T #[c0, c1, a0, a1, a2, a3, a4, a5]) :
    Calls Try.prog 51 #[.pointer (some ⟨g, 0, none⟩), .int .i64 1, .agg #[.int .u64 t, .int .u64 v]] w fun e w' => (∃ v, e = .returned v) ∧ Whole w' g T #[c0, c1, a0, a1, .int .u64 t, .int .u64 v, .int .u64 t, .int .u64 v] ∧ Keep (fun k => k = g) w w' := by
  have hlt := h.lt
  have H := Lib.hid h; clear h
  go_enter Try.func51, Try.ntmps51
  go_wp2
  have B1 := Lib.hid (Whole.new w 73 #[.int .u64 t, .int .u64 v])
  have H1 := Lib.hid (H.out.alloc (.cells #[.int .u64 t, .int .u64 v] 73))
  have K1 := Lib.hid ((Keep.refl (fun k => k = g) w).alloc (.cells #[.int .u64 t, .int .u64 v] 73))
  generalize hw1 : w.alloc _ = w1 at *
  have hb : g ≠ w.heap.size := by omega
  generalize w.heap.size = b at *
  clear hw1 hlt H
  refine wp_loop_rounds 3 ?_
  rw [rounds_succ]
  go_wp2
  have f1 := H1.out.free 4
  have e1 : w1.cell? ⟨g, 4, none⟩ = some (a2) := H1.out.cell 4
  have f1' := (H1.out.put 4 (.int .u64 t)).free 5
  have e1' : (w1.setCell ⟨g, 4, none⟩ (.int .u64 t)).cell? ⟨g, 5, none⟩ = some (a3) := (H1.out.put 4 (.int .u64 t)).cell 5
  refine wp_region_sch (fun W => W.cell? ⟨b, 0, none⟩ = some (.int .u64 t) ∧ W.cell? ⟨b, 1, none⟩ = some (.int .u64 v)) [(true, 0), (true, 1), (true, 2), (true, 3), (true, 4), (true, 5), (false, 6)] (by kernel_rfl) (by kernel_rfl) (by kernel_rfl) (by kernel_rfl) ⟨B1.out.drew.cell 0, B1.out.drew.cell 1⟩ ?_
  (repeat (refine wpSch_yes (v := ?_) rfl (fun _ _ _ h => h) (by rfl) ?_ ?_; rotate_left; (next => (intro w hSw; (try dsimp only at hSw); obtain ⟨hS1, hS2⟩ := hSw; go_simp; (try with_reducible rfl))); (try simp only [Act.put, List.setIfInBounds_toArray, List.set_cons_zero, List.set_cons_succ])))
  refine wpSch_call rfl (by rfl) (fun K hK => ?_)
  go_simp
  have B2 : Hid (Whole ((w1.setCell ⟨g, 4, none⟩ (.int .u64 t)).setCell ⟨g, 5, none⟩ (.int .u64 v)).drew b 73 #[.int .u64 t, .int .u64 v]) := Lib.hid (((B1.out.far (p := ⟨g, 4, none⟩) hb.symm _).far (p := ⟨g, 5, none⟩) hb.symm _).drew)
  have H2 : Hid (Whole ((w1.setCell ⟨g, 4, none⟩ (.int .u64 t)).setCell ⟨g, 5, none⟩ (.int .u64 v)).drew g T #[c0, c1, a0, a1, .int .u64 t, .int .u64 v, a4, a5]) := Lib.hid ((H1.out.put 4 (.int .u64 t)).put 5 (.int .u64 v)).drew
  have K2 : Hid (Keep (fun k => k = g) w (((w1.setCell ⟨g, 4, none⟩ (.int .u64 t)).setCell ⟨g, 5, none⟩ (.int .u64 v)).drew)) := Lib.hid ((K1.out.setCell (p := ⟨g, 4, none⟩) (.inl rfl) _).setCell (p := ⟨g, 5, none⟩) (.inl rfl) _).drew
  refine hK.out _ _ ⟨B2.out.cell 0, B2.out.cell 1⟩ (fun hHeld => ?_)
  clear hK K hHeld f1 e1 f1' e1' B1 H1 K1
  (try simp only [Act.put, List.setIfInBounds_toArray, List.set_cons_zero, List.set_cons_succ])
  generalize hw2 : World.drew _ = w2 at *
  clear hw2
  refine wpSch_nil ?_
  go_wp2
  rw [rounds_succ]
  go_wp2
  have f2 := H2.out.free 6
  have e2 : w2.cell? ⟨g, 6, none⟩ = some (a4) := H2.out.cell 6
  have f2' := (H2.out.put 6 (.int .u64 t)).free 7
  have e2' : (w2.setCell ⟨g, 6, none⟩ (.int .u64 t)).cell? ⟨g, 7, none⟩ = some (a5) := (H2.out.put 6 (.int .u64 t)).cell 7
  refine wp_region_sch (fun W => W.cell? ⟨b, 0, none⟩ = some (.int .u64 t) ∧ W.cell? ⟨b, 1, none⟩ = some (.int .u64 v)) [(true, 0), (true, 1), (true, 2), (true, 3), (true, 4), (true, 5), (false, 6)] (by kernel_rfl) (by kernel_rfl) (by kernel_rfl) (by kernel_rfl) ⟨B2.out.drew.cell 0, B2.out.drew.cell 1⟩ ?_
  (repeat (refine wpSch_yes (v := ?_) rfl (fun _ _ _ h => h) (by rfl) ?_ ?_; rotate_left; (next => (intro w hSw; (try dsimp only at hSw); obtain ⟨hS1, hS2⟩ := hSw; go_simp; (try with_reducible rfl))); (try simp only [Act.put, List.setIfInBounds_toArray, List.set_cons_zero, List.set_cons_succ])))
  refine wpSch_call rfl (by rfl) (fun K hK => ?_)
  go_simp
  have B3 : Hid (Whole ((w2.setCell ⟨g, 6, none⟩ (.int .u64 t)).setCell ⟨g, 7, none⟩ (.int .u64 v)).drew b 73 #[.int .u64 t, .int .u64 v]) := Lib.hid (((B2.out.far (p := ⟨g, 6, none⟩) hb.symm _).far (p := ⟨g, 7, none⟩) hb.symm _).drew)
  have H3 : Hid (Whole ((w2.setCell ⟨g, 6, none⟩ (.int .u64 t)).setCell ⟨g, 7, none⟩ (.int .u64 v)).drew g T #[c0, c1, a0, a1, .int .u64 t, .int .u64 v, .int .u64 t, .int .u64 v]) := Lib.hid ((H2.out.put 6 (.int .u64 t)).put 7 (.int .u64 v)).drew
  have K3 : Hid (Keep (fun k => k = g) w (((w2.setCell ⟨g, 6, none⟩ (.int .u64 t)).setCell ⟨g, 7, none⟩ (.int .u64 v)).drew)) := Lib.hid ((K2.out.setCell (p := ⟨g, 6, none⟩) (.inl rfl) _).setCell (p := ⟨g, 7, none⟩) (.inl rfl) _).drew
  refine hK.out _ _ ⟨B3.out.cell 0, B3.out.cell 1⟩ (fun hHeld => ?_)
  clear hK K hHeld f2 e2 f2' e2' B2 H2 K2
  (try simp only [Act.put, List.setIfInBounds_toArray, List.set_cons_zero, List.set_cons_succ])
  generalize hw3 : World.drew _ = w3 at *
  clear hw3
  refine wpSch_nil ?_
  go_wp2
  rw [rounds_succ]
  go_wp2
  go_end0
  exact ⟨⟨_, rfl⟩, H3.out, K3.out⟩
set_option maxHeartbeats 1000000 in
theorem fill0_any (g : Nat) (T : TypeId) (c0 c1 a0 a1 a2 a3 a4 a5 : Value) (t v : Int) (w : World) (h : Whole w g T #[c0, c1, a0, a1, a2, a3, a4, a5]) :
    Calls Try.prog 51 #[.pointer (some ⟨g, 0, none⟩), .int .i64 0, .agg #[.int .u64 t, .int .u64 v]] w fun e w' => (∃ v, e = .returned v) ∧ Whole w' g T #[c0, c1, .int .u64 t, .int .u64 v, .int .u64 t, .int .u64 v, .int .u64 t, .int .u64 v] ∧ Keep (fun k => k = g) w w' := by
  have hlt := h.lt
  have H := Lib.hid h; clear h
  go_enter Try.func51, Try.ntmps51
  go_wp2
  have B0 := Lib.hid (Whole.new w 73 #[.int .u64 t, .int .u64 v])
  have H0 := Lib.hid (H.out.alloc (.cells #[.int .u64 t, .int .u64 v] 73))
  have K0 := Lib.hid ((Keep.refl (fun k => k = g) w).alloc (.cells #[.int .u64 t, .int .u64 v] 73))
  generalize hw0 : w.alloc _ = w0 at *
  have hb : g ≠ w.heap.size := by omega
  generalize w.heap.size = b at *
  clear hw0 hlt H
  refine wp_loop_rounds 4 ?_
  rw [rounds_succ]
  go_wp2
  have f0 := H0.out.free 2
  have e0 : w0.cell? ⟨g, 2, none⟩ = some (a0) := H0.out.cell 2
  have f0' := (H0.out.put 2 (.int .u64 t)).free 3
  have e0' : (w0.setCell ⟨g, 2, none⟩ (.int .u64 t)).cell? ⟨g, 3, none⟩ = some (a1) := (H0.out.put 2 (.int .u64 t)).cell 3
  refine wp_region_sch (fun W => W.cell? ⟨b, 0, none⟩ = some (.int .u64 t) ∧ W.cell? ⟨b, 1, none⟩ = some (.int .u64 v)) [(true, 0), (true, 1), (true, 2), (true, 3), (true, 4), (true, 5), (false, 6)] (by kernel_rfl) (by kernel_rfl) (by kernel_rfl) (by kernel_rfl) ⟨B0.out.drew.cell 0, B0.out.drew.cell 1⟩ ?_
  (repeat (refine wpSch_yes (v := ?_) rfl (fun _ _ _ h => h) (by rfl) ?_ ?_; rotate_left; (next => (intro w hSw; (try dsimp only at hSw); obtain ⟨hS1, hS2⟩ := hSw; go_simp; (try with_reducible rfl))); (try simp only [Act.put, List.setIfInBounds_toArray, List.set_cons_zero, List.set_cons_succ])))
  refine wpSch_call rfl (by rfl) (fun K hK => ?_)
  go_simp
  have B1 : Hid (Whole ((w0.setCell ⟨g, 2, none⟩ (.int .u64 t)).setCell ⟨g, 3, none⟩ (.int .u64 v)).drew b 73 #[.int .u64 t, .int .u64 v]) := Lib.hid (((B0.out.far (p := ⟨g, 2, none⟩) hb.symm _).far (p := ⟨g, 3, none⟩) hb.symm _).drew)
  have H1 : Hid (Whole ((w0.setCell ⟨g, 2, none⟩ (.int .u64 t)).setCell ⟨g, 3, none⟩ (.int .u64 v)).drew g T #[c0, c1, .int .u64 t, .int .u64 v, a2, a3, a4, a5]) := Lib.hid ((H0.out.put 2 (.int .u64 t)).put 3 (.int .u64 v)).drew
  have K1 : Hid (Keep (fun k => k = g) w (((w0.setCell ⟨g, 2, none⟩ (.int .u64 t)).setCell ⟨g, 3, none⟩ (.int .u64 v)).drew)) := Lib.hid ((K0.out.setCell (p := ⟨g, 2, none⟩) (.inl rfl) _).setCell (p := ⟨g, 3, none⟩) (.inl rfl) _).drew
  refine hK.out _ _ ⟨B1.out.cell 0, B1.out.cell 1⟩ (fun hHeld => ?_)
  clear hK K hHeld f0 e0 f0' e0' B0 H0 K0
  (try simp only [Act.put, List.setIfInBounds_toArray, List.set_cons_zero, List.set_cons_succ])
  generalize hw1 : World.drew _ = w1 at *
  clear hw1
  refine wpSch_nil ?_
  go_wp2
  rw [rounds_succ]
  go_wp2
  have f1 := H1.out.free 4
  have e1 : w1.cell? ⟨g, 4, none⟩ = some (a2) := H1.out.cell 4
  have f1' := (H1.out.put 4 (.int .u64 t)).free 5
  have e1' : (w1.setCell ⟨g, 4, none⟩ (.int .u64 t)).cell? ⟨g, 5, none⟩ = some (a3) := (H1.out.put 4 (.int .u64 t)).cell 5
  refine wp_region_sch (fun W => W.cell? ⟨b, 0, none⟩ = some (.int .u64 t) ∧ W.cell? ⟨b, 1, none⟩ = some (.int .u64 v)) [(true, 0), (true, 1), (true, 2), (true, 3), (true, 4), (true, 5), (false, 6)] (by kernel_rfl) (by kernel_rfl) (by kernel_rfl) (by kernel_rfl) ⟨B1.out.drew.cell 0, B1.out.drew.cell 1⟩ ?_
  (repeat (refine wpSch_yes (v := ?_) rfl (fun _ _ _ h => h) (by rfl) ?_ ?_; rotate_left; (next => (intro w hSw; (try dsimp only at hSw); obtain ⟨hS1, hS2⟩ := hSw; go_simp; (try with_reducible rfl))); (try simp only [Act.put, List.setIfInBounds_toArray, List.set_cons_zero, List.set_cons_succ])))
  refine wpSch_call rfl (by rfl) (fun K hK => ?_)
  go_simp
  have B2 : Hid (Whole ((w1.setCell ⟨g, 4, none⟩ (.int .u64 t)).setCell ⟨g, 5, none⟩ (.int .u64 v)).drew b 73 #[.int .u64 t, .int .u64 v]) := Lib.hid (((B1.out.far (p := ⟨g, 4, none⟩) hb.symm _).far (p := ⟨g, 5, none⟩) hb.symm _).drew)
  have H2 : Hid (Whole ((w1.setCell ⟨g, 4, none⟩ (.int .u64 t)).setCell ⟨g, 5, none⟩ (.int .u64 v)).drew g T #[c0, c1, .int .u64 t, .int .u64 v, .int .u64 t, .int .u64 v, a4, a5]) := Lib.hid ((H1.out.put 4 (.int .u64 t)).put 5 (.int .u64 v)).drew
  have K2 : Hid (Keep (fun k => k = g) w (((w1.setCell ⟨g, 4, none⟩ (.int .u64 t)).setCell ⟨g, 5, none⟩ (.int .u64 v)).drew)) := Lib.hid ((K1.out.setCell (p := ⟨g, 4, none⟩) (.inl rfl) _).setCell (p := ⟨g, 5, none⟩) (.inl rfl) _).drew
  refine hK.out _ _ ⟨B2.out.cell 0, B2.out.cell 1⟩ (fun hHeld => ?_)
  clear hK K hHeld f1 e1 f1' e1' B1 H1 K1
  (try simp only [Act.put, List.setIfInBounds_toArray, List.set_cons_zero, List.set_cons_succ])
  generalize hw2 : World.drew _ = w2 at *
  clear hw2
  refine wpSch_nil ?_
  go_wp2
  rw [rounds_succ]
  go_wp2
  have f2 := H2.out.free 6
  have e2 : w2.cell? ⟨g, 6, none⟩ = some (a4) := H2.out.cell 6
  have f2' := (H2.out.put 6 (.int .u64 t)).free 7
  have e2' : (w2.setCell ⟨g, 6, none⟩ (.int .u64 t)).cell? ⟨g, 7, none⟩ = some (a5) := (H2.out.put 6 (.int .u64 t)).cell 7
  refine wp_region_sch (fun W => W.cell? ⟨b, 0, none⟩ = some (.int .u64 t) ∧ W.cell? ⟨b, 1, none⟩ = some (.int .u64 v)) [(true, 0), (true, 1), (true, 2), (true, 3), (true, 4), (true, 5), (false, 6)] (by kernel_rfl) (by kernel_rfl) (by kernel_rfl) (by kernel_rfl) ⟨B2.out.drew.cell 0, B2.out.drew.cell 1⟩ ?_
  (repeat (refine wpSch_yes (v := ?_) rfl (fun _ _ _ h => h) (by rfl) ?_ ?_; rotate_left; (next => (intro w hSw; (try dsimp only at hSw); obtain ⟨hS1, hS2⟩ := hSw; go_simp; (try with_reducible rfl))); (try simp only [Act.put, List.setIfInBounds_toArray, List.set_cons_zero, List.set_cons_succ])))
  refine wpSch_call rfl (by rfl) (fun K hK => ?_)
  go_simp
  have B3 : Hid (Whole ((w2.setCell ⟨g, 6, none⟩ (.int .u64 t)).setCell ⟨g, 7, none⟩ (.int .u64 v)).drew b 73 #[.int .u64 t, .int .u64 v]) := Lib.hid (((B2.out.far (p := ⟨g, 6, none⟩) hb.symm _).far (p := ⟨g, 7, none⟩) hb.symm _).drew)
  have H3 : Hid (Whole ((w2.setCell ⟨g, 6, none⟩ (.int .u64 t)).setCell ⟨g, 7, none⟩ (.int .u64 v)).drew g T #[c0, c1, .int .u64 t, .int .u64 v, .int .u64 t, .int .u64 v, .int .u64 t, .int .u64 v]) := Lib.hid ((H2.out.put 6 (.int .u64 t)).put 7 (.int .u64 v)).drew
  have K3 : Hid (Keep (fun k => k = g) w (((w2.setCell ⟨g, 6, none⟩ (.int .u64 t)).setCell ⟨g, 7, none⟩ (.int .u64 v)).drew)) := Lib.hid ((K2.out.setCell (p := ⟨g, 6, none⟩) (.inl rfl) _).setCell (p := ⟨g, 7, none⟩) (.inl rfl) _).drew
  refine hK.out _ _ ⟨B3.out.cell 0, B3.out.cell 1⟩ (fun hHeld => ?_)
  clear hK K hHeld f2 e2 f2' e2' B2 H2 K2
  (try simp only [Act.put, List.setIfInBounds_toArray, List.set_cons_zero, List.set_cons_succ])
  generalize hw3 : World.drew _ = w3 at *
  clear hw3
  refine wpSch_nil ?_
  go_wp2
  rw [rounds_succ]
  go_wp2
  go_end0
  exact ⟨⟨_, rfl⟩, H3.out, K3.out⟩
set_option maxHeartbeats 1000000 in
theorem xshift_any (g : Nat) (T : TypeId) (c0 c1 a0 a1 : Value) (i2 i3 i4 i5 : Int) (t v : Int) (w : World) (h : Whole w g T #[c0, c1, a0, a1, .int .u64 i2, .int .u64 i3, .int .u64 i4, .int .u64 i5]) :
    Calls Try.prog 52 #[.pointer (some ⟨g, 0, none⟩), .agg #[.int .u64 t, .int .u64 v]] w fun e w' => (∃ v, e = .returned v) ∧ Whole w' g T #[c0, c1, .int .u64 i2, .int .u64 i3, .int .u64 i4, .int .u64 i5, .int .u64 t, .int .u64 v] ∧ Keep (fun k => k = g) w w' := by
  have hlt := h.lt
  have H := Lib.hid h; clear h
  go_enter Try.func52, Try.ntmps52
  go_wp2
  have B1 := Lib.hid (Whole.new w 73 #[.int .u64 t, .int .u64 v])
  have H1 := Lib.hid (H.out.alloc (.cells #[.int .u64 t, .int .u64 v] 73))
  have K1 := Lib.hid ((Keep.refl (fun k => k = g) w).alloc (.cells #[.int .u64 t, .int .u64 v] 73))
  generalize hw1 : w.alloc _ = w1 at *
  have hb : g ≠ w.heap.size := by omega
  generalize w.heap.size = b at *
  clear hw1 hlt H
  have HS : Hid (w1.cell? ⟨g, 4, none⟩ = some (.int .u64 i2) ∧ w1.cell? ⟨g, 5, none⟩ = some (.int .u64 i3) ∧ w1.cell? ⟨g, 6, none⟩ = some (.int .u64 i4) ∧ w1.cell? ⟨g, 7, none⟩ = some (.int .u64 i5) ∧ w1.cell? ⟨b, 0, none⟩ = some (.int .u64 t) ∧ w1.cell? ⟨b, 1, none⟩ = some (.int .u64 v)) := Lib.hid ⟨H1.out.cell 4, H1.out.cell 5, H1.out.cell 6, H1.out.cell 7, B1.out.cell 0, B1.out.cell 1⟩
  have x0 := H1.out
  have p0 : w1.cell? ⟨g, 2, none⟩ = some (a0) := x0.cell 2
  have q0 := x0.free 2
  have x1 : Whole (w1.setCell ⟨g, 2, none⟩ (.int .u64 i2)) g T #[c0, c1, .int .u64 i2, a1, .int .u64 i2, .int .u64 i3, .int .u64 i4, .int .u64 i5] := x0.put 2 _
  have p1 : (w1.setCell ⟨g, 2, none⟩ (.int .u64 i2)).cell? ⟨g, 3, none⟩ = some (a1) := x1.cell 3
  have q1 := x1.free 3
  have x2 : Whole ((w1.setCell ⟨g, 2, none⟩ (.int .u64 i2)).setCell ⟨g, 3, none⟩ (.int .u64 i3)) g T #[c0, c1, .int .u64 i2, .int .u64 i3, .int .u64 i2, .int .u64 i3, .int .u64 i4, .int .u64 i5] := x1.put 3 _
  have p2 : ((w1.setCell ⟨g, 2, none⟩ (.int .u64 i2)).setCell ⟨g, 3, none⟩ (.int .u64 i3)).cell? ⟨g, 4, none⟩ = some (.int .u64 i2) := x2.cell 4
  have q2 := x2.free 4
  have x3 : Whole (((w1.setCell ⟨g, 2, none⟩ (.int .u64 i2)).setCell ⟨g, 3, none⟩ (.int .u64 i3)).setCell ⟨g, 4, none⟩ (.int .u64 i4)) g T #[c0, c1, .int .u64 i2, .int .u64 i3, .int .u64 i4, .int .u64 i3, .int .u64 i4, .int .u64 i5] := x2.put 4 _
  have p3 : (((w1.setCell ⟨g, 2, none⟩ (.int .u64 i2)).setCell ⟨g, 3, none⟩ (.int .u64 i3)).setCell ⟨g, 4, none⟩ (.int .u64 i4)).cell? ⟨g, 5, none⟩ = some (.int .u64 i3) := x3.cell 5
  have q3 := x3.free 5
  have x4 : Whole ((((w1.setCell ⟨g, 2, none⟩ (.int .u64 i2)).setCell ⟨g, 3, none⟩ (.int .u64 i3)).setCell ⟨g, 4, none⟩ (.int .u64 i4)).setCell ⟨g, 5, none⟩ (.int .u64 i5)) g T #[c0, c1, .int .u64 i2, .int .u64 i3, .int .u64 i4, .int .u64 i5, .int .u64 i4, .int .u64 i5] := x3.put 5 _
  have p4 : ((((w1.setCell ⟨g, 2, none⟩ (.int .u64 i2)).setCell ⟨g, 3, none⟩ (.int .u64 i3)).setCell ⟨g, 4, none⟩ (.int .u64 i4)).setCell ⟨g, 5, none⟩ (.int .u64 i5)).cell? ⟨g, 6, none⟩ = some (.int .u64 i4) := x4.cell 6
  have q4 := x4.free 6
  have x5 : Whole (((((w1.setCell ⟨g, 2, none⟩ (.int .u64 i2)).setCell ⟨g, 3, none⟩ (.int .u64 i3)).setCell ⟨g, 4, none⟩ (.int .u64 i4)).setCell ⟨g, 5, none⟩ (.int .u64 i5)).setCell ⟨g, 6, none⟩ (.int .u64 t)) g T #[c0, c1, .int .u64 i2, .int .u64 i3, .int .u64 i4, .int .u64 i5, .int .u64 t, .int .u64 i5] := x4.put 6 _
  have p5 : (((((w1.setCell ⟨g, 2, none⟩ (.int .u64 i2)).setCell ⟨g, 3, none⟩ (.int .u64 i3)).setCell ⟨g, 4, none⟩ (.int .u64 i4)).setCell ⟨g, 5, none⟩ (.int .u64 i5)).setCell ⟨g, 6, none⟩ (.int .u64 t)).cell? ⟨g, 7, none⟩ = some (.int .u64 i5) := x5.cell 7
  have q5 := x5.free 7
  have x6 : Whole ((((((w1.setCell ⟨g, 2, none⟩ (.int .u64 i2)).setCell ⟨g, 3, none⟩ (.int .u64 i3)).setCell ⟨g, 4, none⟩ (.int .u64 i4)).setCell ⟨g, 5, none⟩ (.int .u64 i5)).setCell ⟨g, 6, none⟩ (.int .u64 t)).setCell ⟨g, 7, none⟩ (.int .u64 v)) g T #[c0, c1, .int .u64 i2, .int .u64 i3, .int .u64 i4, .int .u64 i5, .int .u64 t, .int .u64 v] := x5.put 7 _
  have H2 := Lib.hid x6.drew
  have K2 : Hid (Keep (fun k => k = g) w ((((((w1.setCell ⟨g, 2, none⟩ (.int .u64 i2)).setCell ⟨g, 3, none⟩ (.int .u64 i3)).setCell ⟨g, 4, none⟩ (.int .u64 i4)).setCell ⟨g, 5, none⟩ (.int .u64 i5)).setCell ⟨g, 6, none⟩ (.int .u64 t)).setCell ⟨g, 7, none⟩ (.int .u64 v)).drew) := Lib.hid (K1.out.setCell (p := ⟨g, 2, none⟩) (.inl rfl) _ |>.setCell (p := ⟨g, 3, none⟩) (.inl rfl) _ |>.setCell (p := ⟨g, 4, none⟩) (.inl rfl) _ |>.setCell (p := ⟨g, 5, none⟩) (.inl rfl) _ |>.setCell (p := ⟨g, 6, none⟩) (.inl rfl) _ |>.setCell (p := ⟨g, 7, none⟩) (.inl rfl) _ |>.drew)
  clear x0 x1 x2 x3 x4 x5 x6 H1 B1
  refine wp_region_late (fun W => W.cell? ⟨g, 4, none⟩ = some (.int .u64 i2) ∧ W.cell? ⟨g, 5, none⟩ = some (.int .u64 i3) ∧ W.cell? ⟨g, 6, none⟩ = some (.int .u64 i4) ∧ W.cell? ⟨g, 7, none⟩ = some (.int .u64 i5) ∧ W.cell? ⟨b, 0, none⟩ = some (.int .u64 t) ∧ W.cell? ⟨b, 1, none⟩ = some (.int .u64 v)) [15] (.yes 0 (.yes 1 (.yes 2 (.yes 3 (.yes 4 (.yes 5 (.yes 6 (.yes 7 (.yes 8 (.yes 9 (.yes 10 (.yes 11 (.yes 12 (.yes 13 (.yes 14 (.one 15 .nil)))))))))))))))) (by kernel_rfl) (by kernel_rfl) (by kernel_rfl) (by kernel_rfl) HS.out ?_
  (repeat (refine wpSchL_yes (v := ?_) rfl (fun _ _ _ h => h) (by rfl) ?_ ?_; rotate_left; (next => (intro w hSw; (try dsimp only at hSw); obtain ⟨hS1, hS2, hS3, hS4, hS5, hS6⟩ := hSw; go_simp; (try with_reducible rfl))); (try simp only [Act.put, List.setIfInBounds_toArray, List.set_cons_zero, List.set_cons_succ])))
  refine wpSchL_one ?_
  refine wpOneL_call rfl (by rfl) (fun K hK => ?_)
  go_simp
  refine hK.out _ _ ?_ (fun hHeld => ?_)
  · exact fun h => absurd h (by decide)
  clear hK K hHeld
  (try simp only [Act.put, List.setIfInBounds_toArray, List.set_cons_zero, List.set_cons_succ])
  refine wpSchL_nil ?_
  go_wp2
  go_end0
  exact ⟨⟨_, rfl⟩, H2.out, K2.out⟩
end Go.Proofs.Ytfbbmpmgceghfaa
