/-
  Package winmax's rank: what it leaves. Conditions: the window lies in memory as New makes it; the numbers are of their kind.
-/
import Derived.Test.YtfbbmpmgceghfaaWinPut
namespace Go.Proofs.Ytfbbmpmgceghfaa
open Go.RowKit
set_option maxRecDepth 100000

section
variable {g : Nat} {win t v : Int} {x : Tri} {w : World}
theorem fill0_is (h : MaxAt w g win x) (h0 : 0 ≤ t) (ht : t ≤ x.l) (hv : Num v) :
    Calls Try.prog 51 #[.pointer (some ⟨g, 0, none⟩), .int .i64 0, .agg #[.int .u64 t, .int .u64 v]] w fun e w' => (∃ v, e = .returned v) ∧ MaxAt w' g win (allT x.l t v) ∧ Keep (fun k => k = g) w w' :=
  (fill0_any g _ _ _ _ _ _ _ _ _ t v w h.whole).mono fun _ _ ⟨he, h1, hk⟩ => ⟨he, ⟨h1, fit_all h.fit.l1 h0 ht hv, h.win⟩, hk⟩
theorem fill1_is (h : MaxAt w g win x) (h0 : 0 ≤ t) (ht : t ≤ x.l) (hv : Num v) :
    Calls Try.prog 51 #[.pointer (some ⟨g, 0, none⟩), .int .i64 1, .agg #[.int .u64 t, .int .u64 v]] w fun e w' => (∃ v, e = .returned v) ∧ MaxAt w' g win (twoT x t v) ∧ Keep (fun k => k = g) w w' :=
  (fill1_any g _ _ _ _ _ _ _ _ _ t v w h.whole).mono fun _ _ ⟨he, h1, hk⟩ => ⟨he, ⟨h1, h.fit.two h0 ht hv, h.win⟩, hk⟩
theorem fill2_is (h : MaxAt w g win x) (h0 : 0 ≤ t) (ht : t ≤ x.l) (hv : Num v) :
    Calls Try.prog 51 #[.pointer (some ⟨g, 0, none⟩), .int .i64 2, .agg #[.int .u64 t, .int .u64 v]] w fun e w' => (∃ v, e = .returned v) ∧ MaxAt w' g win (oneT x t v) ∧ Keep (fun k => k = g) w w' :=
  (fill2_any g _ _ _ _ _ _ _ _ _ t v w h.whole).mono fun _ _ ⟨he, h1, hk⟩ => ⟨he, ⟨h1, h.fit.one h0 ht hv, h.win⟩, hk⟩
theorem xshift_is (h : MaxAt w g win x) (h0 : 0 ≤ t) (ht : t ≤ x.l) (hv : Num v) :
    Calls Try.prog 52 #[.pointer (some ⟨g, 0, none⟩), .agg #[.int .u64 t, .int .u64 v]] w fun e w' => (∃ v, e = .returned v) ∧ MaxAt w' g win (shiftT x t v) ∧ Keep (fun k => k = g) w w' :=
  (xshift_any g _ _ _ _ _ _ _ _ _ t v w h.whole).mono fun _ _ ⟨he, h1, hk⟩ => ⟨he, ⟨h1, h.fit.shift h0 ht hv, h.win⟩, hk⟩
end
theorem old2_is {f : Bool} (g : Nat) (win t : Int) (x : Tri) (w : World) (h : MaxAt w g win x) (ht : x.l ≤ t) (ht1 : t ≤ 18446744073709551615) (hf : decide (win < t - x.t2) = f) :
    Calls Try.prog 50 #[.pointer (some ⟨g, 0, none⟩), .int .i64 2, .int .u64 t] w fun e w' => e = .returned (.bool f) ∧ Keep (fun _ => False) w w' := hf ▸ old2_any g win t x w h ht ht1
theorem old0_is {f : Bool} (g : Nat) (win t : Int) (x : Tri) (w : World) (h : MaxAt w g win x) (ht : x.l ≤ t) (ht1 : t ≤ 18446744073709551615) (hf : decide (win < t - x.t0) = f) :
    Calls Try.prog 50 #[.pointer (some ⟨g, 0, none⟩), .int .i64 0, .int .u64 t] w fun e w' => e = .returned (.bool f) ∧ Keep (fun _ => False) w w' := hf ▸ old0_any g win t x w h ht ht1

theorem Try.idx0 (v0 v1 v2 v3 v4 v5 : Value) (w : World) : (Instr.index 74 (.agg #[v0, v1, v2, v3, v4, v5]) (.int .i64 0)).run Try.prog w = .ok (.agg #[v0, v1]) w := by kernel_rfl
theorem Try.idx1 (v0 v1 v2 v3 v4 v5 : Value) (w : World) : (Instr.index 74 (.agg #[v0, v1, v2, v3, v4, v5]) (.int .i64 1)).run Try.prog w = .ok (.agg #[v2, v3]) w := by kernel_rfl
theorem Try.idx2 (v0 v1 v2 v3 v4 v5 : Value) (w : World) : (Instr.index 74 (.agg #[v0, v1, v2, v3, v4, v5]) (.int .i64 2)).run Try.prog w = .ok (.agg #[v4, v5]) w := by kernel_rfl

set_option maxHeartbeats 1000000 in
theorem rankA {f : Bool} (g : Nat) (win v : Int) (x : Tri) (w : World) (h : MaxAt w g win x) (hv : Num v) (hf : decide (win < x.l - x.t2) = f) (hA : x.v0 ≤ v ∨ f = true) :
    Calls Try.prog 41 #[.pointer (some ⟨g, 0, none⟩), .agg #[.int .u64 x.l, .int .u64 v]] w fun e w' => (∃ v, e = .returned v) ∧ MaxAt w' g win (allT x.l x.l v) ∧ Keep (fun k => k = g) w w' := by
  have H := Lib.hid h
  have HF := Lib.hid hf
  have HV := Lib.hid hv
  have hl := h.fit.l1
  have h0 : 0 ≤ x.l := Int.le_trans h.fit.a0.1 h.fit.a0.2
  clear h hf hv
  go_enter Try.func41, Try.ntmps41
  go_wp2_with fail
  go_step3
  go_wp2_with fail
  have B0 := Lib.hid (Whole.new w 73 #[.int .u64 x.l, .int .u64 v])
  have K0 := Lib.hid ((Keep.refl (fun _ => False) w).alloc (.cells #[.int .u64 x.l, .int .u64 v] 73))
  refine (old2_is g win x.l x _ (H.out.kept K0.out) (Int.le_refl _) hl HF.out).mono ?_
  rintro e w1 ⟨rfl, k1⟩
  have B1 := Lib.hid (B0.out.keep k1 id)
  have K1 := Lib.hid (K0.out.trans k1)
  clear k1 K0 B0
  have b0 : w1.cell? ⟨w.heap.size, 0, none⟩ = some (.int .u64 x.l) := B1.out.cell 0
  have b1 : w1.cell? ⟨w.heap.size, 1, none⟩ = some (.int .u64 v) := B1.out.cell 1
  have H1 := (H.out.kept K1.out).whole
  have c2 : w1.cell? ⟨g, 2, none⟩ = some (.int .u64 x.t0) := H1.cell 2
  have c3 : w1.cell? ⟨g, 3, none⟩ = some (.int .u64 x.v0) := H1.cell 3
  have c4 : w1.cell? ⟨g, 4, none⟩ = some (.int .u64 x.t1) := H1.cell 4
  have c5 : w1.cell? ⟨g, 5, none⟩ = some (.int .u64 x.v1) := H1.cell 5
  have c6 : w1.cell? ⟨g, 6, none⟩ = some (.int .u64 x.t2) := H1.cell 6
  have c7 : w1.cell? ⟨g, 7, none⟩ = some (.int .u64 x.v2) := H1.cell 7
  clear H1
  have hb : w.heap.size < w1.heap.size := B1.out.lt
  have hx0 := Try.idx0; have hx1 := Try.idx1; have hx2 := Try.idx2
  go_wp2
  go_step3
  go_wp2
  refine wp_loop_rounds 1 ?_
  rw [rounds_succ]
  by_cases hv0 : v < x.v0
  · obtain rfl : f = true := by rcases hA with h | h; omega; exact h
    go_wp2_with fail
    refine (fill0_is (H.out.kept (K1.out.alloc _)) h0 (Int.le_refl _) HV.out).mono ?_
    rintro e w2 ⟨⟨_, rfl⟩, h2, k2⟩
    have H2 := Lib.hid h2; have K2 := Lib.hid k2; clear h2 k2
    go_wp2
    try rw [Exit.noGoto_normal]
    go_end0
    exact ⟨⟨_, rfl⟩, H2.out, ((K1.out.alloc _).mono (fun _ h => h.elim)).trans K2.out⟩
  · clear hA HF
    go_wp2_with fail
    refine (fill0_is (H.out.kept (K1.out.alloc _)) h0 (Int.le_refl _) HV.out).mono ?_
    rintro e w2 ⟨⟨_, rfl⟩, h2, k2⟩
    have H2 := Lib.hid h2; have K2 := Lib.hid k2; clear h2 k2
    go_wp2
    try rw [Exit.noGoto_normal]
    go_end0
    exact ⟨⟨_, rfl⟩, H2.out, ((K1.out.alloc _).mono (fun _ h => h.elim)).trans K2.out⟩
set_option maxHeartbeats 1000000 in
theorem rankB {f : Bool} (g : Nat) (win v : Int) (x : Tri) (w : World) (h : MaxAt w g win x) (hv : Num v) (hf : decide (win < x.l - x.t2) = f) (hA : f = false) (hv0 : v < x.v0) (hv1 : ¬ v < x.v1) :
    Calls Try.prog 41 #[.pointer (some ⟨g, 0, none⟩), .agg #[.int .u64 x.l, .int .u64 v]] w fun e w' => (∃ v, e = .returned v) ∧ MaxAt w' g win (twoT x x.l v) ∧ Keep (fun k => k = g) w w' := by
  have H := Lib.hid h
  have HF := Lib.hid hf
  have HV := Lib.hid hv
  have hl := h.fit.l1
  have h0 : 0 ≤ x.l := Int.le_trans h.fit.a0.1 h.fit.a0.2
  clear h hf hv
  subst hA
  go_enter Try.func41, Try.ntmps41
  go_wp2_with fail
  go_step3
  go_wp2_with fail
  have B0 := Lib.hid (Whole.new w 73 #[.int .u64 x.l, .int .u64 v])
  have K0 := Lib.hid ((Keep.refl (fun _ => False) w).alloc (.cells #[.int .u64 x.l, .int .u64 v] 73))
  refine (old2_is g win x.l x _ (H.out.kept K0.out) (Int.le_refl _) hl HF.out).mono ?_
  rintro e w1 ⟨rfl, k1⟩
  have B1 := Lib.hid (B0.out.keep k1 id)
  have K1 := Lib.hid (K0.out.trans k1)
  clear k1 K0 B0
  have b0 : w1.cell? ⟨w.heap.size, 0, none⟩ = some (.int .u64 x.l) := B1.out.cell 0
  have b1 : w1.cell? ⟨w.heap.size, 1, none⟩ = some (.int .u64 v) := B1.out.cell 1
  have H1 := (H.out.kept K1.out).whole
  have c2 : w1.cell? ⟨g, 2, none⟩ = some (.int .u64 x.t0) := H1.cell 2
  have c3 : w1.cell? ⟨g, 3, none⟩ = some (.int .u64 x.v0) := H1.cell 3
  have c4 : w1.cell? ⟨g, 4, none⟩ = some (.int .u64 x.t1) := H1.cell 4
  have c5 : w1.cell? ⟨g, 5, none⟩ = some (.int .u64 x.v1) := H1.cell 5
  have c6 : w1.cell? ⟨g, 6, none⟩ = some (.int .u64 x.t2) := H1.cell 6
  have c7 : w1.cell? ⟨g, 7, none⟩ = some (.int .u64 x.v2) := H1.cell 7
  clear H1
  have hb : w.heap.size < w1.heap.size := B1.out.lt
  have hx0 := Try.idx0; have hx1 := Try.idx1; have hx2 := Try.idx2
  go_wp2
  go_step3
  go_wp2
  refine wp_loop_rounds 2 ?_
  rw [rounds_succ]
  go_wp2_with fail
  rw [rounds_succ]
  go_wp2_with fail
  refine (fill1_is (H.out.kept ((K1.out.alloc _).alloc _)) h0 (Int.le_refl _) HV.out).mono ?_
  rintro e w2 ⟨⟨_, rfl⟩, h2, k2⟩
  have H2 := Lib.hid h2; have K2 := Lib.hid k2; clear h2 k2
  go_wp2
  try rw [Exit.noGoto_normal]
  go_end0
  exact ⟨⟨_, rfl⟩, H2.out, (((K1.out.alloc _).alloc _).mono (fun _ h => h.elim)).trans K2.out⟩
set_option maxHeartbeats 1000000 in
theorem rankC {f : Bool} (g : Nat) (win v : Int) (x : Tri) (w : World) (h : MaxAt w g win x) (hv : Num v) (hf : decide (win < x.l - x.t2) = f) (hA : f = false) (hv0 : v < x.v0) (hv1 : v < x.v1) (hv2 : ¬ v < x.v2) :
    Calls Try.prog 41 #[.pointer (some ⟨g, 0, none⟩), .agg #[.int .u64 x.l, .int .u64 v]] w fun e w' => (∃ v, e = .returned v) ∧ MaxAt w' g win (oneT x x.l v) ∧ Keep (fun k => k = g) w w' := by
  have H := Lib.hid h
  have HF := Lib.hid hf
  have HV := Lib.hid hv
  have hl := h.fit.l1
  have h0 : 0 ≤ x.l := Int.le_trans h.fit.a0.1 h.fit.a0.2
  clear h hf hv
  subst hA
  go_enter Try.func41, Try.ntmps41
  go_wp2_with fail
  go_step3
  go_wp2_with fail
  have B0 := Lib.hid (Whole.new w 73 #[.int .u64 x.l, .int .u64 v])
  have K0 := Lib.hid ((Keep.refl (fun _ => False) w).alloc (.cells #[.int .u64 x.l, .int .u64 v] 73))
  refine (old2_is g win x.l x _ (H.out.kept K0.out) (Int.le_refl _) hl HF.out).mono ?_
  rintro e w1 ⟨rfl, k1⟩
  have B1 := Lib.hid (B0.out.keep k1 id)
  have K1 := Lib.hid (K0.out.trans k1)
  clear k1 K0 B0
  have b0 : w1.cell? ⟨w.heap.size, 0, none⟩ = some (.int .u64 x.l) := B1.out.cell 0
  have b1 : w1.cell? ⟨w.heap.size, 1, none⟩ = some (.int .u64 v) := B1.out.cell 1
  have H1 := (H.out.kept K1.out).whole
  have c2 : w1.cell? ⟨g, 2, none⟩ = some (.int .u64 x.t0) := H1.cell 2
  have c3 : w1.cell? ⟨g, 3, none⟩ = some (.int .u64 x.v0) := H1.cell 3
  have c4 : w1.cell? ⟨g, 4, none⟩ = some (.int .u64 x.t1) := H1.cell 4
  have c5 : w1.cell? ⟨g, 5, none⟩ = some (.int .u64 x.v1) := H1.cell 5
  have c6 : w1.cell? ⟨g, 6, none⟩ = some (.int .u64 x.t2) := H1.cell 6
  have c7 : w1.cell? ⟨g, 7, none⟩ = some (.int .u64 x.v2) := H1.cell 7
  clear H1
  have hb : w.heap.size < w1.heap.size := B1.out.lt
  have hx0 := Try.idx0; have hx1 := Try.idx1; have hx2 := Try.idx2
  go_wp2
  go_step3
  go_wp2
  refine wp_loop_rounds 3 ?_
  rw [rounds_succ]
  go_wp2_with fail
  rw [rounds_succ]
  go_wp2_with fail
  have K2' := Lib.hid ((K1.out.alloc (.cells #[.int .u64 x.t0, .int .u64 x.v0] 73)).alloc (.cells #[.int .u64 x.t1, .int .u64 x.v1] 73))
  have B2' := Lib.hid ((B1.out.alloc (.cells #[.int .u64 x.t0, .int .u64 x.v0] 73)).alloc (.cells #[.int .u64 x.t1, .int .u64 x.v1] 73))
  rw [rounds_succ]
  generalize hw2 : World.alloc (World.alloc w1 _) _ = w2 at *
  have b0' : w2.cell? ⟨w.heap.size, 0, none⟩ = some (.int .u64 x.l) := B2'.out.cell 0
  have b1' : w2.cell? ⟨w.heap.size, 1, none⟩ = some (.int .u64 v) := B2'.out.cell 1
  have hb' : w.heap.size < w2.heap.size := B2'.out.lt
  go_wp2_with fail
  refine (fill2_is (H.out.kept (K2'.out.alloc _)) h0 (Int.le_refl _) HV.out).mono ?_
  rintro e w3 ⟨⟨_, rfl⟩, h2, k2⟩
  have H2 := Lib.hid h2; have K2 := Lib.hid k2; clear h2 k2
  go_wp2
  try rw [Exit.noGoto_normal]
  go_end0
  exact ⟨⟨_, rfl⟩, H2.out, ((K2'.out.alloc _).mono (fun _ h => h.elim)).trans K2.out⟩
set_option maxHeartbeats 1000000 in
theorem rankD {f : Bool} (g : Nat) (win v : Int) (x : Tri) (w : World) (h : MaxAt w g win x) (hv : Num v) (hf : decide (win < x.l - x.t2) = f) (hA : f = false) (hv0 : v < x.v0) (hv1 : v < x.v1) (hv2 : v < x.v2) :
    Calls Try.prog 41 #[.pointer (some ⟨g, 0, none⟩), .agg #[.int .u64 x.l, .int .u64 v]] w fun e w' => (∃ v, e = .returned v) ∧ MaxAt w' g win (x) ∧ Keep (fun k => k = g) w w' := by
  have H := Lib.hid h
  have HF := Lib.hid hf
  have HV := Lib.hid hv
  have hl := h.fit.l1
  have h0 : 0 ≤ x.l := Int.le_trans h.fit.a0.1 h.fit.a0.2
  clear h hf hv
  subst hA
  go_enter Try.func41, Try.ntmps41
  go_wp2_with fail
  go_step3
  go_wp2_with fail
  have B0 := Lib.hid (Whole.new w 73 #[.int .u64 x.l, .int .u64 v])
  have K0 := Lib.hid ((Keep.refl (fun _ => False) w).alloc (.cells #[.int .u64 x.l, .int .u64 v] 73))
  refine (old2_is g win x.l x _ (H.out.kept K0.out) (Int.le_refl _) hl HF.out).mono ?_
  rintro e w1 ⟨rfl, k1⟩
  have B1 := Lib.hid (B0.out.keep k1 id)
  have K1 := Lib.hid (K0.out.trans k1)
  clear k1 K0 B0
  have b0 : w1.cell? ⟨w.heap.size, 0, none⟩ = some (.int .u64 x.l) := B1.out.cell 0
  have b1 : w1.cell? ⟨w.heap.size, 1, none⟩ = some (.int .u64 v) := B1.out.cell 1
  have H1 := (H.out.kept K1.out).whole
  have c2 : w1.cell? ⟨g, 2, none⟩ = some (.int .u64 x.t0) := H1.cell 2
  have c3 : w1.cell? ⟨g, 3, none⟩ = some (.int .u64 x.v0) := H1.cell 3
  have c4 : w1.cell? ⟨g, 4, none⟩ = some (.int .u64 x.t1) := H1.cell 4
  have c5 : w1.cell? ⟨g, 5, none⟩ = some (.int .u64 x.v1) := H1.cell 5
  have c6 : w1.cell? ⟨g, 6, none⟩ = some (.int .u64 x.t2) := H1.cell 6
  have c7 : w1.cell? ⟨g, 7, none⟩ = some (.int .u64 x.v2) := H1.cell 7
  clear H1
  have hb : w.heap.size < w1.heap.size := B1.out.lt
  have hx0 := Try.idx0; have hx1 := Try.idx1; have hx2 := Try.idx2
  go_wp2
  go_step3
  go_wp2
  refine wp_loop_rounds 4 ?_
  rw [rounds_succ]
  go_wp2_with fail
  rw [rounds_succ]
  go_wp2_with fail
  have K2' := Lib.hid ((K1.out.alloc (.cells #[.int .u64 x.t0, .int .u64 x.v0] 73)).alloc (.cells #[.int .u64 x.t1, .int .u64 x.v1] 73))
  have B2' := Lib.hid ((B1.out.alloc (.cells #[.int .u64 x.t0, .int .u64 x.v0] 73)).alloc (.cells #[.int .u64 x.t1, .int .u64 x.v1] 73))
  rw [rounds_succ]
  generalize hw2 : World.alloc (World.alloc w1 _) _ = w2 at *
  have b0' : w2.cell? ⟨w.heap.size, 0, none⟩ = some (.int .u64 x.l) := B2'.out.cell 0
  have b1' : w2.cell? ⟨w.heap.size, 1, none⟩ = some (.int .u64 v) := B2'.out.cell 1
  have hb' : w.heap.size < w2.heap.size := B2'.out.lt
  go_wp2_with fail
  rw [rounds_succ]
  go_wp2_with fail
  try rw [Exit.noGoto_normal]
  go_end0
  exact ⟨⟨_, rfl⟩, H.out.kept (K2'.out.alloc _), (K2'.out.alloc _).mono (fun _ h => h.elim)⟩

theorem rank_any (g : Nat) (win v : Int) (x : Tri) (w : World) (h : MaxAt w g win x) (hv : Num v) :
    Calls Try.prog 41 #[.pointer (some ⟨g, 0, none⟩), .agg #[.int .u64 x.l, .int .u64 v]] w fun e w' => (∃ v, e = .returned v) ∧ MaxAt w' g win (rankT false win x x.l v) ∧ Keep (fun k => k = g) w w' := by
  by_cases hA : beatsT false v x.v0 ∨ win < x.l - x.t2
  · rw [show rankT false win x x.l v = allT x.l x.l v from if_pos hA]
    exact rankA g win v x w h hv rfl (hA.imp (fun h => h) (fun h => by simpa using h))
  · have h0 : v < x.v0 := by
      have : ¬ x.v0 ≤ v := fun h => hA (.inl h)
      omega
    have hf : decide (win < x.l - x.t2) = false := by simp; have : ¬ win < x.l - x.t2 := fun h => hA (.inr h); omega
    by_cases h1 : beatsT false v x.v1
    · rw [show rankT false win x x.l v = twoT x x.l v from (if_neg hA).trans (if_pos h1)]
      have : x.v1 ≤ v := h1
      exact rankB g win v x w h hv hf rfl h0 (by omega)
    · have h1' : v < x.v1 := by
        have : ¬ x.v1 ≤ v := fun h => h1 h
        omega
      by_cases h2 : beatsT false v x.v2
      · rw [show rankT false win x x.l v = oneT x x.l v from (if_neg hA).trans ((if_neg h1).trans (if_pos h2))]
        have : x.v2 ≤ v := h2
        exact rankC g win v x w h hv hf rfl h0 h1' (by omega)
      · rw [show rankT false win x x.l v = x from (if_neg hA).trans ((if_neg h1).trans (if_neg h2))]
        have : ¬ x.v2 ≤ v := fun h => h2 h
        exact rankD g win v x w h hv hf rfl h0 h1' (by omega)
end Go.Proofs.Ytfbbmpmgceghfaa
