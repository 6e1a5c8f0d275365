/-
  Package winmax's age: what it leaves. Conditions: the window lies in memory as New makes it; the numbers are of their kind.
-/
import Derived.Test.YtfbbmpmgceghfaaWinRank
namespace Go.Proofs.Ytfbbmpmgceghfaa
open Go.RowKit
set_option maxRecDepth 100000

set_option maxHeartbeats 1000000 in
theorem ageA2 (g : Nat) (win v : Int) (x : Tri) (w : World) (h : MaxAt w g win x) (hv : Num v) (hA : win < x.l - x.t0) (hB : ¬ win < x.l - x.t1) :
    Calls Try.prog 42 #[.pointer (some ⟨g, 0, none⟩), .agg #[.int .u64 x.l, .int .u64 v]] w fun e w' => (∃ v, e = .returned v) ∧ MaxAt w' g win (shiftT x x.l v) ∧ Keep (fun k => k = g) w w' := by
  have HB := Lib.hid hB; clear hB
  have H := Lib.hid h
  have HV := Lib.hid hv
  have hl := h.fit.l1
  have ha0 := h.fit.a0
  have h0 : 0 ≤ x.l := Int.le_trans h.fit.a0.1 h.fit.a0.2
  have hw := h.win
  unfold Num at hw
  clear h hv
  have B0 := Lib.hid (Whole.new w 73 #[.int .u64 x.l, .int .u64 v])
  have K0 := Lib.hid ((Keep.refl (fun _ => False) w).alloc (.cells #[.int .u64 x.l, .int .u64 v] 73))
  go_enter Try.func42, Try.ntmps42
  go_wp2
  generalize hw1 : World.alloc w _ = w1 at *
  have b0 : w1.cell? ⟨w.heap.size, 0, none⟩ = some (.int .u64 x.l) := B0.out.cell 0
  have b1 : w1.cell? ⟨w.heap.size, 1, none⟩ = some (.int .u64 v) := B0.out.cell 1
  have H1 := (H.out.kept K0.out).whole
  have c0 : w1.cell? ⟨g, 0, none⟩ = some (.int .u64 win) := H1.cell 0
  have c2 : w1.cell? ⟨g, 2, none⟩ = some (.int .u64 x.t0) := H1.cell 2
  have c4 : w1.cell? ⟨g, 4, none⟩ = some (.int .u64 x.t1) := H1.cell 4
  have c6 : w1.cell? ⟨g, 6, none⟩ = some (.int .u64 x.t2) := H1.cell 6
  clear H1 hw1
  go_quiet (fail)
  have K1 := Lib.hid (K0.out.drewN nq)
  have B1 := Lib.hid (B0.out.drewN nq)
  go_wp2_with fail
  refine (xshift_is (H.out.kept K1.out) h0 (Int.le_refl _) HV.out).mono ?_
  rintro e w2 ⟨⟨_, rfl⟩, h2, k2⟩
  have H2 := Lib.hid h2; have B2 := Lib.hid (B1.out.keep k2 (by have := H.out.lt; omega)); have K2 := Lib.hid ((K1.out.mono (fun _ h => h.elim)).trans k2); clear h2 k2
  have d0 : w2.cell? ⟨w.heap.size, 0, none⟩ = some (.int .u64 x.l) := B2.out.cell 0
  go_wp2_with fail
  refine (old0_is (f := false) g win x.l _ _ H2.out (Int.le_refl _) hl (decide_eq_false (Int.not_lt.2 HB.out))).mono ?_
  rintro e w3 ⟨rfl, k3⟩
  have H3 := Lib.hid (H2.out.kept k3); have K3 := Lib.hid (K2.out.trans (k3.mono (fun _ h => h.elim))); clear k3
  go_wp2
  go_end0
  exact ⟨⟨_, rfl⟩, H3.out, K3.out⟩
set_option maxHeartbeats 1000000 in
theorem ageA1 (g : Nat) (win v : Int) (x : Tri) (w : World) (h : MaxAt w g win x) (hv : Num v) (hA : win < x.l - x.t0) (hB : win < x.l - x.t1) :
    Calls Try.prog 42 #[.pointer (some ⟨g, 0, none⟩), .agg #[.int .u64 x.l, .int .u64 v]] w fun e w' => (∃ v, e = .returned v) ∧ MaxAt w' g win (shiftT (shiftT x x.l v) x.l v) ∧ Keep (fun k => k = g) w w' := by
  have HB := Lib.hid hB; clear hB
  have H := Lib.hid h
  have HV := Lib.hid hv
  have hl := h.fit.l1
  have ha0 := h.fit.a0
  have h0 : 0 ≤ x.l := Int.le_trans h.fit.a0.1 h.fit.a0.2
  have hw := h.win
  unfold Num at hw
  clear h hv
  have B0 := Lib.hid (Whole.new w 73 #[.int .u64 x.l, .int .u64 v])
  have K0 := Lib.hid ((Keep.refl (fun _ => False) w).alloc (.cells #[.int .u64 x.l, .int .u64 v] 73))
  go_enter Try.func42, Try.ntmps42
  go_wp2
  generalize hw1 : World.alloc w _ = w1 at *
  have b0 : w1.cell? ⟨w.heap.size, 0, none⟩ = some (.int .u64 x.l) := B0.out.cell 0
  have b1 : w1.cell? ⟨w.heap.size, 1, none⟩ = some (.int .u64 v) := B0.out.cell 1
  have H1 := (H.out.kept K0.out).whole
  have c0 : w1.cell? ⟨g, 0, none⟩ = some (.int .u64 win) := H1.cell 0
  have c2 : w1.cell? ⟨g, 2, none⟩ = some (.int .u64 x.t0) := H1.cell 2
  have c4 : w1.cell? ⟨g, 4, none⟩ = some (.int .u64 x.t1) := H1.cell 4
  have c6 : w1.cell? ⟨g, 6, none⟩ = some (.int .u64 x.t2) := H1.cell 6
  clear H1 hw1
  go_quiet (fail)
  have K1 := Lib.hid (K0.out.drewN nq)
  have B1 := Lib.hid (B0.out.drewN nq)
  go_wp2_with fail
  refine (xshift_is (H.out.kept K1.out) h0 (Int.le_refl _) HV.out).mono ?_
  rintro e w2 ⟨⟨_, rfl⟩, h2, k2⟩
  have H2 := Lib.hid h2; have B2 := Lib.hid (B1.out.keep k2 (by have := H.out.lt; omega)); have K2 := Lib.hid ((K1.out.mono (fun _ h => h.elim)).trans k2); clear h2 k2
  have d0 : w2.cell? ⟨w.heap.size, 0, none⟩ = some (.int .u64 x.l) := B2.out.cell 0
  go_wp2_with fail
  refine (old0_is (f := true) g win x.l _ _ H2.out (Int.le_refl _) hl (decide_eq_true HB.out)).mono ?_
  rintro e w3 ⟨rfl, k3⟩
  have H3 := Lib.hid (H2.out.kept k3); have K3 := Lib.hid (K2.out.trans (k3.mono (fun _ h => h.elim)))
  have B3 := Lib.hid (B2.out.keep k3 id); clear k3
  have d1 : w3.cell? ⟨w.heap.size, 0, none⟩ = some (.int .u64 x.l) := B3.out.cell 0
  have d2 : w3.cell? ⟨w.heap.size, 1, none⟩ = some (.int .u64 v) := B3.out.cell 1
  go_wp2_with fail
  refine (xshift_is H3.out h0 (Int.le_refl _) HV.out).mono ?_
  rintro e w4 ⟨⟨_, rfl⟩, h4, k4⟩
  have H4 := Lib.hid h4; have K4 := Lib.hid (K3.out.trans k4); clear h4 k4
  go_wp2
  go_end0
  exact ⟨⟨_, rfl⟩, H4.out, K4.out⟩
set_option maxHeartbeats 1000000 in
theorem ageB (g : Nat) (win v : Int) (x : Tri) (w : World) (h : MaxAt w g win x) (hv : Num v) (hA : ¬ win < x.l - x.t0) (hB : (x.t1 == x.t0) = true) (hC : win / 4 < x.l - x.t0) :
    Calls Try.prog 42 #[.pointer (some ⟨g, 0, none⟩), .agg #[.int .u64 x.l, .int .u64 v]] w fun e w' => (∃ v, e = .returned v) ∧ MaxAt w' g win (twoT x x.l v) ∧ Keep (fun k => k = g) w w' := by
  have H := Lib.hid h
  have HV := Lib.hid hv
  have hl := h.fit.l1
  have ha0 := h.fit.a0
  have h0 : 0 ≤ x.l := Int.le_trans h.fit.a0.1 h.fit.a0.2
  have hw := h.win
  unfold Num at hw
  clear h hv
  have B0 := Lib.hid (Whole.new w 73 #[.int .u64 x.l, .int .u64 v])
  have K0 := Lib.hid ((Keep.refl (fun _ => False) w).alloc (.cells #[.int .u64 x.l, .int .u64 v] 73))
  go_enter Try.func42, Try.ntmps42
  go_wp2
  generalize hw1 : World.alloc w _ = w1 at *
  have b0 : w1.cell? ⟨w.heap.size, 0, none⟩ = some (.int .u64 x.l) := B0.out.cell 0
  have b1 : w1.cell? ⟨w.heap.size, 1, none⟩ = some (.int .u64 v) := B0.out.cell 1
  have H1 := (H.out.kept K0.out).whole
  have c0 : w1.cell? ⟨g, 0, none⟩ = some (.int .u64 win) := H1.cell 0
  have c2 : w1.cell? ⟨g, 2, none⟩ = some (.int .u64 x.t0) := H1.cell 2
  have c4 : w1.cell? ⟨g, 4, none⟩ = some (.int .u64 x.t1) := H1.cell 4
  have c6 : w1.cell? ⟨g, 6, none⟩ = some (.int .u64 x.t2) := H1.cell 6
  clear H1 hw1
  go_quiet (fail)
  have K1 := Lib.hid (K0.out.drewN nq)
  have B1 := Lib.hid (B0.out.drewN nq)
  go_wp2_with fail
  refine (fill1_is (H.out.kept K1.out) h0 (Int.le_refl _) HV.out).mono ?_
  rintro e w2 ⟨⟨_, rfl⟩, h2, k2⟩
  have H2 := Lib.hid h2; have K2 := Lib.hid ((K1.out.mono (fun _ h => h.elim)).trans k2); clear h2 k2
  go_wp2
  go_end0
  exact ⟨⟨_, rfl⟩, H2.out, K2.out⟩
set_option maxHeartbeats 1000000 in
theorem ageC (g : Nat) (win v : Int) (x : Tri) (w : World) (h : MaxAt w g win x) (hv : Num v) (hA : ¬ win < x.l - x.t0) (hB : ¬ (x.t1 = x.t0 ∧ win / 4 < x.l - x.t0)) (hC : (x.t2 == x.t1) = true) (hD : win / 2 < x.l - x.t0) :
    Calls Try.prog 42 #[.pointer (some ⟨g, 0, none⟩), .agg #[.int .u64 x.l, .int .u64 v]] w fun e w' => (∃ v, e = .returned v) ∧ MaxAt w' g win (oneT x x.l v) ∧ Keep (fun k => k = g) w w' := by
  have H := Lib.hid h
  have HV := Lib.hid hv
  have hl := h.fit.l1
  have ha0 := h.fit.a0
  have h0 : 0 ≤ x.l := Int.le_trans h.fit.a0.1 h.fit.a0.2
  have hw := h.win
  unfold Num at hw
  clear h hv
  have B0 := Lib.hid (Whole.new w 73 #[.int .u64 x.l, .int .u64 v])
  have K0 := Lib.hid ((Keep.refl (fun _ => False) w).alloc (.cells #[.int .u64 x.l, .int .u64 v] 73))
  go_enter Try.func42, Try.ntmps42
  go_wp2
  generalize hw1 : World.alloc w _ = w1 at *
  have b0 : w1.cell? ⟨w.heap.size, 0, none⟩ = some (.int .u64 x.l) := B0.out.cell 0
  have b1 : w1.cell? ⟨w.heap.size, 1, none⟩ = some (.int .u64 v) := B0.out.cell 1
  have H1 := (H.out.kept K0.out).whole
  have c0 : w1.cell? ⟨g, 0, none⟩ = some (.int .u64 win) := H1.cell 0
  have c2 : w1.cell? ⟨g, 2, none⟩ = some (.int .u64 x.t0) := H1.cell 2
  have c4 : w1.cell? ⟨g, 4, none⟩ = some (.int .u64 x.t1) := H1.cell 4
  have c6 : w1.cell? ⟨g, 6, none⟩ = some (.int .u64 x.t2) := H1.cell 6
  clear H1 hw1
  go_quiet (fail)
  have K1 := Lib.hid (K0.out.drewN nq)
  have B1 := Lib.hid (B0.out.drewN nq)
  by_cases hE : x.t1 = x.t0
  · have hE1 : (x.t1 == x.t0) = true := by simpa using hE
    have hE2 : ¬ win / 4 < x.l - x.t0 := fun h => hB ⟨hE, h⟩
    omega
  · have hE1 : (x.t1 == x.t0) = false := by simpa using hE
    clear hE hB
    go_wp2_with fail
    refine (fill2_is (H.out.kept K1.out) h0 (Int.le_refl _) HV.out).mono ?_
    rintro e w2 ⟨⟨_, rfl⟩, h2, k2⟩
    have H2 := Lib.hid h2; have K2 := Lib.hid ((K1.out.mono (fun _ h => h.elim)).trans k2); clear h2 k2
    go_wp2
    go_end0
    exact ⟨⟨_, rfl⟩, H2.out, K2.out⟩
set_option maxHeartbeats 1000000 in
theorem ageD (g : Nat) (win v : Int) (x : Tri) (w : World) (h : MaxAt w g win x) (hv : Num v) (hA : ¬ win < x.l - x.t0) (hB : ¬ (x.t1 = x.t0 ∧ win / 4 < x.l - x.t0)) (hC : ¬ (x.t2 = x.t1 ∧ win / 2 < x.l - x.t0)) :
    Calls Try.prog 42 #[.pointer (some ⟨g, 0, none⟩), .agg #[.int .u64 x.l, .int .u64 v]] w fun e w' => (∃ v, e = .returned v) ∧ MaxAt w' g win x ∧ Keep (fun k => k = g) w w' := by
  have H := Lib.hid h
  have HV := Lib.hid hv
  have hl := h.fit.l1
  have ha0 := h.fit.a0
  have h0 : 0 ≤ x.l := Int.le_trans h.fit.a0.1 h.fit.a0.2
  have hw := h.win
  unfold Num at hw
  clear h hv
  have B0 := Lib.hid (Whole.new w 73 #[.int .u64 x.l, .int .u64 v])
  have K0 := Lib.hid ((Keep.refl (fun _ => False) w).alloc (.cells #[.int .u64 x.l, .int .u64 v] 73))
  go_enter Try.func42, Try.ntmps42
  go_wp2
  generalize hw1 : World.alloc w _ = w1 at *
  have b0 : w1.cell? ⟨w.heap.size, 0, none⟩ = some (.int .u64 x.l) := B0.out.cell 0
  have b1 : w1.cell? ⟨w.heap.size, 1, none⟩ = some (.int .u64 v) := B0.out.cell 1
  have H1 := (H.out.kept K0.out).whole
  have c0 : w1.cell? ⟨g, 0, none⟩ = some (.int .u64 win) := H1.cell 0
  have c2 : w1.cell? ⟨g, 2, none⟩ = some (.int .u64 x.t0) := H1.cell 2
  have c4 : w1.cell? ⟨g, 4, none⟩ = some (.int .u64 x.t1) := H1.cell 4
  have c6 : w1.cell? ⟨g, 6, none⟩ = some (.int .u64 x.t2) := H1.cell 6
  clear H1 hw1
  go_quiet (fail)
  have K1 := Lib.hid (K0.out.drewN nq)
  have B1 := Lib.hid (B0.out.drewN nq)
  by_cases hE : x.t1 = x.t0
  · have hE1 : (x.t1 == x.t0) = true := by simpa using hE
    have hE2 : ¬ win / 4 < x.l - x.t0 := fun h => hB ⟨hE, h⟩
    clear hE hB
    by_cases hF : x.t2 = x.t1
    · have hF1 : (x.t2 == x.t1) = true := by simpa using hF
      have hF2 : ¬ win / 2 < x.l - x.t0 := fun h => hC ⟨hF, h⟩
      clear hF hC
      go_wp2
      go_end0
      exact ⟨⟨_, rfl⟩, H.out.kept K1.out, K1.out.mono (fun _ h => h.elim)⟩
    · have hF1 : (x.t2 == x.t1) = false := by simpa using hF
      clear hF hC
      go_wp2
      go_end0
      exact ⟨⟨_, rfl⟩, H.out.kept K1.out, K1.out.mono (fun _ h => h.elim)⟩
  · have hE1 : (x.t1 == x.t0) = false := by simpa using hE
    clear hE hB
    by_cases hF : x.t2 = x.t1
    · have hF1 : (x.t2 == x.t1) = true := by simpa using hF
      have hF2 : ¬ win / 2 < x.l - x.t0 := fun h => hC ⟨hF, h⟩
      clear hF hC
      go_wp2
      go_end0
      exact ⟨⟨_, rfl⟩, H.out.kept K1.out, K1.out.mono (fun _ h => h.elim)⟩
    · have hF1 : (x.t2 == x.t1) = false := by simpa using hF
      clear hF hC
      go_wp2
      go_end0
      exact ⟨⟨_, rfl⟩, H.out.kept K1.out, K1.out.mono (fun _ h => h.elim)⟩

theorem age_any (g : Nat) (win v : Int) (x : Tri) (w : World) (h : MaxAt w g win x) (hv : Num v) :
    Calls Try.prog 42 #[.pointer (some ⟨g, 0, none⟩), .agg #[.int .u64 x.l, .int .u64 v]] w fun e w' => (∃ v, e = .returned v) ∧ MaxAt w' g win (ageT win x x.l v) ∧ Keep (fun k => k = g) w w' := by
  by_cases hA : win < x.l - x.t0
  · by_cases hB : win < x.l - x.t1
    · rw [show ageT win x x.l v = shiftT (shiftT x x.l v) x.l v from (if_pos hA).trans (if_pos hB)]
      exact ageA1 g win v x w h hv hA hB
    · rw [show ageT win x x.l v = shiftT x x.l v from (if_pos hA).trans (if_neg hB)]
      exact ageA2 g win v x w h hv hA hB
  · by_cases hB : x.t1 = x.t0 ∧ win / 4 < x.l - x.t0
    · rw [show ageT win x x.l v = twoT x x.l v from (if_neg hA).trans (if_pos hB)]
      exact ageB g win v x w h hv hA (by simpa using hB.1) hB.2
    · by_cases hC : x.t2 = x.t1 ∧ win / 2 < x.l - x.t0
      · rw [show ageT win x x.l v = oneT x x.l v from (if_neg hA).trans ((if_neg hB).trans (if_pos hC))]
        exact ageC g win v x w h hv hA hB (by simpa using hC.1) hC.2
      · rw [show ageT win x x.l v = x from (if_neg hA).trans ((if_neg hB).trans (if_neg hC))]
        exact ageD g win v x w h hv hA hB hC
end Go.Proofs.Ytfbbmpmgceghfaa
