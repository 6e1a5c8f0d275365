/-
  The document's own buffer (canterref04.Buffer) answers as package buffer's numbers say. Conditions: it lies in memory as a block of its own.
-/
import Derived.Test.YthkehdoolnjjeaaBufPartsW
import Derived.Test.YthkehdoolnjjeaaSched
import Derived.Test.YthkehdoolnjjeaaSchedL
namespace Go.Proofs.Ythkehdoolnjjeaa
open Go.RowKit
set_option maxRecDepth 100000
set_option linter.unusedSimpArgs false
set_option linter.unusedVariables false

abbrev rbufC (n : Int) (x : Bst) : Array Value := #[.int .i64 n, .int .u64 x.b, .int .u64 x.t, .int .u64 x.w]
structure RBufAt (w : World) (g : Nat) (n : Int) (x : Bst) : Prop where
  whole : Whole w g 28 (rbufC n x)
  ok : x.Ok
  r : x.r = roomB n
def rbufT (g : Nat) (n : Int) (x : Bst) : Thing := ⟨fun w => RBufAt w g n x, fun k => k = g, fun h hk hs => ⟨h.whole.keep hk (hs g rfl), h.ok, h.r⟩, fun h e => e ▸ h.whole.lt⟩
section
variable {w : World} {g : Nat} {n : Int} {x : Bst}
set_option maxHeartbeats 1000000 in
theorem rbacked_any (h : RBufAt w g n x) (u : Int) (hu : 0 ≤ u) : Calls Try.prog 12 #[.pointer (some ⟨g, 0, none⟩), .int .u64 u] w fun e w' => e = .returned (.int .i64 (akE x u)) ∧ RBufAt w' g n (akX x u) ∧ Keep (fun k => k = g) w w' := by
  have c1 : w.cell? ⟨g, 1, none⟩ = some (.int .u64 x.b) := h.whole.cell 1
  have c2 : w.cell? ⟨g, 2, none⟩ = some (.int .u64 x.t) := h.whole.cell 2
  have f1 : w.frozen? ⟨g, 1, none⟩ = false := h.whole.free 1
  have H := Lib.hid h
  clear h
  go_enter Try.func12, Try.ntmps12
  by_cases hlt : x.t < u
  · have e1 : akE x u = 11 := if_pos hlt
    have e2 : akX x u = x := if_pos hlt
    rw [e1, e2]
    clear e1 e2
    go_wp2
    go_ret
    exact ⟨rfl, H.out, Keep.refl _ _⟩
  · have e1 : akE x u = 0 := if_neg hlt
    have e2 : akX x u = { x with b := max x.b u } := if_neg hlt
    have HO := Lib.hid (show ∀ v, v = max x.b u → RBufAt (w.setCell ⟨g, 1, none⟩ (.int .u64 v)) g n { x with b := max x.b u } from fun v e => by
      have ho := H.out.ok.ak_ u
      rw [e2] at ho
      rw [e]
      exact ⟨H.out.whole.put 1 _, ho, H.out.r⟩)
    rw [e1, e2]
    clear e1 e2
    go_wp2
    all_goals
      go_ret
      exact ⟨rfl, HO.out _ (by omega), (Keep.refl (fun k => k = g) w).setCell (p := ⟨g, 1, none⟩) (.inl rfl) _⟩
theorem room_if (n : Int) : (if 0 < (if (1073741824 : Int) < n then (1073741824 : Int) else n) then (if (1073741824 : Int) < n then (1073741824 : Int) else n) else 0) = roomB n := by
  unfold roomB
  by_cases h : (1073741824 : Int) < n
  · simp only [if_pos h]; omega
  · simp only [if_neg h]
    by_cases h2 : 0 < n
    · rw [if_pos h2]; omega
    · rw [if_neg h2]; omega
set_option maxHeartbeats 1000000 in
theorem rbwrite_any (h : RBufAt w g n x) (m : Int) (hm : m ≤ 9223372036854775807) (hb : x.w + 1073741824 ≤ 9223372036854775807) : Calls Try.prog 14 #[.pointer (some ⟨g, 0, none⟩), .int .i64 m] w fun e w' => e = .returned (.int .i64 (wrE x m)) ∧ RBufAt w' g n (wrX x m) ∧ Keep (fun k => k = g) w w' := by
  have c0 : w.cell? ⟨g, 0, none⟩ = some (.int .i64 n) := h.whole.cell 0
  have c1 : w.cell? ⟨g, 1, none⟩ = some (.int .u64 x.b) := h.whole.cell 1
  have c3 : w.cell? ⟨g, 3, none⟩ = some (.int .u64 x.w) := h.whole.cell 3
  have h1 := h.ok.b0; have h2 := h.ok.bt; have h3 := h.ok.tw; have h4 := h.ok.wr; have h5 := h.ok.r1; have hr := h.r
  have H := Lib.hid h
  clear h
  go_enter Try.func14, Try.ntmps14
  by_cases hc : m < 1
  · have e1 : wrE x m = 1 := if_pos hc
    have e2 : wrX x m = x := if_pos (.inl hc)
    rw [e1, e2]
    clear e1 e2
    go_wp2
    go_ret
    exact ⟨rfl, H.out, Keep.refl _ _⟩
  · have HR : Hid (x.r = roomB n) := Lib.hid hr
    have hw1 : IntKind.u64.wrap x.r = x.r := by rw [IntKind.wrap_u64]; omega
    have hw2 : IntKind.u64.wrap (x.w - x.b) = x.w - x.b := by rw [IntKind.wrap_u64]; omega
    have hw3 : IntKind.u64.wrap (x.r - (x.w - x.b)) = x.r - (x.w - x.b) := by rw [IntKind.wrap_u64]; omega
    clear hr
    by_cases hf : x.r - (x.w - x.b) < m
    · have e1 : wrE x m = 5 := (if_neg (by omega)).trans (if_pos hf)
      have e2 : wrX x m = x := if_pos (.inr hf)
      rw [e1, e2]
      clear e1 e2
      go_upto_region 3 with fail
      refine wp_region_sch (fun W => W.cell? ⟨g, 0, none⟩ = some (.int .i64 n) ∧ W.cell? ⟨g, 1, none⟩ = some (.int .u64 x.b) ∧ W.cell? ⟨g, 3, none⟩ = some (.int .u64 x.w)) [(true, 0), (true, 1), (true, 2), (true, 3), (true, 4), (true, 5), (true, 6), (true, 7), (true, 8), (true, 9), (true, 10), (true, 11), (true, 12), (true, 13), (true, 14), (true, 15), (true, 16), (true, 17)] (by kernel_rfl) (by kernel_rfl) (by kernel_rfl) (by kernel_rfl) ⟨c0, c1, c3⟩ ?_
      have HW := Lib.hid (show RBufAt w.drew g n x from ⟨H.out.whole.keep (Keep.refl (fun _ => False) w).drew id, H.out.ok, H.out.r⟩)
      have HK := Lib.hid ((Keep.refl (fun k => k = g) w).drew)
      clear c0 c1 c3 H
      generalize w.drew = w1 at *
      (repeat (refine wpSch_yes (v := ?_) rfl (fun _ _ _ h => h) (by rfl) ?_ ?_; rotate_left; (next => (intro w hSw; (try dsimp only at hSw); obtain ⟨hS1, hS2, hS3⟩ := hSw; go_simp; (try with_reducible rfl))); (try simp only [Act.put, List.setIfInBounds_toArray, List.set_cons_zero, List.set_cons_succ])))
      refine wpSch_nil ?_
      rw [room_if n, ← HR.out]
      generalize (if (1073741824 : Int) < n then (1073741824 : Int) else n) = q1
      try simp only [hw1]
      try simp only [hw2]
      try simp only [hw3]
      obtain ⟨D, hD⟩ : ∃ D, x.r - (x.w - x.b) = D := ⟨_, rfl⟩
      rw [hD]
      clear hw1 hw2 hw3
      rw [hD] at hf
      go_wp2
      go_ret
      exact ⟨rfl, HW.out, HK.out⟩
    · have e1 : wrE x m = 0 := (if_neg (by omega)).trans (if_neg hf)
      have e2 : wrX x m = { x with w := x.w + m } := if_neg (by omega)
      have ho := H.out.ok.wr_ (n := m) hb
      rw [e2] at ho
      have HO := Lib.hid ho
      rw [e1, e2]
      clear e1 e2 ho
      go_upto_region 3 with fail
      refine wp_region_sch (fun W => W.cell? ⟨g, 0, none⟩ = some (.int .i64 n) ∧ W.cell? ⟨g, 1, none⟩ = some (.int .u64 x.b) ∧ W.cell? ⟨g, 3, none⟩ = some (.int .u64 x.w)) [(true, 0), (true, 1), (true, 2), (true, 3), (true, 4), (true, 5), (true, 6), (true, 7), (true, 8), (true, 9), (true, 10), (true, 11), (true, 12), (true, 13), (true, 14), (true, 15), (true, 16), (true, 17)] (by kernel_rfl) (by kernel_rfl) (by kernel_rfl) (by kernel_rfl) ⟨c0, c1, c3⟩ ?_
      have HW := Lib.hid (show RBufAt w.drew g n x from ⟨H.out.whole.keep (Keep.refl (fun _ => False) w).drew id, H.out.ok, H.out.r⟩)
      have HK := Lib.hid ((Keep.refl (fun k => k = g) w).drew)
      clear c0 c1 c3 H
      generalize w.drew = w1 at *
      (repeat (refine wpSch_yes (v := ?_) rfl (fun _ _ _ h => h) (by rfl) ?_ ?_; rotate_left; (next => (intro w hSw; (try dsimp only at hSw); obtain ⟨hS1, hS2, hS3⟩ := hSw; go_simp; (try with_reducible rfl))); (try simp only [Act.put, List.setIfInBounds_toArray, List.set_cons_zero, List.set_cons_succ])))
      refine wpSch_nil ?_
      rw [room_if n, ← HR.out]
      generalize (if (1073741824 : Int) < n then (1073741824 : Int) else n) = q1
      try simp only [hw1]
      try simp only [hw2]
      try simp only [hw3]
      obtain ⟨D, hD⟩ : ∃ D, x.r - (x.w - x.b) = D := ⟨_, rfl⟩
      rw [hD]
      clear hw1 hw2 hw3
      rw [hD] at hf
      have c3 : w1.cell? ⟨g, 3, none⟩ = some (.int .u64 x.w) := HW.out.whole.cell 3
      have f3 : w1.frozen? ⟨g, 3, none⟩ = false := HW.out.whole.free 3
      go_wp2
      go_ret
      exact ⟨rfl, ⟨HW.out.whole.put 3 _, HO.out, HW.out.r⟩, HK.out.setCell (p := ⟨g, 3, none⟩) (.inl rfl) _⟩
set_option maxHeartbeats 4000000 in
theorem rbtake_any (h : RBufAt w g n x) (m : Int) (hm : m ≤ 9223372036854775807) : Calls Try.prog 10 #[.pointer (some ⟨g, 0, none⟩), .int .i64 m] w fun e w' => e = .returned (.tuple #[.agg #[.int .u64 (tkF x m), .int .u64 (tkT x m)], .bool (tkB x m)]) ∧ RBufAt w' g n (tkX x m) ∧ Keep (fun k => k = g) w w' := by
  have h3 := h.ok.tw; have h4 := h.ok.hi; have h0 : 0 ≤ x.t := Int.le_trans h.ok.b0 h.ok.bt
  have HA := Lib.hid (show RBufAt (w.alloc (.cells #[.int .u64 0, .int .u64 0] 33)) g n x from ⟨h.whole.alloc _, h.ok, h.r⟩)
  have HK := Lib.hid ((Keep.refl (fun k => k = g) w).alloc (.cells #[.int .u64 0, .int .u64 0] 33))
  have HZ := Lib.hid (Whole.new w 33 #[.int .u64 0, .int .u64 0])
  have HG : Hid (g ≠ w.heap.size) := Lib.hid (by have := h.whole.lt; omega)
  clear h
  by_cases hc : m < 1 ∨ x.t = x.w
  · have e := tk_none (x := x) (m := m) (by omega)
    rw [e.1, e.2.1, e.2.2.1, e.2.2.2]
    clear e
    have hc2 : m < 1 ∨ (¬ m < 1 ∧ (x.t == x.w) = true) := by
      rcases hc with h | h
      · exact .inl h
      · by_cases h1 : m < 1
        · exact .inl h1
        · exact .inr ⟨h1, by simp [h]⟩
    clear hc
    go_enter Try.func10, Try.ntmps10
    go_upto_region 1 with fail
    generalize hB : w.heap.size = B at *
    generalize w.alloc _ = w1 at *
    have c2 : w1.cell? ⟨g, 2, none⟩ = some (.int .u64 x.t) := HA.out.whole.cell 2
    have c3 : w1.cell? ⟨g, 3, none⟩ = some (.int .u64 x.w) := HA.out.whole.cell 3
    rcases hc2 with h1 | ⟨h1, h2⟩
    · skip
      refine wp_region_sch (fun W => W.cell? ⟨g, 2, none⟩ = some (.int .u64 x.t) ∧ W.cell? ⟨g, 3, none⟩ = some (.int .u64 x.w)) [(true, 0), (true, 1), (true, 2), (true, 3), (true, 4), (true, 5), (true, 6), (true, 7), (true, 8), (true, 9), (true, 10), (true, 11), (true, 12)] (by kernel_rfl) (by kernel_rfl) (by kernel_rfl) (by kernel_rfl) ⟨c2, c3⟩ ?_
      have HA2 := Lib.hid (show RBufAt w1.drew g n x from ⟨HA.out.whole.keep (Keep.refl (fun _ => False) w1).drew id, HA.out.ok, HA.out.r⟩)
      have HK2 := Lib.hid HK.out.drew
      have HZ2 := Lib.hid (HZ.out.keep (Keep.refl (fun _ => False) w1).drew id)
      clear c2 c3 HA HK HZ
      generalize w1.drew = w2 at *
      (repeat (first | (refine wpSch_no rfl (fun _ _ _ h => h) (by rfl) ?_; (try simp only [Act.put, List.setIfInBounds_toArray, List.set_cons_zero, List.set_cons_succ])) | (refine wpSch_yes (v := ?_) rfl (fun _ _ _ h => h) (by rfl) ?_ ?_; rotate_left; (next => (intro w hSw; (try dsimp only at hSw); obtain ⟨hS1, hS2⟩ := hSw; go_simp; (try with_reducible rfl))); (try simp only [Act.put, List.setIfInBounds_toArray, List.set_cons_zero, List.set_cons_succ]))))
      refine wpSch_nil ?_
      have HP := Lib.hid ((HZ2.out.put 0 (.int .u64 0)).put 1 (.int .u64 0))
      have HAP := Lib.hid (show RBufAt _ g n x from ⟨(HA2.out.whole.far (p := ⟨B, 0, none⟩) HG.out (.int .u64 0)).far (p := ⟨B, 1, none⟩) HG.out (.int .u64 0), HA2.out.ok, HA2.out.r⟩)
      have HKP := Lib.hid ((HK2.out.setCell (p := ⟨B, 0, none⟩) (.inr (by rw [hB]; exact Nat.le_refl _)) (.int .u64 0)).setCell (p := ⟨B, 1, none⟩) (.inr (by rw [hB]; exact Nat.le_refl _)) (.int .u64 0))
      have f0 := HZ2.out.free 0; have f1 := (HZ2.out.put 0 (.int .u64 0)).free 1
      have c0 : w2.cell? ⟨B, 0, none⟩ = some (.int .u64 0) := HZ2.out.cell 0
      have c1 : (w2.setCell ⟨B, 0, none⟩ (.int .u64 0)).cell? ⟨B, 1, none⟩ = some (.int .u64 0) := (HZ2.out.put 0 (.int .u64 0)).cell 1
      clear HA2 HK2 HZ2
      go_wp2
      clear f0 f1 c0 c1
      generalize World.setCell (World.setCell w2 _ _) _ _ = w3 at *
      have p0 := HP.out.cell 0; have p1 := HP.out.cell 1
      simp only [List.getElem?_toArray, List.getElem?_cons_zero, List.getElem?_cons_succ, List.setIfInBounds_toArray, List.set_cons_zero, List.set_cons_succ] at p0 p1
      try rw [Exit.noGoto_ret]
      refine bodyPost_ret (v := .tuple #[.agg #[.int .u64 0, .int .u64 0], .bool false]) (by rw [results_cell_tmp rfl]; go_simp) rfl ?_
      exact ⟨rfl, HAP.out, HKP.out⟩
    · skip
      refine wp_region_sch (fun W => W.cell? ⟨g, 2, none⟩ = some (.int .u64 x.t) ∧ W.cell? ⟨g, 3, none⟩ = some (.int .u64 x.w)) [(true, 0), (true, 1), (true, 2), (true, 3), (true, 4), (true, 5), (true, 6), (true, 7), (true, 8), (true, 9), (true, 10), (true, 11), (true, 12)] (by kernel_rfl) (by kernel_rfl) (by kernel_rfl) (by kernel_rfl) ⟨c2, c3⟩ ?_
      have HA2 := Lib.hid (show RBufAt w1.drew g n x from ⟨HA.out.whole.keep (Keep.refl (fun _ => False) w1).drew id, HA.out.ok, HA.out.r⟩)
      have HK2 := Lib.hid HK.out.drew
      have HZ2 := Lib.hid (HZ.out.keep (Keep.refl (fun _ => False) w1).drew id)
      clear c2 c3 HA HK HZ
      generalize w1.drew = w2 at *
      (repeat (first | (refine wpSch_no rfl (fun _ _ _ h => h) (by rfl) ?_; (try simp only [Act.put, List.setIfInBounds_toArray, List.set_cons_zero, List.set_cons_succ])) | (refine wpSch_yes (v := ?_) rfl (fun _ _ _ h => h) (by rfl) ?_ ?_; rotate_left; (next => (intro w hSw; (try dsimp only at hSw); obtain ⟨hS1, hS2⟩ := hSw; go_simp; (try with_reducible rfl))); (try simp only [Act.put, List.setIfInBounds_toArray, List.set_cons_zero, List.set_cons_succ]))))
      refine wpSch_nil ?_
      have HP := Lib.hid ((HZ2.out.put 0 (.int .u64 0)).put 1 (.int .u64 0))
      have HAP := Lib.hid (show RBufAt _ g n x from ⟨(HA2.out.whole.far (p := ⟨B, 0, none⟩) HG.out (.int .u64 0)).far (p := ⟨B, 1, none⟩) HG.out (.int .u64 0), HA2.out.ok, HA2.out.r⟩)
      have HKP := Lib.hid ((HK2.out.setCell (p := ⟨B, 0, none⟩) (.inr (by rw [hB]; exact Nat.le_refl _)) (.int .u64 0)).setCell (p := ⟨B, 1, none⟩) (.inr (by rw [hB]; exact Nat.le_refl _)) (.int .u64 0))
      have f0 := HZ2.out.free 0; have f1 := (HZ2.out.put 0 (.int .u64 0)).free 1
      have c0 : w2.cell? ⟨B, 0, none⟩ = some (.int .u64 0) := HZ2.out.cell 0
      have c1 : (w2.setCell ⟨B, 0, none⟩ (.int .u64 0)).cell? ⟨B, 1, none⟩ = some (.int .u64 0) := (HZ2.out.put 0 (.int .u64 0)).cell 1
      clear HA2 HK2 HZ2
      go_wp2
      clear f0 f1 c0 c1
      generalize World.setCell (World.setCell w2 _ _) _ _ = w3 at *
      have p0 := HP.out.cell 0; have p1 := HP.out.cell 1
      simp only [List.getElem?_toArray, List.getElem?_cons_zero, List.getElem?_cons_succ, List.setIfInBounds_toArray, List.set_cons_zero, List.set_cons_succ] at p0 p1
      try rw [Exit.noGoto_ret]
      refine bodyPost_ret (v := .tuple #[.agg #[.int .u64 0, .int .u64 0], .bool false]) (by rw [results_cell_tmp rfl]; go_simp) rfl ?_
      exact ⟨rfl, HAP.out, HKP.out⟩
  · have h1 : ¬ m < 1 := by omega
    have h2 : (x.t == x.w) = false := by simp; omega
    obtain ⟨K, hKK⟩ : ∃ K, min m (x.w - x.t) = K := ⟨_, rfl⟩
    have e := tk_some (x := x) (m := m) (by omega) hKK (by omega)
    have HKM := Lib.hid hKK
    have HKB : Hid (0 < K ∧ K ≤ x.w - x.t) := Lib.hid (by omega)
    have ho := HA.out.ok.tk_ m
    rw [e.2.2.2] at ho
    have HO := Lib.hid ho
    rw [e.1, e.2.1, e.2.2.1, e.2.2.2]
    clear e hc hKK ho
    go_enter Try.func10, Try.ntmps10
    go_upto_region 1 with fail
    generalize hB : w.heap.size = B at *
    generalize w.alloc _ = w1 at *
    have c2 : w1.cell? ⟨g, 2, none⟩ = some (.int .u64 x.t) := HA.out.whole.cell 2
    have c3 : w1.cell? ⟨g, 3, none⟩ = some (.int .u64 x.w) := HA.out.whole.cell 3
    refine wp_region_sch (fun W => W.cell? ⟨g, 2, none⟩ = some (.int .u64 x.t) ∧ W.cell? ⟨g, 3, none⟩ = some (.int .u64 x.w)) [(true, 0), (true, 1), (true, 2), (true, 3), (true, 4), (true, 5), (true, 6), (true, 7), (true, 8), (true, 9), (true, 10), (true, 11), (true, 12)] (by kernel_rfl) (by kernel_rfl) (by kernel_rfl) (by kernel_rfl) ⟨c2, c3⟩ ?_
    have HA2 := Lib.hid (show RBufAt w1.drew g n x from ⟨HA.out.whole.keep (Keep.refl (fun _ => False) w1).drew id, HA.out.ok, HA.out.r⟩)
    have HK2 := Lib.hid HK.out.drew
    have HZ2 := Lib.hid (HZ.out.keep (Keep.refl (fun _ => False) w1).drew id)
    clear c2 c3 HA HK HZ
    generalize w1.drew = w2 at *
    (repeat (first | (refine wpSch_no rfl (fun _ _ _ h => h) (by rfl) ?_; (try simp only [Act.put, List.setIfInBounds_toArray, List.set_cons_zero, List.set_cons_succ])) | (refine wpSch_yes (v := ?_) rfl (fun _ _ _ h => h) (by rfl) ?_ ?_; rotate_left; (next => (intro w hSw; (try dsimp only at hSw); obtain ⟨hS1, hS2⟩ := hSw; go_simp; (try with_reducible rfl))); (try simp only [Act.put, List.setIfInBounds_toArray, List.set_cons_zero, List.set_cons_succ]))))
    refine wpSch_nil ?_
    have c2 : w2.cell? ⟨g, 2, none⟩ = some (.int .u64 x.t) := HA2.out.whole.cell 2
    have c3 : w2.cell? ⟨g, 3, none⟩ = some (.int .u64 x.w) := HA2.out.whole.cell 3
    go_upto_region 3 with fail
    refine wp_region_sch (fun W => W.cell? ⟨g, 2, none⟩ = some (.int .u64 x.t) ∧ W.cell? ⟨g, 3, none⟩ = some (.int .u64 x.w)) [(true, 0), (true, 1), (true, 2), (true, 3), (true, 4), (true, 5), (true, 6), (true, 7), (true, 8), (true, 9), (true, 10), (true, 11), (true, 12), (true, 13), (true, 14), (true, 15), (true, 16), (true, 17), (true, 18), (true, 19), (true, 20), (true, 21), (false, 22), (false, 23)] (by kernel_rfl) (by kernel_rfl) (by kernel_rfl) (by kernel_rfl) ⟨c2, c3⟩ ?_
    have HA3 := Lib.hid (show RBufAt w2.drew g n x from ⟨HA2.out.whole.keep (Keep.refl (fun _ => False) w2).drew id, HA2.out.ok, HA2.out.r⟩)
    have HK3 := Lib.hid HK2.out.drew
    have HZ3 := Lib.hid (HZ2.out.keep (Keep.refl (fun _ => False) w2).drew id)
    clear c2 c3 HA2 HK2 HZ2 h2
    generalize w2.drew = w3 at *
    (repeat (first | (refine wpSch_no rfl (fun _ _ _ h => h) (by rfl) ?_; (try simp only [Act.put, List.setIfInBounds_toArray, List.set_cons_zero, List.set_cons_succ])) | (refine wpSch_yes (v := ?_) rfl (fun _ _ _ h => h) (by rfl) ?_ ?_; rotate_left; (next => (intro w hSw; (try dsimp only at hSw); obtain ⟨hS1, hS2⟩ := hSw; go_simp; (try with_reducible rfl))); (try simp only [Act.put, List.setIfInBounds_toArray, List.set_cons_zero, List.set_cons_succ]))))
    have wm : IntKind.u64.wrap m = m := by rw [IntKind.wrap_u64]; omega
    have wd : IntKind.u64.wrap (x.w - x.t) = x.w - x.t := by rw [IntKind.wrap_u64]; omega
    have wk : IntKind.u64.wrap (x.t + K) = x.t + K := by rw [IntKind.wrap_u64]; have := HKB.out; omega
    simp only [wm, wd]
    rw [show (if x.w - x.t < m then x.w - x.t else m) = K by rw [← HKM.out]; split <;> omega]
    simp only [wk]
    clear wm wd wk
    have HA4 := Lib.hid (show RBufAt (w3.alloc (.cells #[.int .u64 0, .int .u64 0] 33)) g n x from ⟨HA3.out.whole.alloc _, HA3.out.ok, HA3.out.r⟩)
    have HA5 := Lib.hid (show RBufAt (w3.alloc (.cells #[.int .u64 x.t, .int .u64 (x.t + K)] 33)) g n x from ⟨HA3.out.whole.alloc _, HA3.out.ok, HA3.out.r⟩)
    have HK5 := Lib.hid (HK3.out.alloc (.cells #[.int .u64 x.t, .int .u64 (x.t + K)] 33))
    have HZ5 := Lib.hid (HZ3.out.alloc (.cells #[.int .u64 x.t, .int .u64 (x.t + K)] 33))
    have HY5 := Lib.hid (Whole.new w3 33 #[.int .u64 x.t, .int .u64 (x.t + K)])
    have HB3 : Hid (B < w3.heap.size) := Lib.hid HZ3.out.lt
    refine wpSch_call rfl (by rfl) (fun K' hK' => ?_); go_simp
    refine hK'.out _ _ ⟨HA4.out.whole.cell 2, HA4.out.whole.cell 3⟩ (fun hHeld => ?_)
    clear hK' K' hHeld
    (try simp only [Act.put, List.setIfInBounds_toArray, List.set_cons_zero, List.set_cons_succ])
    refine wpSch_call rfl (by rfl) (fun K' hK' => ?_); go_simp
    refine hK'.out _ _ ⟨HA5.out.whole.cell 2, HA5.out.whole.cell 3⟩ (fun hHeld => ?_)
    clear hK' K' hHeld HA4 HA3 HK3 HZ3
    (try simp only [Act.put, List.setIfInBounds_toArray, List.set_cons_zero, List.set_cons_succ])
    refine wpSch_nil ?_
    generalize hY : w3.heap.size = Y at *
    generalize World.alloc w3 _ = w5 at *
    have HGY : Hid (g ≠ Y) := Lib.hid (by
      have := HA5.out.whole.lt
      intro e
      subst e
      have h1 := HA5.out.whole
      have h2 := HY5.out
      unfold Whole at h1 h2
      rw [h1] at h2
      simp at h2)
    clear hY
    have y1 : w5.cell? ⟨Y, 1, none⟩ = some (.int .u64 (x.t + K)) := HY5.out.cell 1
    have c2 : w5.cell? ⟨g, 2, none⟩ = some (.int .u64 x.t) := HA5.out.whole.cell 2
    have f2 : w5.frozen? ⟨g, 2, none⟩ = false := HA5.out.whole.free 2
    have HA6 := Lib.hid (show RBufAt (w5.setCell ⟨g, 2, none⟩ (.int .u64 (x.t + K))) g n { x with t := x.t + K } from ⟨HA5.out.whole.put 2 _, HO.out, HA5.out.r⟩)
    have HY6 := Lib.hid (HY5.out.far (p := ⟨g, 2, none⟩) (fun e => HGY.out e.symm) (.int .u64 (x.t + K)))
    have HZ6 := Lib.hid (HZ5.out.far (p := ⟨g, 2, none⟩) (fun e => HG.out e.symm) (.int .u64 (x.t + K)))
    have HK6 := Lib.hid (HK5.out.setCell (p := ⟨g, 2, none⟩) (.inl rfl) (.int .u64 (x.t + K)))
    clear HA5 HY5 HZ5 HK5
    go_upto_region 5 with fail
    clear y1 c2 f2
    generalize World.setCell w5 _ _ = w6 at *
    have y0 : w6.cell? ⟨Y, 0, none⟩ = some (.int .u64 x.t) := HY6.out.cell 0
    have y1 : w6.cell? ⟨Y, 1, none⟩ = some (.int .u64 (x.t + K)) := HY6.out.cell 1
    have HP := Lib.hid ((HZ6.out.put 0 (.int .u64 x.t)).put 1 (.int .u64 (x.t + K)))
    have HAP := Lib.hid (show RBufAt _ g n { x with t := x.t + K } from ⟨(HA6.out.whole.far (p := ⟨B, 0, none⟩) HG.out (.int .u64 x.t)).far (p := ⟨B, 1, none⟩) HG.out (.int .u64 (x.t + K)), HA6.out.ok, HA6.out.r⟩)
    have HKP := Lib.hid ((HK6.out.setCell (p := ⟨B, 0, none⟩) (.inr (by rw [hB]; exact Nat.le_refl _)) (.int .u64 x.t)).setCell (p := ⟨B, 1, none⟩) (.inr (by rw [hB]; exact Nat.le_refl _)) (.int .u64 (x.t + K)))
    have f0 := HZ6.out.free 0; have f1 := (HZ6.out.put 0 (.int .u64 x.t)).free 1
    have c0 : w6.cell? ⟨B, 0, none⟩ = some (.int .u64 0) := HZ6.out.cell 0
    have c1 : (w6.setCell ⟨B, 0, none⟩ (.int .u64 x.t)).cell? ⟨B, 1, none⟩ = some (.int .u64 0) := (HZ6.out.put 0 (.int .u64 x.t)).cell 1
    clear HA6 HK6 HZ6 HY6
    go_wp2
    clear f0 f1 c0 c1 y0 y1
    generalize World.setCell (World.setCell w6 _ _) _ _ = w7 at *
    have p0 := HP.out.cell 0; have p1 := HP.out.cell 1
    simp only [List.getElem?_toArray, List.getElem?_cons_zero, List.getElem?_cons_succ, List.setIfInBounds_toArray, List.set_cons_zero, List.set_cons_succ] at p0 p1
    try rw [Exit.noGoto_ret]
    refine bodyPost_ret (v := .tuple #[.agg #[.int .u64 x.t, .int .u64 (x.t + K)], .bool true]) (by rw [results_cell_tmp rfl]; go_simp) rfl ?_
    exact ⟨rfl, HAP.out, HKP.out⟩
end
end Go.Proofs.Ythkehdoolnjjeaa
