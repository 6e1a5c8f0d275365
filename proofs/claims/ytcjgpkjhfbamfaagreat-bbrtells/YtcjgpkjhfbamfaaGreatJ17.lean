/-
  The document's own policer (canterref08.Policer): Update leaves what package policer's does. Conditions: the sample's numbers are of 64 bits.
-/
import Derived.Test.YtcjgpkjhfbamfaaGreatJ01
import Derived.Test.YtcjgpkjhfbamfaaGreatJ12
import Derived.Test.YtcjgpkjhfbamfaaGreatJ14
set_option linter.unusedVariables false
set_option linter.unusedSimpArgs false
namespace Go.Proofs.YtcjgpkjhfbamfaaGreat
open Go.RowKit
set_option maxRecDepth 100000
variable {Fm : Fr} {oo : Nat}

/-- The cells of a Policer of canterref08; N: its rounds. -/
def RPolW (Fm : Fr) (oo : Nat) (w : World) (g : Nat) (x : Pol) (N : Int) : Prop := Part Fm oo w g #[.bool x.u, .bool x.m, .int .u64 x.b, .int .i64 N, .int .u64 x.o, .int .u64 x.n, .int .u64 x.d, .int .u64 x.l].toList
/-- A Policer of canterref08 that answers as x does: the rounds are those of x as long as it is in use, or samples. -/
structure RPolAt (Fm : Fr) (oo : Nat) (w : World) (g : Nat) (x : Pol) : Prop where
  fit : x.Fit
  at_ : ∃ N, RPolW Fm oo w g x N ∧ (x.u = true ∨ x.m = true → N = x.r)
section
variable {w w' : World} {g : Nat} {x : Pol} {R : Nat → Prop}
theorem RPolAt.keep (h : RPolAt Fm oo w g x) (hk : Keep R w w') (hg : ¬ R g) : RPolAt Fm oo w' g x := by
  obtain ⟨hf, N, hw, hn⟩ := h
  exact ⟨hf, N, Part.keep hw hk hg, hn⟩
theorem RPolAt.lt (h : RPolAt Fm oo w g x) : g < w.heap.size := by
  obtain ⟨hf, N, hw, hn⟩ := h
  exact Part.lt hw
theorem RPolAt.c0 (h : RPolAt Fm oo w g x) : w.cell? ⟨g, oo, none⟩ = some (.bool x.u) := by
  obtain ⟨hf, N, hw, hn⟩ := h
  exact Part.cell0 hw
theorem RPolAt.c2 (h : RPolAt Fm oo w g x) : w.cell? ⟨g, oo + 2, none⟩ = some (.int .u64 x.b) := by
  obtain ⟨hf, N, hw, hn⟩ := h
  exact Part.cell hw 2
end
set_option maxHeartbeats 400000 in
theorem rpstop_any (g : Nat) (x : Pol) (N : Int) (w : World) (h : RPolW Fm oo w g x N) : Calls Tryz.prog 68 #[.pointer (some ⟨g, oo, none⟩)] w fun e w' => (∃ v, e = .returned v) ∧ RPolW Fm oo w' g (forPol x) N ∧ Keep (fun k => k = g) w w' := by
  have c1 : w.cell? ⟨g, oo + 1, none⟩ = some (.bool x.m) := Part.cell h 1
  have f1 := Part.free h 1
  have HP1 := Lib.hid (Part.put h 1 (.bool false))
  have c2 : (w.setCell ⟨g, oo + 1, none⟩ (.bool false)).cell? ⟨g, oo + 2, none⟩ = some (.int .u64 x.b) := HP1.out.cell 2
  have f2 := HP1.out.free 2
  have HP2 := Lib.hid (HP1.out.put 2 (.int .u64 0))
  have HK := Lib.hid (((Keep.refl (fun k => k = g) w).setCell (p := ⟨g, oo + 1, none⟩) (.inl rfl) (.bool false)).setCell (p := ⟨g, oo + 2, none⟩) (.inl rfl) (.int .u64 0))
  clear h HP1
  go_enter Tryz.func68, Tryz.ntmps68
  go_wp2
  go_end0
  exact ⟨⟨_, rfl⟩, HP2.out, HK.out⟩
set_option maxHeartbeats 1000000 in
theorem rpbegin_any (g : Nat) (x : Pol) (s : Spl) (N : Int) (w : World) (h : RPolW Fm oo w g x N) : Calls Tryz.prog 69 #[.pointer (some ⟨g, oo, none⟩), s.v] w fun e w' => (∃ v, e = .returned v) ∧ RPolW Fm oo w' g (begPol x s) 0 ∧ Keep (fun k => k = g) w w' := by
  have H1 := Lib.hid (Part.alloc h (.cells s.c 34))
  have HB := Lib.hid (Whole.new w 34 s.c)
  have HK := Lib.hid ((Keep.refl (fun k => k = g) w).alloc (.cells s.c 34))
  have HBG := Lib.hid (Nat.ne_of_gt (Part.lt h))
  clear h
  go_enter Tryz.func69, Tryz.ntmps69
  go_upto_region 1 with fail
  generalize hw1 : World.alloc w _ = w1 at *
  generalize w.heap.size = B at *
  clear hw1
  have e1 : w1.cell? ⟨g, oo + 1, none⟩ = some (.bool x.m) := H1.out.cell 1
  have f1 := H1.out.free 1
  have P1 := H1.out.put 1 (.bool true)
  have D1 := HB.out.far (p := ⟨g, oo + 1, none⟩) HBG.out (.bool true)
  have e3 : (w1.setCell ⟨g, oo + 1, none⟩ (.bool true)).cell? ⟨g, oo + 3, none⟩ = some (.int .i64 N) := P1.cell 3
  have f3 := P1.free 3
  have P3 := Lib.hid (P1.put 3 (.int .i64 0))
  have D3 := Lib.hid (D1.far (p := ⟨g, oo + 3, none⟩) HBG.out (.int .i64 0))
  have K3 := Lib.hid ((HK.out.setCell (p := ⟨g, oo + 1, none⟩) (.inl rfl) (.bool true)).setCell (p := ⟨g, oo + 3, none⟩) (.inl rfl) (.int .i64 0))
  clear P1 D1 H1 HB HK
  go_upto_region 2 with fail
  clear e1 f1 e3 f3
  generalize World.setCell _ _ _ = w2 at *
  have P5 := P3.out.drew.put 5 (.int .u64 s.n)
  have D5 := D3.out.drew.far (p := ⟨g, oo + 5, none⟩) HBG.out (.int .u64 s.n)
  have P6 := P5.put 6 (.int .u64 s.d)
  have D6 := D5.far (p := ⟨g, oo + 6, none⟩) HBG.out (.int .u64 s.d)
  have P7 := P6.put 7 (.int .u64 x.o)
  have D7 := D6.far (p := ⟨g, oo + 7, none⟩) HBG.out (.int .u64 x.o)
  have K7 := Lib.hid (((K3.out.drew.setCell (p := ⟨g, oo + 5, none⟩) (.inl rfl) (.int .u64 s.n)).setCell (p := ⟨g, oo + 6, none⟩) (.inl rfl) (.int .u64 s.d)).setCell (p := ⟨g, oo + 7, none⟩) (.inl rfl) (.int .u64 x.o))
  have e5 : w2.drew.cell? ⟨g, oo + 5, none⟩ = some (.int .u64 x.n) := P3.out.drew.cell 5
  have f5 := P3.out.drew.free 5
  have e6 : (w2.drew.setCell ⟨g, oo + 5, none⟩ (.int .u64 s.n)).cell? ⟨g, oo + 6, none⟩ = some (.int .u64 x.d) := P5.cell 6
  have f6 := P5.free 6
  have e7 : ((w2.drew.setCell ⟨g, oo + 5, none⟩ (.int .u64 s.n)).setCell ⟨g, oo + 6, none⟩ (.int .u64 s.d)).cell? ⟨g, oo + 7, none⟩ = some (.int .u64 x.l) := P6.cell 7
  have f7 := P6.free 7
  have S0 : Hid (w2.drew.cell? ⟨B, 0, none⟩ = some (.int .u64 s.n) ∧ w2.drew.cell? ⟨B, 1, none⟩ = some (.int .u64 s.d) ∧ w2.drew.cell? ⟨g, oo + 4, none⟩ = some (.int .u64 x.o)) := Lib.hid ⟨D3.out.drew.cell0, D3.out.drew.cell 1, P3.out.drew.cell 4⟩
  have S5 : Hid ((w2.drew.setCell ⟨g, oo + 5, none⟩ (.int .u64 s.n)).cell? ⟨B, 0, none⟩ = some (.int .u64 s.n) ∧ (w2.drew.setCell ⟨g, oo + 5, none⟩ (.int .u64 s.n)).cell? ⟨B, 1, none⟩ = some (.int .u64 s.d) ∧ (w2.drew.setCell ⟨g, oo + 5, none⟩ (.int .u64 s.n)).cell? ⟨g, oo + 4, none⟩ = some (.int .u64 x.o)) := Lib.hid ⟨D5.cell0, D5.cell 1, P5.cell 4⟩
  have S6 : Hid (((w2.drew.setCell ⟨g, oo + 5, none⟩ (.int .u64 s.n)).setCell ⟨g, oo + 6, none⟩ (.int .u64 s.d)).cell? ⟨B, 0, none⟩ = some (.int .u64 s.n) ∧ ((w2.drew.setCell ⟨g, oo + 5, none⟩ (.int .u64 s.n)).setCell ⟨g, oo + 6, none⟩ (.int .u64 s.d)).cell? ⟨B, 1, none⟩ = some (.int .u64 s.d) ∧ ((w2.drew.setCell ⟨g, oo + 5, none⟩ (.int .u64 s.n)).setCell ⟨g, oo + 6, none⟩ (.int .u64 s.d)).cell? ⟨g, oo + 4, none⟩ = some (.int .u64 x.o)) := Lib.hid ⟨D6.cell0, D6.cell 1, P6.cell 4⟩
  have S7 : Hid ((((w2.drew.setCell ⟨g, oo + 5, none⟩ (.int .u64 s.n)).setCell ⟨g, oo + 6, none⟩ (.int .u64 s.d)).setCell ⟨g, oo + 7, none⟩ (.int .u64 x.o)).cell? ⟨B, 0, none⟩ = some (.int .u64 s.n) ∧ (((w2.drew.setCell ⟨g, oo + 5, none⟩ (.int .u64 s.n)).setCell ⟨g, oo + 6, none⟩ (.int .u64 s.d)).setCell ⟨g, oo + 7, none⟩ (.int .u64 x.o)).cell? ⟨B, 1, none⟩ = some (.int .u64 s.d) ∧ (((w2.drew.setCell ⟨g, oo + 5, none⟩ (.int .u64 s.n)).setCell ⟨g, oo + 6, none⟩ (.int .u64 s.d)).setCell ⟨g, oo + 7, none⟩ (.int .u64 x.o)).cell? ⟨g, oo + 4, none⟩ = some (.int .u64 x.o)) := Lib.hid ⟨D7.cell0, D7.cell 1, P7.cell 4⟩
  have HP7 := Lib.hid P7
  clear P5 P6 P7 D5 D6 D7 P3 D3 K3
  refine wp_region_sch (fun W => W.cell? ⟨B, 0, none⟩ = some (.int .u64 s.n) ∧ W.cell? ⟨B, 1, none⟩ = some (.int .u64 s.d) ∧ W.cell? ⟨g, oo + 4, none⟩ = some (.int .u64 x.o)) [(true, 0), (true, 1), (true, 2), (true, 3), (true, 4), (true, 5), (true, 6), (true, 7), (true, 8), (true, 9), (true, 10), (true, 11), (true, 12), (false, 13), (true, 14), (true, 15), (false, 16), (true, 17), (true, 18), (false, 19)] (by kernel_rfl) (by kernel_rfl) (by kernel_rfl) (by kernel_rfl) S0.out ?_
  generalize w2.drew = w3 at *
  (repeat (refine wpSch_yes (v := ?_) rfl (fun _ _ _ h => h) (by rfl) ?_ ?_; rotate_left; (next => (intro w hSw; (try dsimp only at hSw); obtain ⟨hS1, hS2, hS3⟩ := hSw; go_simp; (try with_reducible rfl))); (try simp only [Act.put, List.setIfInBounds_toArray, List.set_cons_zero, List.set_cons_succ])))
  refine wpSch_call rfl (by rfl) (fun K hK => ?_); go_simp
  refine hK.out _ _ S5.out (fun hHeld => ?_)
  clear hK K hHeld
  (try simp only [Act.put, List.setIfInBounds_toArray, List.set_cons_zero, List.set_cons_succ])
  (repeat (refine wpSch_yes (v := ?_) rfl (fun _ _ _ h => h) (by rfl) ?_ ?_; rotate_left; (next => (intro w hSw; (try dsimp only at hSw); obtain ⟨hS1, hS2, hS3⟩ := hSw; go_simp; (try with_reducible rfl))); (try simp only [Act.put, List.setIfInBounds_toArray, List.set_cons_zero, List.set_cons_succ])))
  refine wpSch_call rfl (by rfl) (fun K hK => ?_); go_simp
  refine hK.out _ _ S6.out (fun hHeld => ?_)
  clear hK K hHeld
  (try simp only [Act.put, List.setIfInBounds_toArray, List.set_cons_zero, List.set_cons_succ])
  (repeat (refine wpSch_yes (v := ?_) rfl (fun _ _ _ h => h) (by rfl) ?_ ?_; rotate_left; (next => (intro w hSw; (try dsimp only at hSw); obtain ⟨hS1, hS2, hS3⟩ := hSw; go_simp; (try with_reducible rfl))); (try simp only [Act.put, List.setIfInBounds_toArray, List.set_cons_zero, List.set_cons_succ])))
  refine wpSch_call rfl (by rfl) (fun K hK => ?_); go_simp
  refine hK.out _ _ S7.out (fun hHeld => ?_)
  clear hK K hHeld
  (try simp only [Act.put, List.setIfInBounds_toArray, List.set_cons_zero, List.set_cons_succ])
  refine wpSch_nil ?_
  go_wp2
  go_end0
  exact ⟨⟨_, rfl⟩, HP7.out, K7.out⟩
set_option maxHeartbeats 400000 in
theorem rpnear_any (b v : Int) (w : World) (hb : Num b) (hv : Num v) : Calls Tryz.prog 100 #[.int .u64 b, .int .u64 v] w fun e w' => e = .returned (.bool (decide (gapPol v b ≤ b / 8))) ∧ w = w' := by
  obtain ⟨hb0, hb1⟩ := hb
  obtain ⟨hv0, hv1⟩ := hv
  have t8 : b.tdiv 8 = b / 8 := Int.tdiv_eq_ediv_of_nonneg hb0
  have w8 : IntKind.u64.wrap (b / 8) = b / 8 := by rw [IntKind.wrap_u64]; omega
  rcases Int.lt_trichotomy v b with hl | hl | hl
  · have HE : Hid (decide (b - v ≤ b / 8) = decide (gapPol v b ≤ b / 8)) := Lib.hid (by simp [gapPol, hl])
    have hn : ¬ b < v := by omega
    have hwr : IntKind.u64.wrap (b - v) = b - v := by rw [IntKind.wrap_u64]; omega
    clear hb0 hb1 hv0 hv1
    go_enter Tryz.func100, Tryz.ntmps100
    go_wp2
    go_ret
    exact ⟨ret_b HE.out, rfl⟩
  · have hl := hl.symm
    subst hl
    have HE : Hid (decide (IntKind.u64.wrap 0 ≤ b / 8) = decide (gapPol b b ≤ b / 8)) := Lib.hid (by
      rw [show IntKind.u64.wrap 0 = 0 by decide]
      simp [gapPol])
    have hn : ¬ b < b := by omega
    clear hb0 hb1 hv0 hv1
    go_enter Tryz.func100, Tryz.ntmps100
    go_wp2
    go_ret
    first | exact ⟨ret_b HE.out, rfl⟩ | exact ⟨ret_b (by rw [← HE.out, show IntKind.u64.wrap 0 = 0 by decide]), rfl⟩
  · have hn : ¬ v < b := by omega
    have HE : Hid (decide (v - b ≤ b / 8) = decide (gapPol v b ≤ b / 8)) := Lib.hid (by simp [gapPol, hn])
    have hwr : IntKind.u64.wrap (v - b) = v - b := by rw [IntKind.wrap_u64]; omega
    clear hb0 hb1 hv0 hv1
    go_enter Tryz.func100, Tryz.ntmps100
    go_wp2
    go_ret
    exact ⟨ret_b HE.out, rfl⟩
end Go.Proofs.YtcjgpkjhfbamfaaGreat
