/-
  The document's own window (canterref08.Win): NewWin, Reset, beats, set, shift, and canterref01.Sub: what they answer and leave. Conditions: the window lies in memory as NewWin makes it; the numbers are of their kind.
-/
import Derived.Test.YtbimmadllfgmiaaGreatWinSt
import Derived.Test.YtbimmadllfgmiaaGreatSchedL
import Derived.Test.YtbimmadllfgmiaaGreatChecked
import Derived.WalkSpells
import Derived.WalkLawsBesides
import Derived.LoopTactic
import Derived.Deep.QuietTactic
import Derived.Deep.DeepCutAuto
import Derived.Deep.Draws
import Derived.BigQuiet
namespace Go.Proofs.YtbimmadllfgmiaaGreat
open Go.RowKit
set_option maxRecDepth 100000

def winC (win : Int) (x : Tri) (least : Bool) : Array Value := #[.int .u64 win, .int .u64 x.t0, .int .u64 x.t1, .int .u64 x.t2, .int .u64 x.v0, .int .u64 x.v1, .int .u64 x.v2, .int .u64 x.l, .bool least]
/-- The document's window. -/
structure WinAt (w : World) (g : Nat) (win : Int) (x : Tri) (least : Bool) : Prop where
  whole : Whole w g 94 (winC win x least)
  fit : x.Fit
  win : Num win
section
variable {w w' : World} {g : Nat} {win t : Int} {x : Tri} {least : Bool} {R : Nat → Prop}
theorem WinAt.keep (h : WinAt w g win x least) (hk : Keep R w w') (hg : ¬ R g) : WinAt w' g win x least := ⟨h.whole.keep hk hg, h.fit, h.win⟩
theorem WinAt.kept (h : WinAt w g win x least) (hk : Keep (fun _ => False) w w') : WinAt w' g win x least := h.keep hk id
theorem WinAt.drewN (h : WinAt w g win x least) (m : Nat) : WinAt (w.drewN m) g win x least := ⟨h.whole.drewN m, h.fit, h.win⟩
theorem WinAt.drew (h : WinAt w g win x least) : WinAt w.drew g win x least := ⟨h.whole.drew, h.fit, h.win⟩
theorem WinAt.alloc (h : WinAt w g win x least) (o : Obj) : WinAt (w.alloc o) g win x least := ⟨h.whole.alloc o, h.fit, h.win⟩
theorem WinAt.lt (h : WinAt w g win x least) : g < w.heap.size := h.whole.lt
theorem WinAt.last (h : WinAt w g win x least) (ht : x.l ≤ t) (ht1 : t ≤ 18446744073709551615) : WinAt (w.setCell ⟨g, 7, none⟩ (.int .u64 t)) g win (lastT x t) least :=
  ⟨h.whole.put 7 _, h.fit.last ht ht1, h.win⟩
end

theorem rsub_is {a b : Int} (h : b ≤ a) (hb : 0 ≤ b) (ha : a ≤ 18446744073709551615) (w : World) : Calls Tryz.prog 43 #[.int .u64 a, .int .u64 b] w fun e w' => e = .returned (.int .u64 (a - b)) ∧ w = w' := by
  go_enter Tryz.func43, Tryz.ntmps43
  go_wp2
  go_ret
  exact ⟨rfl, rfl⟩

set_option maxHeartbeats 400000 in
theorem rnew_false (win : Int) (hw : Num win) (w : World) : Calls Tryz.prog 19 #[.int .u64 win, .bool false] w fun e w' => e = .returned (.pointer (some ⟨w.heap.size, 0, none⟩)) ∧ WinAt w' w.heap.size win (newT 0) false ∧ Keep (fun _ => False) w w' := by
  have HW := Lib.hid hw; clear hw
  go_enter Tryz.func19, Tryz.ntmps19
  go_wp2
  go_ret
  exact ⟨rfl, ⟨Whole.new _ _ _, fit_new ⟨by omega, by omega⟩, HW.out⟩, (Keep.refl _ _).alloc _⟩
set_option maxHeartbeats 400000 in
theorem rnew_true (win : Int) (hw : Num win) (w : World) : Calls Tryz.prog 19 #[.int .u64 win, .bool true] w fun e w' => e = .returned (.pointer (some ⟨w.heap.size, 0, none⟩)) ∧ WinAt w' w.heap.size win (newT 18446744073709551615) true ∧ Keep (fun _ => False) w w' := by
  have HW := Lib.hid hw; clear hw
  go_enter Tryz.func19, Tryz.ntmps19
  go_wp2
  go_ret
  exact ⟨rfl, ⟨Whole.new _ _ _, fit_new ⟨by omega, by omega⟩, HW.out⟩, (Keep.refl _ _).alloc _⟩

set_option maxHeartbeats 400000 in
theorem beats0_is {f : Bool} {win v : Int} {x : Tri} {least : Bool} (g : Nat) (w : World) (h : WinAt w g win x least) (hf : decide (beatsT least v x.v0) = f) :
    Calls Tryz.prog 73 #[.pointer (some ⟨g, 0, none⟩), .int .u64 v, .int .i64 0] w fun e w' => e = .returned (.bool f) ∧ w = w' := by
  subst hf
  have c1 : w.cell? ⟨g, 4, none⟩ = some (.int .u64 x.v0) := h.whole.cell 4
  have c2 : w.cell? ⟨g, 8, none⟩ = some (.bool least) := h.whole.cell 8
  clear h
  generalize x.v0 = u at *
  cases least
  · have HE : Hid (decide (beatsT false v u) = decide (u ≤ v)) := Lib.hid rfl
    go_enter Tryz.func73, Tryz.ntmps73
    go_wp2
    go_ret
    exact ⟨ret_b HE.out.symm, rfl⟩
  · have HE : Hid (decide (beatsT true v u) = decide (v ≤ u)) := Lib.hid rfl
    go_enter Tryz.func73, Tryz.ntmps73
    go_wp2
    go_ret
    exact ⟨ret_b HE.out.symm, rfl⟩
set_option maxHeartbeats 400000 in
theorem beats1_is {f : Bool} {win v : Int} {x : Tri} {least : Bool} (g : Nat) (w : World) (h : WinAt w g win x least) (hf : decide (beatsT least v x.v1) = f) :
    Calls Tryz.prog 73 #[.pointer (some ⟨g, 0, none⟩), .int .u64 v, .int .i64 1] w fun e w' => e = .returned (.bool f) ∧ w = w' := by
  subst hf
  have c1 : w.cell? ⟨g, 5, none⟩ = some (.int .u64 x.v1) := h.whole.cell 5
  have c2 : w.cell? ⟨g, 8, none⟩ = some (.bool least) := h.whole.cell 8
  clear h
  generalize x.v1 = u at *
  cases least
  · have HE : Hid (decide (beatsT false v u) = decide (u ≤ v)) := Lib.hid rfl
    go_enter Tryz.func73, Tryz.ntmps73
    go_wp2
    go_ret
    exact ⟨ret_b HE.out.symm, rfl⟩
  · have HE : Hid (decide (beatsT true v u) = decide (v ≤ u)) := Lib.hid rfl
    go_enter Tryz.func73, Tryz.ntmps73
    go_wp2
    go_ret
    exact ⟨ret_b HE.out.symm, rfl⟩
set_option maxHeartbeats 400000 in
theorem beats2_is {f : Bool} {win v : Int} {x : Tri} {least : Bool} (g : Nat) (w : World) (h : WinAt w g win x least) (hf : decide (beatsT least v x.v2) = f) :
    Calls Tryz.prog 73 #[.pointer (some ⟨g, 0, none⟩), .int .u64 v, .int .i64 2] w fun e w' => e = .returned (.bool f) ∧ w = w' := by
  subst hf
  have c1 : w.cell? ⟨g, 6, none⟩ = some (.int .u64 x.v2) := h.whole.cell 6
  have c2 : w.cell? ⟨g, 8, none⟩ = some (.bool least) := h.whole.cell 8
  clear h
  generalize x.v2 = u at *
  cases least
  · have HE : Hid (decide (beatsT false v u) = decide (u ≤ v)) := Lib.hid rfl
    go_enter Tryz.func73, Tryz.ntmps73
    go_wp2
    go_ret
    exact ⟨ret_b HE.out.symm, rfl⟩
  · have HE : Hid (decide (beatsT true v u) = decide (v ≤ u)) := Lib.hid rfl
    go_enter Tryz.func73, Tryz.ntmps73
    go_wp2
    go_ret
    exact ⟨ret_b HE.out.symm, rfl⟩
set_option maxHeartbeats 1000000 in
theorem set1_is {win t v : Int} {x : Tri} {least : Bool} (g : Nat) (w : World) (h : WinAt w g win x least) (h0 : 0 ≤ t) (ht : t ≤ x.l) (hv : Num v) :
    Calls Tryz.prog 75 #[.pointer (some ⟨g, 0, none⟩), .int .i64 1, .int .u64 t, .int .u64 v] w fun e w' => (∃ v, e = .returned v) ∧ WinAt w' g win ⟨x.l, x.t0, x.v0, t, v, x.t2, x.v2⟩ least ∧ Keep (fun k => k = g) w w' := by
  have f1 := h.whole.free 2
  have c1 : w.cell? ⟨g, 2, none⟩ = some (.int .u64 x.t1) := h.whole.cell 2
  have f2 := (h.whole.put 2 (.int .u64 t)).free 5
  have c2 : (w.setCell ⟨g, 2, none⟩ (.int .u64 t)).cell? ⟨g, 5, none⟩ = some (.int .u64 x.v1) := (h.whole.put 2 (.int .u64 t)).cell 5
  have H2 : Hid (WinAt (((w.setCell ⟨g, 2, none⟩ (.int .u64 t)).setCell ⟨g, 5, none⟩ (.int .u64 v)).drew) g win ⟨x.l, x.t0, x.v0, t, v, x.t2, x.v2⟩ least) := Lib.hid ⟨((h.whole.put 2 (.int .u64 t)).put 5 (.int .u64 v)).drew, ⟨h.fit.l1, h.fit.a0, ⟨h0, ht⟩, h.fit.a2, h.fit.b0, hv, h.fit.b2⟩, h.win⟩
  have K2 : Hid (Keep (fun k => k = g) w (((w.setCell ⟨g, 2, none⟩ (.int .u64 t)).setCell ⟨g, 5, none⟩ (.int .u64 v)).drew)) := Lib.hid (((Keep.refl (fun k => k = g) w).setCell (p := ⟨g, 2, none⟩) (.inl rfl) _).setCell (p := ⟨g, 5, none⟩) (.inl rfl) _).drew
  clear h hv h0 ht
  go_enter Tryz.func75, Tryz.ntmps75
  go_wp2
  refine wp_region_sch (fun _ => True) [(true, 0), (true, 1), (true, 2), (true, 3), (true, 4), (true, 5), (true, 6), (true, 7), (true, 8), (true, 10), (true, 11), (false, 9), (true, 12), (false, 13)] (by kernel_rfl) (by kernel_rfl) (by kernel_rfl) (by kernel_rfl) trivial ?_
  (repeat (refine wpSch_yes (v := ?_) rfl (fun _ _ _ h => h) (by rfl) ?_ ?_; rotate_left; (next => (intro w hSw; go_simp; (try with_reducible rfl))); (try simp only [Act.put, List.setIfInBounds_toArray, List.set_cons_zero, List.set_cons_succ])))
  refine wpSch_call rfl (by rfl) (fun K hK => ?_)
  go_simp
  refine hK.out _ _ trivial (fun hHeld => ?_)
  clear hK K hHeld
  (try simp only [Act.put, List.setIfInBounds_toArray, List.set_cons_zero, List.set_cons_succ])
  (repeat (refine wpSch_yes (v := ?_) rfl (fun _ _ _ h => h) (by rfl) ?_ ?_; rotate_left; (next => (intro w hSw; go_simp; (try with_reducible rfl))); (try simp only [Act.put, List.setIfInBounds_toArray, List.set_cons_zero, List.set_cons_succ])))
  refine wpSch_call rfl (by rfl) (fun K hK => ?_)
  go_simp
  refine hK.out _ _ trivial (fun hHeld => ?_)
  clear hK K hHeld
  (try simp only [Act.put, List.setIfInBounds_toArray, List.set_cons_zero, List.set_cons_succ])
  refine wpSch_nil ?_
  go_wp2
  go_end0
  exact ⟨⟨_, rfl⟩, H2.out, K2.out⟩
set_option maxHeartbeats 1000000 in
theorem set2_is {win t v : Int} {x : Tri} {least : Bool} (g : Nat) (w : World) (h : WinAt w g win x least) (h0 : 0 ≤ t) (ht : t ≤ x.l) (hv : Num v) :
    Calls Tryz.prog 75 #[.pointer (some ⟨g, 0, none⟩), .int .i64 2, .int .u64 t, .int .u64 v] w fun e w' => (∃ v, e = .returned v) ∧ WinAt w' g win ⟨x.l, x.t0, x.v0, x.t1, x.v1, t, v⟩ least ∧ Keep (fun k => k = g) w w' := by
  have f1 := h.whole.free 3
  have c1 : w.cell? ⟨g, 3, none⟩ = some (.int .u64 x.t2) := h.whole.cell 3
  have f2 := (h.whole.put 3 (.int .u64 t)).free 6
  have c2 : (w.setCell ⟨g, 3, none⟩ (.int .u64 t)).cell? ⟨g, 6, none⟩ = some (.int .u64 x.v2) := (h.whole.put 3 (.int .u64 t)).cell 6
  have H2 : Hid (WinAt (((w.setCell ⟨g, 3, none⟩ (.int .u64 t)).setCell ⟨g, 6, none⟩ (.int .u64 v)).drew) g win ⟨x.l, x.t0, x.v0, x.t1, x.v1, t, v⟩ least) := Lib.hid ⟨((h.whole.put 3 (.int .u64 t)).put 6 (.int .u64 v)).drew, ⟨h.fit.l1, h.fit.a0, h.fit.a1, ⟨h0, ht⟩, h.fit.b0, h.fit.b1, hv⟩, h.win⟩
  have K2 : Hid (Keep (fun k => k = g) w (((w.setCell ⟨g, 3, none⟩ (.int .u64 t)).setCell ⟨g, 6, none⟩ (.int .u64 v)).drew)) := Lib.hid (((Keep.refl (fun k => k = g) w).setCell (p := ⟨g, 3, none⟩) (.inl rfl) _).setCell (p := ⟨g, 6, none⟩) (.inl rfl) _).drew
  clear h hv h0 ht
  go_enter Tryz.func75, Tryz.ntmps75
  go_wp2
  refine wp_region_sch (fun _ => True) [(true, 0), (true, 1), (true, 2), (true, 3), (true, 4), (true, 5), (true, 6), (true, 7), (true, 8), (true, 10), (true, 11), (false, 9), (true, 12), (false, 13)] (by kernel_rfl) (by kernel_rfl) (by kernel_rfl) (by kernel_rfl) trivial ?_
  (repeat (refine wpSch_yes (v := ?_) rfl (fun _ _ _ h => h) (by rfl) ?_ ?_; rotate_left; (next => (intro w hSw; go_simp; (try with_reducible rfl))); (try simp only [Act.put, List.setIfInBounds_toArray, List.set_cons_zero, List.set_cons_succ])))
  refine wpSch_call rfl (by rfl) (fun K hK => ?_)
  go_simp
  refine hK.out _ _ trivial (fun hHeld => ?_)
  clear hK K hHeld
  (try simp only [Act.put, List.setIfInBounds_toArray, List.set_cons_zero, List.set_cons_succ])
  (repeat (refine wpSch_yes (v := ?_) rfl (fun _ _ _ h => h) (by rfl) ?_ ?_; rotate_left; (next => (intro w hSw; go_simp; (try with_reducible rfl))); (try simp only [Act.put, List.setIfInBounds_toArray, List.set_cons_zero, List.set_cons_succ])))
  refine wpSch_call rfl (by rfl) (fun K hK => ?_)
  go_simp
  refine hK.out _ _ trivial (fun hHeld => ?_)
  clear hK K hHeld
  (try simp only [Act.put, List.setIfInBounds_toArray, List.set_cons_zero, List.set_cons_succ])
  refine wpSch_nil ?_
  go_wp2
  go_end0
  exact ⟨⟨_, rfl⟩, H2.out, K2.out⟩
end Go.Proofs.YtbimmadllfgmiaaGreat
