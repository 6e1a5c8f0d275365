/-
  The calls of package winmax (New, Best, old, fill, shift) answer what the document says. Conditions: the window lies in memory as New makes it, or is nil.
-/
import Derived.Test.YtfbbmpmgceghfaaWinSt
import Derived.Test.YtfbbmpmgceghfaaSchedL
import Derived.Test.YtfbbmpmgceghfaaChecked
import Derived.WalkSpells
import Derived.WalkLawsBesides
import Derived.LoopTactic
import Derived.LoopN
import Derived.Deep.QuietTactic
import Derived.Deep.DeepCutAuto
import Derived.Deep.Draws
import Derived.BigQuiet
import Derived.Laws.ResultCell
namespace Go.Proofs.Ytfbbmpmgceghfaa
open Go.RowKit
set_option maxRecDepth 100000

def maxC (win : Int) (x : Tri) : Array Value := #[.int .u64 win, .int .u64 x.l, .int .u64 x.t0, .int .u64 x.v0, .int .u64 x.t1, .int .u64 x.v1, .int .u64 x.t2, .int .u64 x.v2]
/-- A window of package winmax. -/
structure MaxAt (w : World) (g : Nat) (win : Int) (x : Tri) : Prop where
  whole : Whole w g 76 (maxC win x)
  fit : x.Fit
  win : Num win
section
variable {w w' : World} {g : Nat} {win : Int} {x : Tri} {R : Nat → Prop}
theorem MaxAt.keep (h : MaxAt w g win x) (hk : Keep R w w') (hg : ¬ R g) : MaxAt w' g win x := ⟨h.whole.keep hk hg, h.fit, h.win⟩
theorem MaxAt.kept (h : MaxAt w g win x) (hk : Keep (fun _ => False) w w') : MaxAt w' g win x := h.keep hk id
theorem MaxAt.drewN (h : MaxAt w g win x) (m : Nat) : MaxAt (w.drewN m) g win x := ⟨h.whole.drewN m, h.fit, h.win⟩
theorem MaxAt.drew (h : MaxAt w g win x) : MaxAt w.drew g win x := ⟨h.whole.drew, h.fit, h.win⟩
theorem MaxAt.alloc (h : MaxAt w g win x) (o : Obj) : MaxAt (w.alloc o) g win x := ⟨h.whole.alloc o, h.fit, h.win⟩
theorem MaxAt.lt (h : MaxAt w g win x) : g < w.heap.size := h.whole.lt
end

set_option maxHeartbeats 400000 in
theorem xnew_any (win : Int) (hw : Num win) (w : World) : Calls Try.prog 20 #[.int .u64 win] w fun e w' => e = .returned (.pointer (some ⟨w.heap.size, 0, none⟩)) ∧ MaxAt w' w.heap.size win (newT 0) ∧ Keep (fun _ => False) w w' := by
  have HW := Lib.hid hw; clear hw
  go_enter Try.func20, Try.ntmps20
  go_wp2
  go_ret
  exact ⟨rfl, ⟨Whole.new _ _ _, fit_new ⟨by omega, by omega⟩, HW.out⟩, (Keep.refl _ _).alloc _⟩

theorem xbest_nil (w : World) : Calls Try.prog 23 #[.pointer none] w fun e w' => e = .returned (.int .u64 0) ∧ w = w' := by
  go_enter Try.func23, Try.ntmps23
  go_wp2
  go_ret
  exact ⟨rfl, rfl⟩
set_option maxHeartbeats 400000 in
theorem xbest_any (g : Nat) (win : Int) (x : Tri) (w : World) (h : MaxAt w g win x) : Calls Try.prog 23 #[.pointer (some ⟨g, 0, none⟩)] w fun e w' => e = .returned (.int .u64 x.v0) ∧ w = w' := by
  have c3 : w.cell? ⟨g, 3, none⟩ = some (.int .u64 x.v0) := h.whole.cell 3
  clear h
  go_enter Try.func23, Try.ntmps23
  go_wp2
  go_ret
  exact ⟨rfl, rfl⟩

set_option maxHeartbeats 400000 in
theorem old0_any (g : Nat) (win t : Int) (x : Tri) (w : World) (h : MaxAt w g win x) (ht : x.l ≤ t) (ht1 : t ≤ 18446744073709551615) :
    Calls Try.prog 50 #[.pointer (some ⟨g, 0, none⟩), .int .i64 0, .int .u64 t] w fun e w' => e = .returned (.bool (decide (win < t - x.t0))) ∧ Keep (fun _ => False) w w' := by
  have c0 : w.cell? ⟨g, 0, none⟩ = some (.int .u64 win) := h.whole.cell 0
  have c1 : w.cell? ⟨g, 2, none⟩ = some (.int .u64 x.t0) := h.whole.cell 2
  have hb := h.fit.a0
  clear h
  go_enter Try.func50, Try.ntmps50
  go_wp2
  go_quiet (fail)
  go_wp2
  go_ret
  exact ⟨rfl, (Keep.refl _ _).drewN _⟩
set_option maxHeartbeats 400000 in
theorem old2_any (g : Nat) (win t : Int) (x : Tri) (w : World) (h : MaxAt w g win x) (ht : x.l ≤ t) (ht1 : t ≤ 18446744073709551615) :
    Calls Try.prog 50 #[.pointer (some ⟨g, 0, none⟩), .int .i64 2, .int .u64 t] w fun e w' => e = .returned (.bool (decide (win < t - x.t2))) ∧ Keep (fun _ => False) w w' := by
  have c0 : w.cell? ⟨g, 0, none⟩ = some (.int .u64 win) := h.whole.cell 0
  have c1 : w.cell? ⟨g, 6, none⟩ = some (.int .u64 x.t2) := h.whole.cell 6
  have hb := h.fit.a2
  clear h
  go_enter Try.func50, Try.ntmps50
  go_wp2
  go_quiet (fail)
  go_wp2
  go_ret
  exact ⟨rfl, (Keep.refl _ _).drewN _⟩
end Go.Proofs.Ytfbbmpmgceghfaa
