/-
  The calls of package winmin (Best, old) answer what the document says. Conditions: the window lies in memory as New makes it, or is nil.
-/
import Derived.Test.YtcdhnokhklnkoaaWinSt
import Derived.Test.YtcdhnokhklnkoaaSchedL
import Derived.Test.YtcdhnokhklnkoaaChecked
import Derived.WalkSpells
import Derived.WalkLawsBesides
import Derived.LoopTactic
import Derived.LoopN
import Derived.Deep.QuietTactic
import Derived.Deep.DeepCutAuto
import Derived.Deep.Draws
import Derived.BigQuiet
import Derived.Laws.ResultCell
namespace Go.Proofs.Ytcdhnokhklnkoaa
open Go.RowKit

def minC (win : Int) (x : Tri) : Array Value := #[.int .u64 win, .int .u64 x.l, .int .u64 x.t0, .int .u64 x.v0, .int .u64 x.t1, .int .u64 x.v1, .int .u64 x.t2, .int .u64 x.v2]
/-- A window of package winmin. -/
structure MinAt (w : World) (g : Nat) (win : Int) (x : Tri) : Prop where
  whole : Whole w g 46 (minC win x)
  fit : x.Fit
  win : Num win
section
variable {w w' : World} {g : Nat} {win : Int} {x : Tri} {R : Nat → Prop}
theorem MinAt.keep (h : MinAt w g win x) (hk : Keep R w w') (hg : ¬ R g) : MinAt w' g win x := ⟨h.whole.keep hk hg, h.fit, h.win⟩
theorem MinAt.kept (h : MinAt w g win x) (hk : Keep (fun _ => False) w w') : MinAt w' g win x := h.keep hk id
theorem MinAt.drewN (h : MinAt w g win x) (m : Nat) : MinAt (w.drewN m) g win x := ⟨h.whole.drewN m, h.fit, h.win⟩
theorem MinAt.drew (h : MinAt w g win x) : MinAt w.drew g win x := ⟨h.whole.drew, h.fit, h.win⟩
theorem MinAt.alloc (h : MinAt w g win x) (o : Obj) : MinAt (w.alloc o) g win x := ⟨h.whole.alloc o, h.fit, h.win⟩
theorem MinAt.lt (h : MinAt w g win x) : g < w.heap.size := h.whole.lt
end

theorem nbest_nil (w : World) : Calls Try.prog 13 #[.pointer none] w fun e w' => e = .returned (.int .u64 18446744073709551615) ∧ w = w' := by
  go_enter Try.func13, Try.ntmps13
  go_wp2
  go_ret
  exact ⟨rfl, rfl⟩
set_option maxHeartbeats 400000 in
theorem nbest_any (g : Nat) (win : Int) (x : Tri) (w : World) (h : MinAt w g win x) : Calls Try.prog 13 #[.pointer (some ⟨g, 0, none⟩)] w fun e w' => e = .returned (.int .u64 x.v0) ∧ w = w' := by
  have c3 : w.cell? ⟨g, 3, none⟩ = some (.int .u64 x.v0) := h.whole.cell 3
  clear h
  go_enter Try.func13, Try.ntmps13
  go_wp2
  go_ret
  exact ⟨rfl, rfl⟩

set_option maxHeartbeats 400000 in
theorem nold0_any (g : Nat) (win t : Int) (x : Tri) (w : World) (h : MinAt w g win x) (ht : x.l ≤ t) (ht1 : t ≤ 18446744073709551615) :
    Calls Try.prog 26 #[.pointer (some ⟨g, 0, none⟩), .int .i64 0, .int .u64 t] w fun e w' => e = .returned (.bool (decide (win < t - x.t0))) ∧ Keep (fun _ => False) w w' := by
  have c0 : w.cell? ⟨g, 0, none⟩ = some (.int .u64 win) := h.whole.cell 0
  have c1 : w.cell? ⟨g, 2, none⟩ = some (.int .u64 x.t0) := h.whole.cell 2
  have hb := h.fit.a0
  clear h
  go_enter Try.func26, Try.ntmps26
  go_wp2
  go_quiet (fail)
  go_wp2
  go_ret
  exact ⟨rfl, (Keep.refl _ _).drewN _⟩
set_option maxHeartbeats 400000 in
theorem nold2_any (g : Nat) (win t : Int) (x : Tri) (w : World) (h : MinAt w g win x) (ht : x.l ≤ t) (ht1 : t ≤ 18446744073709551615) :
    Calls Try.prog 26 #[.pointer (some ⟨g, 0, none⟩), .int .i64 2, .int .u64 t] w fun e w' => e = .returned (.bool (decide (win < t - x.t2))) ∧ Keep (fun _ => False) w w' := by
  have c0 : w.cell? ⟨g, 0, none⟩ = some (.int .u64 win) := h.whole.cell 0
  have c1 : w.cell? ⟨g, 6, none⟩ = some (.int .u64 x.t2) := h.whole.cell 6
  have hb := h.fit.a2
  clear h
  go_enter Try.func26, Try.ntmps26
  go_wp2
  go_quiet (fail)
  go_wp2
  go_ret
  exact ⟨rfl, (Keep.refl _ _).drewN _⟩
end Go.Proofs.Ytcdhnokhklnkoaa
