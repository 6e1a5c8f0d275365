/-
  The document's own window (canterref08.Win): shift, Reset: what they leave. Conditions: the window lies in memory as NewWin makes it; the numbers are of their kind.
-/
import Derived.Test.YtcjgpkjhfbamfaaGreatJ19
import Derived.BigRegion
namespace Go.Proofs.YtcjgpkjhfbamfaaGreat
open Go.RowKit
set_option maxRecDepth 100000
set_option maxHeartbeats 2000000 in
theorem rshift_is {win t v : Int} {x : Tri} {least : Bool} (g : Nat) (w : World) (h : WinAt w g win x least) (h0 : 0 ≤ t) (ht : t ≤ x.l) (hv : Num v) :
    Calls Tryz.prog 76 #[.pointer (some ⟨g, 0, none⟩), .int .u64 t, .int .u64 v] w fun e w' => (∃ v, e = .returned v) ∧ WinAt w' g win (shiftT x t v) least ∧ Keep (fun k => k = g) w w' := by
  have x0 := h.whole
  have p0 : w.cell? ⟨g, 1, none⟩ = some (.int .u64 x.t0) := x0.cell 1
  have q0 := x0.free 1
  have x1 : Whole (w.setCell ⟨g, 1, none⟩ (.int .u64 x.t1)) g 94 #[.int .u64 win, .int .u64 x.t1, .int .u64 x.t1, .int .u64 x.t2, .int .u64 x.v0, .int .u64 x.v1, .int .u64 x.v2, .int .u64 x.l, .bool least] := x0.put 1 _
  have p1 : (w.setCell ⟨g, 1, none⟩ (.int .u64 x.t1)).cell? ⟨g, 2, none⟩ = some (.int .u64 x.t1) := x1.cell 2
  have q1 := x1.free 2
  have x2 : Whole ((w.setCell ⟨g, 1, none⟩ (.int .u64 x.t1)).setCell ⟨g, 2, none⟩ (.int .u64 x.t2)) g 94 #[.int .u64 win, .int .u64 x.t1, .int .u64 x.t2, .int .u64 x.t2, .int .u64 x.v0, .int .u64 x.v1, .int .u64 x.v2, .int .u64 x.l, .bool least] := x1.put 2 _
  have p2 : ((w.setCell ⟨g, 1, none⟩ (.int .u64 x.t1)).setCell ⟨g, 2, none⟩ (.int .u64 x.t2)).cell? ⟨g, 3, none⟩ = some (.int .u64 x.t2) := x2.cell 3
  have q2 := x2.free 3
  have x3 : Whole (((w.setCell ⟨g, 1, none⟩ (.int .u64 x.t1)).setCell ⟨g, 2, none⟩ (.int .u64 x.t2)).setCell ⟨g, 3, none⟩ (.int .u64 t)) g 94 #[.int .u64 win, .int .u64 x.t1, .int .u64 x.t2, .int .u64 t, .int .u64 x.v0, .int .u64 x.v1, .int .u64 x.v2, .int .u64 x.l, .bool least] := x2.put 3 _
  have p3 : (((w.setCell ⟨g, 1, none⟩ (.int .u64 x.t1)).setCell ⟨g, 2, none⟩ (.int .u64 x.t2)).setCell ⟨g, 3, none⟩ (.int .u64 t)).cell? ⟨g, 4, none⟩ = some (.int .u64 x.v0) := x3.cell 4
  have q3 := x3.free 4
  have x4 : Whole ((((w.setCell ⟨g, 1, none⟩ (.int .u64 x.t1)).setCell ⟨g, 2, none⟩ (.int .u64 x.t2)).setCell ⟨g, 3, none⟩ (.int .u64 t)).setCell ⟨g, 4, none⟩ (.int .u64 x.v1)) g 94 #[.int .u64 win, .int .u64 x.t1, .int .u64 x.t2, .int .u64 t, .int .u64 x.v1, .int .u64 x.v1, .int .u64 x.v2, .int .u64 x.l, .bool least] := x3.put 4 _
  have p4 : ((((w.setCell ⟨g, 1, none⟩ (.int .u64 x.t1)).setCell ⟨g, 2, none⟩ (.int .u64 x.t2)).setCell ⟨g, 3, none⟩ (.int .u64 t)).setCell ⟨g, 4, none⟩ (.int .u64 x.v1)).cell? ⟨g, 5, none⟩ = some (.int .u64 x.v1) := x4.cell 5
  have q4 := x4.free 5
  have x5 : Whole (((((w.setCell ⟨g, 1, none⟩ (.int .u64 x.t1)).setCell ⟨g, 2, none⟩ (.int .u64 x.t2)).setCell ⟨g, 3, none⟩ (.int .u64 t)).setCell ⟨g, 4, none⟩ (.int .u64 x.v1)).setCell ⟨g, 5, none⟩ (.int .u64 x.v2)) g 94 #[.int .u64 win, .int .u64 x.t1, .int .u64 x.t2, .int .u64 t, .int .u64 x.v1, .int .u64 x.v2, .int .u64 x.v2, .int .u64 x.l, .bool least] := x4.put 5 _
  have p5 : (((((w.setCell ⟨g, 1, none⟩ (.int .u64 x.t1)).setCell ⟨g, 2, none⟩ (.int .u64 x.t2)).setCell ⟨g, 3, none⟩ (.int .u64 t)).setCell ⟨g, 4, none⟩ (.int .u64 x.v1)).setCell ⟨g, 5, none⟩ (.int .u64 x.v2)).cell? ⟨g, 6, none⟩ = some (.int .u64 x.v2) := x5.cell 6
  have q5 := x5.free 6
  have x6 : Whole ((((((w.setCell ⟨g, 1, none⟩ (.int .u64 x.t1)).setCell ⟨g, 2, none⟩ (.int .u64 x.t2)).setCell ⟨g, 3, none⟩ (.int .u64 t)).setCell ⟨g, 4, none⟩ (.int .u64 x.v1)).setCell ⟨g, 5, none⟩ (.int .u64 x.v2)).setCell ⟨g, 6, none⟩ (.int .u64 v)) g 94 #[.int .u64 win, .int .u64 x.t1, .int .u64 x.t2, .int .u64 t, .int .u64 x.v1, .int .u64 x.v2, .int .u64 v, .int .u64 x.l, .bool least] := x5.put 6 _
  have H2 : Hid (WinAt ((((((w.setCell ⟨g, 1, none⟩ (.int .u64 x.t1)).setCell ⟨g, 2, none⟩ (.int .u64 x.t2)).setCell ⟨g, 3, none⟩ (.int .u64 t)).setCell ⟨g, 4, none⟩ (.int .u64 x.v1)).setCell ⟨g, 5, none⟩ (.int .u64 x.v2)).setCell ⟨g, 6, none⟩ (.int .u64 v)).drew g win (shiftT x t v) least) := Lib.hid ⟨x6.drew, h.fit.shift h0 ht hv, h.win⟩
  have K2 : Hid (Keep (fun k => k = g) w ((((((w.setCell ⟨g, 1, none⟩ (.int .u64 x.t1)).setCell ⟨g, 2, none⟩ (.int .u64 x.t2)).setCell ⟨g, 3, none⟩ (.int .u64 t)).setCell ⟨g, 4, none⟩ (.int .u64 x.v1)).setCell ⟨g, 5, none⟩ (.int .u64 x.v2)).setCell ⟨g, 6, none⟩ (.int .u64 v)).drew) := Lib.hid (Keep.refl (fun k => k = g) w |>.setCell (p := ⟨g, 1, none⟩) (.inl rfl) _ |>.setCell (p := ⟨g, 2, none⟩) (.inl rfl) _ |>.setCell (p := ⟨g, 3, none⟩) (.inl rfl) _ |>.setCell (p := ⟨g, 4, none⟩) (.inl rfl) _ |>.setCell (p := ⟨g, 5, none⟩) (.inl rfl) _ |>.setCell (p := ⟨g, 6, none⟩) (.inl rfl) _ |>.drew)
  obtain ⟨s1, s2, s3, s4⟩ : (w.cell? ⟨g, 2, none⟩ = some (.int .u64 x.t1) ∧ w.cell? ⟨g, 3, none⟩ = some (.int .u64 x.t2) ∧ w.cell? ⟨g, 5, none⟩ = some (.int .u64 x.v1) ∧ w.cell? ⟨g, 6, none⟩ = some (.int .u64 x.v2)) := ⟨h.whole.cell 2, h.whole.cell 3, h.whole.cell 5, h.whole.cell 6⟩
  clear x0 x1 x2 x3 x4 x5 x6 h h0 ht hv
  go_enter Tryz.func76, Tryz.ntmps76
  go_wp2
  go_region
  go_wp2
  go_end0
  exact ⟨⟨_, rfl⟩, H2.out, K2.out⟩
set_option maxHeartbeats 2000000 in
theorem rres_raw {l t v T : Int} {c0 a1 a2 a3 a4 a5 a6 c8 : Value} {Y : TypeId} (g : Nat) (w : World) (h : Whole w g Y #[c0, a1, a2, a3, a4, a5, a6, .int .u64 l, c8]) (hT : topT t l = T) :
    Calls Tryz.prog 74 #[.pointer (some ⟨g, 0, none⟩), .int .u64 t, .int .u64 v] w fun e w' => (∃ v, e = .returned v) ∧ Whole w' g Y #[c0, .int .u64 t, .int .u64 t, .int .u64 t, .int .u64 v, .int .u64 v, .int .u64 v, .int .u64 T, c8] ∧ Keep (fun k => k = g) w w' := by
  have x0 := h
  have p0 : w.cell? ⟨g, 1, none⟩ = some (a1) := x0.cell 1
  have q0 := x0.free 1
  have x1 : Whole (w.setCell ⟨g, 1, none⟩ (.int .u64 t)) g Y #[c0, .int .u64 t, a2, a3, a4, a5, a6, .int .u64 l, c8] := x0.put 1 _
  have p1 : (w.setCell ⟨g, 1, none⟩ (.int .u64 t)).cell? ⟨g, 2, none⟩ = some (a2) := x1.cell 2
  have q1 := x1.free 2
  have x2 : Whole ((w.setCell ⟨g, 1, none⟩ (.int .u64 t)).setCell ⟨g, 2, none⟩ (.int .u64 t)) g Y #[c0, .int .u64 t, .int .u64 t, a3, a4, a5, a6, .int .u64 l, c8] := x1.put 2 _
  have p2 : ((w.setCell ⟨g, 1, none⟩ (.int .u64 t)).setCell ⟨g, 2, none⟩ (.int .u64 t)).cell? ⟨g, 3, none⟩ = some (a3) := x2.cell 3
  have q2 := x2.free 3
  have x3 : Whole (((w.setCell ⟨g, 1, none⟩ (.int .u64 t)).setCell ⟨g, 2, none⟩ (.int .u64 t)).setCell ⟨g, 3, none⟩ (.int .u64 t)) g Y #[c0, .int .u64 t, .int .u64 t, .int .u64 t, a4, a5, a6, .int .u64 l, c8] := x2.put 3 _
  have p3 : (((w.setCell ⟨g, 1, none⟩ (.int .u64 t)).setCell ⟨g, 2, none⟩ (.int .u64 t)).setCell ⟨g, 3, none⟩ (.int .u64 t)).cell? ⟨g, 4, none⟩ = some (a4) := x3.cell 4
  have q3 := x3.free 4
  have x4 : Whole ((((w.setCell ⟨g, 1, none⟩ (.int .u64 t)).setCell ⟨g, 2, none⟩ (.int .u64 t)).setCell ⟨g, 3, none⟩ (.int .u64 t)).setCell ⟨g, 4, none⟩ (.int .u64 v)) g Y #[c0, .int .u64 t, .int .u64 t, .int .u64 t, .int .u64 v, a5, a6, .int .u64 l, c8] := x3.put 4 _
  have p4 : ((((w.setCell ⟨g, 1, none⟩ (.int .u64 t)).setCell ⟨g, 2, none⟩ (.int .u64 t)).setCell ⟨g, 3, none⟩ (.int .u64 t)).setCell ⟨g, 4, none⟩ (.int .u64 v)).cell? ⟨g, 5, none⟩ = some (a5) := x4.cell 5
  have q4 := x4.free 5
  have x5 : Whole (((((w.setCell ⟨g, 1, none⟩ (.int .u64 t)).setCell ⟨g, 2, none⟩ (.int .u64 t)).setCell ⟨g, 3, none⟩ (.int .u64 t)).setCell ⟨g, 4, none⟩ (.int .u64 v)).setCell ⟨g, 5, none⟩ (.int .u64 v)) g Y #[c0, .int .u64 t, .int .u64 t, .int .u64 t, .int .u64 v, .int .u64 v, a6, .int .u64 l, c8] := x4.put 5 _
  have p5 : (((((w.setCell ⟨g, 1, none⟩ (.int .u64 t)).setCell ⟨g, 2, none⟩ (.int .u64 t)).setCell ⟨g, 3, none⟩ (.int .u64 t)).setCell ⟨g, 4, none⟩ (.int .u64 v)).setCell ⟨g, 5, none⟩ (.int .u64 v)).cell? ⟨g, 6, none⟩ = some (a6) := x5.cell 6
  have q5 := x5.free 6
  have x6 : Whole ((((((w.setCell ⟨g, 1, none⟩ (.int .u64 t)).setCell ⟨g, 2, none⟩ (.int .u64 t)).setCell ⟨g, 3, none⟩ (.int .u64 t)).setCell ⟨g, 4, none⟩ (.int .u64 v)).setCell ⟨g, 5, none⟩ (.int .u64 v)).setCell ⟨g, 6, none⟩ (.int .u64 v)) g Y #[c0, .int .u64 t, .int .u64 t, .int .u64 t, .int .u64 v, .int .u64 v, .int .u64 v, .int .u64 l, c8] := x5.put 6 _
  have H6 := Lib.hid x6
  have K6 : Hid (Keep (fun k => k = g) w ((((((w.setCell ⟨g, 1, none⟩ (.int .u64 t)).setCell ⟨g, 2, none⟩ (.int .u64 t)).setCell ⟨g, 3, none⟩ (.int .u64 t)).setCell ⟨g, 4, none⟩ (.int .u64 v)).setCell ⟨g, 5, none⟩ (.int .u64 v)).setCell ⟨g, 6, none⟩ (.int .u64 v))) := Lib.hid (Keep.refl (fun k => k = g) w |>.setCell (p := ⟨g, 1, none⟩) (.inl rfl) _ |>.setCell (p := ⟨g, 2, none⟩) (.inl rfl) _ |>.setCell (p := ⟨g, 3, none⟩) (.inl rfl) _ |>.setCell (p := ⟨g, 4, none⟩) (.inl rfl) _ |>.setCell (p := ⟨g, 5, none⟩) (.inl rfl) _ |>.setCell (p := ⟨g, 6, none⟩) (.inl rfl) _)
  clear x0 x1 x2 x3 x4 x5 x6 h
  rcases Int.lt_trichotomy l t with hc | hc | hc
  · obtain rfl : t = T := (if_pos (by omega) : topT t l = t).symm.trans hT
    clear hT
    go_enter Tryz.func74, Tryz.ntmps74
    go_upto_region 1 with fail
    generalize ((((((w.setCell ⟨g, 1, none⟩ (.int .u64 t)).setCell ⟨g, 2, none⟩ (.int .u64 t)).setCell ⟨g, 3, none⟩ (.int .u64 t)).setCell ⟨g, 4, none⟩ (.int .u64 v)).setCell ⟨g, 5, none⟩ (.int .u64 v)).setCell ⟨g, 6, none⟩ (.int .u64 v)) = w6 at *
    have p7 : w6.cell? ⟨g, 7, none⟩ = some (.int .u64 l) := H6.out.cell 7
    have q7 := H6.out.free 7
    go_wp2
    go_end0
    exact ⟨⟨_, rfl⟩, H6.out.put 7 _, K6.out.setCell (p := ⟨g, 7, none⟩) (.inl rfl) _⟩
  · obtain rfl : t = l := hc.symm
    obtain rfl : t = T := (if_pos (by omega) : topT t t = t).symm.trans hT
    clear hT
    go_enter Tryz.func74, Tryz.ntmps74
    go_upto_region 1 with fail
    generalize ((((((w.setCell ⟨g, 1, none⟩ (.int .u64 t)).setCell ⟨g, 2, none⟩ (.int .u64 t)).setCell ⟨g, 3, none⟩ (.int .u64 t)).setCell ⟨g, 4, none⟩ (.int .u64 v)).setCell ⟨g, 5, none⟩ (.int .u64 v)).setCell ⟨g, 6, none⟩ (.int .u64 v)) = w6 at *
    have p7 : w6.cell? ⟨g, 7, none⟩ = some (.int .u64 t) := H6.out.cell 7
    have q7 := H6.out.free 7
    go_wp2
    go_end0
    exact ⟨⟨_, rfl⟩, H6.out.put 7 _, K6.out.setCell (p := ⟨g, 7, none⟩) (.inl rfl) _⟩
  · obtain rfl : l = T := (if_neg (by omega) : topT t l = l).symm.trans hT
    clear hT
    go_enter Tryz.func74, Tryz.ntmps74
    go_upto_region 1 with fail
    generalize ((((((w.setCell ⟨g, 1, none⟩ (.int .u64 t)).setCell ⟨g, 2, none⟩ (.int .u64 t)).setCell ⟨g, 3, none⟩ (.int .u64 t)).setCell ⟨g, 4, none⟩ (.int .u64 v)).setCell ⟨g, 5, none⟩ (.int .u64 v)).setCell ⟨g, 6, none⟩ (.int .u64 v)) = w6 at *
    have p7 : w6.cell? ⟨g, 7, none⟩ = some (.int .u64 l) := H6.out.cell 7
    have q7 := H6.out.free 7
    go_wp2
    go_end0
    exact ⟨⟨_, rfl⟩, H6.out.put 7 _, K6.out.setCell (p := ⟨g, 7, none⟩) (.inl rfl) _⟩
theorem rres_is {win t v : Int} {x : Tri} {least : Bool} (g : Nat) (w : World) (h : WinAt w g win x least) (ht : Num t) (hv : Num v) :
    Calls Tryz.prog 74 #[.pointer (some ⟨g, 0, none⟩), .int .u64 t, .int .u64 v] w fun e w' => (∃ v, e = .returned v) ∧ WinAt w' g win (resT x t v) least ∧ Keep (fun k => k = g) w w' :=
  (rres_raw g w h.whole rfl).mono fun _ _ ⟨he, h1, hk⟩ => ⟨he, ⟨h1, h.fit.res ht hv, h.win⟩, hk⟩
end Go.Proofs.YtcjgpkjhfbamfaaGreat
