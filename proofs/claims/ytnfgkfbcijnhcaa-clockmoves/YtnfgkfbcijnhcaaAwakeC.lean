/-
  The first line of each statement on package clock, 'awake', answers true; it turns nothing that was there. Conditions: none.
-/
import Derived.Test.YtnfgkfbcijnhcaaClock
namespace Go.Proofs.Ytnfgkfbcijnhcaa
open Go.RowKit

theorem awc_new (w : World) : Calls Try.prog 6 #[.int .u64 5] w fun e w' => e = .returned (.pointer (some ⟨w.heap.size, 0, none⟩)) ∧ ClockAt w' w.heap.size 5 ∧ Keep (fun _ => False) w w' :=
  cnew_any 5 (by omega) (by omega) w
theorem awc_7 (g : Nat) (w : World) (h : ClockAt w g 5) : Calls Try.prog 8 #[.pointer (some ⟨g, 0, none⟩), .int .u64 7] w fun e w' => e = .returned (.int .i64 0) ∧ ClockAt w' g 7 ∧ Keep (· = g) w w' :=
  move_any g 5 7 w h (by omega) (by omega)
theorem awc_6 (g : Nat) (w : World) (h : ClockAt w g 7) : Calls Try.prog 8 #[.pointer (some ⟨g, 0, none⟩), .int .u64 6] w fun e w' => e = .returned (.int .i64 4) ∧ ClockAt w' g 7 ∧ Keep (· = g) w w' :=
  move_any g 7 6 w h (by omega) (by omega)

set_option maxHeartbeats 400000 in
theorem awakec_any (w : World) :
    Calls Try.prog 7 #[] w fun e w' => e = .returned (.bool true) ∧ Keep (fun _ => False) w w' := by
  go_enter Try.func7, Try.ntmps7
  go_wp2_with fail
  refine (awc_new _).mono ?_
  rintro e w1 ⟨rfl, h1, k1⟩
  have H1 := Lib.hid h1; have K1 := Lib.hid k1; clear h1 k1
  go_wp2_with fail
  refine (now_any _ _ _ H1.out).mono ?_
  rintro e w' ⟨rfl, rfl⟩
  go_wp2_with fail
  refine (awc_7 _ _ H1.out).mono ?_
  rintro e w2 ⟨rfl, h2, k2⟩
  have H2 := Lib.hid h2; have K2 := Lib.hid (K1.out.then k2 (fun i e hi => by omega)); clear h2 k2
  go_wp2_with fail
  refine (now_any _ _ _ H2.out).mono ?_
  rintro e w' ⟨rfl, rfl⟩
  go_wp2_with fail
  refine (awc_6 _ _ H2.out).mono ?_
  rintro e w3 ⟨rfl, h3, k3⟩
  have K3 := Lib.hid (K2.out.then k3 (fun i e hi => by omega)); clear h3 k3
  go_wp2
  go_ret
  exact ⟨rfl, K3.out⟩
end Go.Proofs.Ytnfgkfbcijnhcaa
