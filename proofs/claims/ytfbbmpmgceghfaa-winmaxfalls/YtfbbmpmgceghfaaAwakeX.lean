/-
  canterlaw08.awake answers true. Conditions: none.
-/
import Derived.Test.YtfbbmpmgceghfaaWinUpd
namespace Go.Proofs.Ytfbbmpmgceghfaa
open Go.RowKit
set_option maxRecDepth 100000

theorem xupd_is {win t v a : Int} {x y : Tri} (e : updT false win x t v = y ∧ y.v0 = a) (g : Nat) (w : World) (h : MaxAt w g win x) (ht : Num t) (hv : Num v) :
    Calls Try.prog 21 #[.pointer (some ⟨g, 0, none⟩), .int .u64 t, .int .u64 v] w fun e w' => e = .returned (.int .u64 a) ∧ MaxAt w' g win y ∧ Keep (fun k => k = g) w w' := by
  have := xupd_any g win t v x w h ht hv
  rw [e.1, e.2] at this
  exact this
theorem xbest_is {win a : Int} {x : Tri} (e : x.v0 = a) (g : Nat) (w : World) (h : MaxAt w g win x) : Calls Try.prog 23 #[.pointer (some ⟨g, 0, none⟩)] w fun e w' => e = .returned (.int .u64 a) ∧ w = w' := e ▸ xbest_any g win x w h
theorem awk1 : updT false 10 (newT 0) 1 5 = allT 1 1 5 ∧ (allT 1 1 5).v0 = 5 := ⟨by rfl, rfl⟩
theorem awk2 : updT false 10 (allT 1 1 5) 2 3 = allT 2 1 5 ∧ (allT 2 1 5).v0 = 5 := ⟨by rfl, rfl⟩
theorem awk3 : updT false 10 (allT 2 1 5) 20 1 = allT 20 20 1 ∧ (allT 20 20 1).v0 = 1 := ⟨by rfl, rfl⟩

set_option maxHeartbeats 1000000 in
set_option maxRecDepth 100000 in
theorem awakex_any (w : World) : Calls Try.prog 22 #[] w fun e w' => e = .returned (.bool true) ∧ Keep (fun _ => False) w w' := by
  go_enter Try.func22, Try.ntmps22
  go_wp2_with fail
  refine (xnew_any 10 ⟨by decide, by decide⟩ _).mono ?_
  rintro e w1 ⟨rfl, h1, k1⟩
  have H1 := Lib.hid h1; have K1 := Lib.hid k1; clear h1 k1
  go_wp2_with fail
  refine (xupd_is awk1 _ _ H1.out ⟨by decide, by decide⟩ ⟨by decide, by decide⟩).mono ?_
  rintro e w2 ⟨rfl, h2, k2⟩
  have H2 := Lib.hid h2; have K2 := Lib.hid (K1.out.then k2 (fun i e hlt => by omega)); clear h2 k2
  go_wp2_with fail
  refine (xupd_is awk2 _ _ H2.out ⟨by decide, by decide⟩ ⟨by decide, by decide⟩).mono ?_
  rintro e w3 ⟨rfl, h3, k3⟩
  have H3 := Lib.hid h3; have K3 := Lib.hid (K2.out.then k3 (fun i e hlt => by omega)); clear h3 k3
  go_wp2_with fail
  refine (xupd_is awk3 _ _ H3.out ⟨by decide, by decide⟩ ⟨by decide, by decide⟩).mono ?_
  rintro e w4 ⟨rfl, h4, k4⟩
  have H4 := Lib.hid h4; have K4 := Lib.hid (K3.out.then k4 (fun i e hlt => by omega)); clear h4 k4
  go_wp2_with fail
  refine (xbest_is (a := 1) rfl _ _ H4.out).mono ?_
  rintro e w5 ⟨rfl, rfl⟩
  go_wp2
  go_ret
  exact ⟨rfl, K4.out⟩
end Go.Proofs.Ytfbbmpmgceghfaa
