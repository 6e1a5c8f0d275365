/-
  canterlaw09.awake answers true. Conditions: none.
-/
import Derived.Test.YtcdhnokhklnkoaaMinUpd
namespace Go.Proofs.Ytcdhnokhklnkoaa
open Go.RowKit

theorem nupd_is {win t v a : Int} {x y : Tri} (e : updT true win x t v = y ∧ y.v0 = a) (g : Nat) (w : World) (h : MinAt w g win x) (ht : Num t) (hv : Num v) :
    Calls Try.prog 11 #[.pointer (some ⟨g, 0, none⟩), .int .u64 t, .int .u64 v] w fun e w' => e = .returned (.int .u64 a) ∧ MinAt w' g win y ∧ Keep (fun k => k = g) w w' := by
  have := nupd_any g win t v x w h ht hv
  rw [e.1, e.2] at this
  exact this
theorem nbest_is {win a : Int} {x : Tri} (e : x.v0 = a) (g : Nat) (w : World) (h : MinAt w g win x) : Calls Try.prog 13 #[.pointer (some ⟨g, 0, none⟩)] w fun e w' => e = .returned (.int .u64 a) ∧ w = w' := e ▸ nbest_any g win x w h
theorem nawk1 : updT true 10 (newT 18446744073709551615) 1 5 = allT 1 1 5 ∧ (allT 1 1 5).v0 = 5 := ⟨by rfl, rfl⟩
theorem nawk2 : updT true 10 (allT 1 1 5) 2 7 = allT 2 1 5 ∧ (allT 2 1 5).v0 = 5 := ⟨by rfl, rfl⟩
theorem nawk3 : updT true 10 (allT 2 1 5) 20 9 = allT 20 20 9 ∧ (allT 20 20 9).v0 = 9 := ⟨by rfl, rfl⟩

set_option maxHeartbeats 1000000 in
set_option maxRecDepth 100000 in
theorem awaken_any (w : World) : Calls Try.prog 8 #[] w fun e w' => e = .returned (.bool true) ∧ Keep (fun _ => False) w w' := by
  go_enter Try.func8, Try.ntmps8
  go_wp2_with fail
  refine (nnew_any 10 ⟨by decide, by decide⟩ _).mono ?_
  rintro e w1 ⟨rfl, h1, k1⟩
  have H1 := Lib.hid h1; have K1 := Lib.hid k1; clear h1 k1
  go_wp2_with fail
  refine (nbest_is (a := 18446744073709551615) rfl _ _ H1.out).mono ?_
  rintro e w1' ⟨rfl, rfl⟩
  go_wp2_with fail
  refine (nupd_is nawk1 _ _ H1.out ⟨by decide, by decide⟩ ⟨by decide, by decide⟩).mono ?_
  rintro e w2 ⟨rfl, h2, k2⟩
  have H2 := Lib.hid h2; have K2 := Lib.hid (K1.out.then k2 (fun i e hlt => by omega)); clear h2 k2
  go_wp2_with fail
  refine (nupd_is nawk2 _ _ H2.out ⟨by decide, by decide⟩ ⟨by decide, by decide⟩).mono ?_
  rintro e w3 ⟨rfl, h3, k3⟩
  have H3 := Lib.hid h3; have K3 := Lib.hid (K2.out.then k3 (fun i e hlt => by omega)); clear h3 k3
  go_wp2_with fail
  refine (nupd_is nawk3 _ _ H3.out ⟨by decide, by decide⟩ ⟨by decide, by decide⟩).mono ?_
  rintro e w4 ⟨rfl, h4, k4⟩
  have H4 := Lib.hid h4; have K4 := Lib.hid (K3.out.then k4 (fun i e hlt => by omega)); clear h4 k4
  go_wp2
  go_ret
  exact ⟨rfl, K4.out⟩
end Go.Proofs.Ytcdhnokhklnkoaa
