/-
  canterlaw10.awake answers true. Conditions: none.
-/
import Derived.Test.YtiilbdmldonipaaSamTake
namespace Go.Proofs.Ytiilbdmldonipaa
open Go.RowKit

theorem ssent_is {now fl : Int} {x y : Smp} {v : Snt} (e : sentV x now fl = v ∧ sentS x now fl = y) (g : Nat) (w : World) (h : SamAt w g x) (hn : Num now) :
    Calls Try.prog 15 #[.pointer (some ⟨g, 0, none⟩), .int .u64 now, .int .u64 fl] w fun e w' => e = .returned v.v ∧ SamAt w' g y ∧ Keep (fun k => k = g) w w' := by
  have := ssent_any g now fl x w h hn
  rw [e.1, e.2] at this
  exact this
theorem sack_is {now size : Int} {x z : Smp} {y : Snt} (e : ackS x now size y = z) (g : Nat) (w : World) (h : SamAt w g x) (hn : Num now) (hs : Num size) (hy : y.Fit) :
    Calls Try.prog 9 #[.pointer (some ⟨g, 0, none⟩), .int .u64 now, .int .u64 size, y.v] w fun e w' => (∃ v, e = .returned v) ∧ SamAt w' g z ∧ Keep (fun k => k = g) w w' := by
  have := sack_any g now size x y w h hn hs hy
  rw [e] at this
  exact this
theorem stake_is {now lost fl : Int} {x y : Smp} {v : Spl} (e : takeV x now lost fl = v ∧ takeS x = y) (g : Nat) (w : World) (h : SamAt w g x) (hn : Num now) :
    Calls Try.prog 11 #[.pointer (some ⟨g, 0, none⟩), .int .u64 now, .int .u64 lost, .int .u64 fl] w fun e w' => e = .returned v.v ∧ SamAt w' g y ∧ Keep (fun k => k = g) w w' := by
  have := stake_any g now lost fl x w h hn
  rw [e.1, e.2] at this
  exact this
theorem sdel_is {a : Int} {x : Smp} (e : x.d = a) (g : Nat) (w : World) (h : SamAt w g x) : Calls Try.prog 17 #[.pointer (some ⟨g, 0, none⟩)] w fun e w' => e = .returned (.int .u64 a) ∧ w = w' := e ▸ sdel_any g x w h
theorem num_lit {a : Nat} (h : a ≤ 18446744073709551615) : Num (a : Int) := ⟨by omega, by omega⟩
theorem aws1 : sentV newS 0 0 = ⟨0, 0, 0, 0, false⟩ ∧ sentS newS 0 0 = newS := ⟨by rfl, by rfl⟩
theorem aws2 : ackS newS 10 100 ⟨0, 0, 0, 0, false⟩ = ⟨100, 10, 0, 0, 100, true, 0, 0, false, 0, 10⟩ := by rfl
theorem aws3 : takeV ⟨100, 10, 0, 0, 100, true, 0, 0, false, 0, 10⟩ 10 0 0 = ⟨10, 100, 0, 10, 10, 100, 0, 0, false⟩ ∧ takeS ⟨100, 10, 0, 0, 100, true, 0, 0, false, 0, 10⟩ = ⟨100, 10, 0, 0, 0, false, 0, 0, false, 0, 10⟩ := ⟨by rfl, by rfl⟩

set_option maxHeartbeats 1000000 in
set_option maxRecDepth 100000 in
theorem awakes_any (w : World) : Calls Try.prog 8 #[] w fun e w' => e = .returned (.bool true) ∧ Keep (fun _ => False) w w' := by
  go_enter Try.func8, Try.ntmps8
  go_wp2_with fail
  refine (snew_any _).mono ?_
  rintro e w1 ⟨rfl, h1, k1⟩
  have H1 := Lib.hid h1; have K1 := Lib.hid k1; clear h1 k1
  go_wp2_with fail
  refine (ssent_is aws1 _ _ H1.out num0).mono ?_
  rintro e w2 ⟨rfl, h2, k2⟩
  have H2 := Lib.hid h2; have K2 := Lib.hid (K1.out.then k2 (fun i e hlt => by omega)); clear h2 k2 H1 K1
  go_wp2_with fail
  refine (sack_is aws2 _ _ (H2.out.alloc _) (num_lit (a := 10) (by decide)) (num_lit (a := 100) (by decide)) ⟨num0, num0, num0, num0⟩).mono ?_
  rintro e w3 ⟨⟨_, rfl⟩, h3, k3⟩
  have H3 := Lib.hid h3; have K3 := Lib.hid ((K2.out.alloc _).then k3 (fun i e hlt => by omega)); clear h3 k3 H2 K2
  go_wp2_with fail
  refine (stake_is aws3 _ _ H3.out (num_lit (a := 10) (by decide))).mono ?_
  rintro e w4 ⟨rfl, h4, k4⟩
  have H4 := Lib.hid h4; have K4 := Lib.hid (K3.out.then k4 (fun i e hlt => by omega)); clear h4 k4 H3 K3
  go_wp2_with fail
  refine (sdel_is (a := 100) rfl _ _ (H4.out.alloc _)).mono ?_
  rintro e w5 ⟨rfl, rfl⟩
  go_wp2
  go_ret
  exact ⟨rfl, K4.out.alloc _⟩
end Go.Proofs.Ytiilbdmldonipaa
