/-
  canterlaw11.awake answers true; Rounds among other things in memory: their calls leave the others. Conditions: fewer than 2^64-1 rounds have begun.
-/
import Derived.Test.YtgngeaccddbinaaRnd
import Derived.Test.YtgngeaccddbinaaRoom
namespace Go.Proofs.Ytgngeaccddbinaa
open Go.RowKit

theorem rupd_is {x y : Rst} {s : Spl} {b : Bool} (e : begR x s = b ∧ updR x s = y) (g : Nat) (w : World) (h : RndAt w g x) (hd : Num s.d) (hc : x.c < 18446744073709551615) :
    Calls Try.prog 8 #[.pointer (some ⟨g, 0, none⟩), s.v] w fun e w' => e = .returned (.bool b) ∧ RndAt w' g y ∧ Keep (fun k => k = g) w w' := by
  have := rupd_any g x s w h hd hc
  rw [e.1, e.2] at this
  exact this
theorem rcount_is {a : Int} {x : Rst} (e : x.c = a) (g : Nat) (w : World) (h : RndAt w g x) : Calls Try.prog 10 #[.pointer (some ⟨g, 0, none⟩)] w fun e w' => e = .returned (.int .u64 a) ∧ w = w' := e ▸ rcount_any g x w h

def rndT (g : Nat) (x : Rst) : Thing := ⟨fun w => RndAt w g x, fun k => k = g, fun h hk hs => h.keep hk (hs g rfl), fun h e => e ▸ h.lt⟩
section
variable {wB w : World} {L : List Thing} {g : Nat} {x y : Rst} {s : Spl} {b : Bool} {a : Int}
theorem Room.ronew (h : Room wB w L) : Calls Try.prog 6 #[] w fun e w' => e = .returned (.pointer (some ⟨w.heap.size, 0, none⟩)) ∧ Room wB w' (rndT w.heap.size newR :: L) :=
  (ronew_any w).mono fun _ _ ⟨he, h1, k1⟩ => ⟨he, h.add (t := rndT w.heap.size newR) h1 k1 (fun k e => by subst e; exact Nat.le_refl _)⟩
theorem Room.rupd (h : Room wB w (rndT g x :: L)) (e : begR x s = b ∧ updR x s = y) (hd : Num s.d) (hc : x.c < 18446744073709551615) :
    Calls Try.prog 8 #[.pointer (some ⟨g, 0, none⟩), s.v] w fun e w' => e = .returned (.bool b) ∧ Room wB w' (rndT g y :: L) :=
  (rupd_is e g w h.get0 hd hc).mono fun _ _ ⟨he, h1, k1⟩ => ⟨he, h.step0 (t' := rndT g y) h1 k1 own_same⟩
theorem Room.rcount (h : Room wB w (rndT g x :: L)) (e : x.c = a) : Calls Try.prog 10 #[.pointer (some ⟨g, 0, none⟩)] w fun e w' => e = .returned (.int .u64 a) ∧ w = w' := rcount_is e g w h.get0
end
theorem awo1 : begR newR ⟨0, 5, 0, 0, 0, 1, 0, 0, false⟩ = true ∧ updR newR ⟨0, 5, 0, 0, 0, 1, 0, 0, false⟩ = ⟨5, 1⟩ := ⟨by rfl, by rfl⟩
theorem awo2 : begR ⟨5, 1⟩ ⟨0, 6, 4, 0, 0, 1, 0, 0, false⟩ = false ∧ updR ⟨5, 1⟩ ⟨0, 6, 4, 0, 0, 1, 0, 0, false⟩ = ⟨5, 1⟩ := ⟨by rfl, by rfl⟩
set_option maxHeartbeats 1000000 in
set_option maxRecDepth 100000 in
theorem awakeo_any (w : World) : Calls Try.prog 7 #[] w fun e w' => e = .returned (.bool true) ∧ Keep (fun _ => False) w w' := by
  go_enter Try.func7, Try.ntmps7
  go_wp2_with fail
  refine (ronew_any _).mono ?_
  rintro e w1 ⟨rfl, h1, k1⟩
  have H1 := Lib.hid h1; have K1 := Lib.hid k1; clear h1 k1
  go_wp2_with fail
  refine (rupd_is awo1 _ _ H1.out ⟨by decide, by decide⟩ (by decide)).mono ?_
  rintro e w2 ⟨rfl, h2, k2⟩
  have H2 := Lib.hid h2; have K2 := Lib.hid (K1.out.then k2 (fun i e hlt => by omega)); clear h2 k2 H1 K1
  go_wp2_with fail
  refine (rcount_is (a := 1) rfl _ _ H2.out).mono ?_
  rintro e w3 ⟨rfl, rfl⟩
  go_wp2_with fail
  refine (rupd_is awo2 _ _ H2.out ⟨by decide, by decide⟩ (by decide)).mono ?_
  rintro e w4 ⟨rfl, h4, k4⟩
  have K4 := Lib.hid (K2.out.then k4 (fun i e hlt => by omega)); clear h4 k4 H2 K2
  go_wp2
  go_ret
  exact ⟨rfl, K4.out⟩
theorem Room.awakeo {wB w : World} {L : List Thing} (h : Room wB w L) : Calls Try.prog 7 #[] w fun e w' => e = .returned (.bool true) ∧ Room wB w' L := (awakeo_any w).mono fun _ _ ⟨he, k⟩ => ⟨he, h.kept k⟩
end Go.Proofs.Ytgngeaccddbinaa
