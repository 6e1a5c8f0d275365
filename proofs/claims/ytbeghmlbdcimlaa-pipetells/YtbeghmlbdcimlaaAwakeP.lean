/-
  canterlaw13.awake answers true; a Pipe among other things in memory: its calls leave the others. Conditions: none.
-/
import Derived.Test.YtbeghmlbdcimlaaPip
import Derived.Test.YtbeghmlbdcimlaaRoom
namespace Go.Proofs.Ytbeghmlbdcimlaa
open Go.RowKit

theorem piupd_is {x y : Pst} {st lim : Bool} {bw : Int} {b : Bool} (e : fullP y = b ∧ updP x st lim bw = y) (g : Nat) (w : World) (h : PipAt w g x) (hn : Num bw) :
    Calls Try.prog 8 #[.pointer (some ⟨g, 0, none⟩), .bool st, .bool lim, .int .u64 bw] w fun e w' => e = .returned (.bool b) ∧ PipAt w' g y ∧ Keep (fun k => k = g) w w' := by
  have := piupd_any g x st lim bw w h hn
  rw [e.2, e.1] at this
  exact this
theorem pifull_is {b : Bool} {x : Pst} (e : fullP x = b) (g : Nat) (w : World) (h : PipAt w g x) : Calls Try.prog 10 #[.pointer (some ⟨g, 0, none⟩)] w fun e w' => e = .returned (.bool b) ∧ w = w' := e ▸ pifull_any g x w h

def pipT (g : Nat) (x : Pst) : Thing := ⟨fun w => PipAt w g x, fun k => k = g, fun h hk hs => h.keep hk (hs g rfl), fun h e => e ▸ h.lt⟩
section
variable {wB w : World} {L : List Thing} {t : Thing} {g : Nat} {x y : Pst} {st lim b : Bool} {bw : Int}
theorem Room.pinew (h : Room wB w L) : Calls Try.prog 6 #[] w fun e w' => e = .returned (.pointer (some ⟨w.heap.size, 0, none⟩)) ∧ Room wB w' (pipT w.heap.size newP :: L) :=
  (pinew_any w).mono fun _ _ ⟨he, h1, k1⟩ => ⟨he, h.add (t := pipT w.heap.size newP) h1 k1 (fun k e => by subst e; exact Nat.le_refl _)⟩
theorem Room.piupd (h : Room wB w (pipT g x :: L)) (e : fullP y = b ∧ updP x st lim bw = y) (hn : Num bw) :
    Calls Try.prog 8 #[.pointer (some ⟨g, 0, none⟩), .bool st, .bool lim, .int .u64 bw] w fun e w' => e = .returned (.bool b) ∧ Room wB w' (pipT g y :: L) :=
  (piupd_is e g w h.get0 hn).mono fun _ _ ⟨he, h1, k1⟩ => ⟨he, h.step0 (t' := pipT g y) h1 k1 own_same⟩
theorem Room.piupd1 (h : Room wB w (t :: pipT g x :: L)) (e : fullP y = b ∧ updP x st lim bw = y) (hn : Num bw) :
    Calls Try.prog 8 #[.pointer (some ⟨g, 0, none⟩), .bool st, .bool lim, .int .u64 bw] w fun e w' => e = .returned (.bool b) ∧ Room wB w' (t :: pipT g y :: L) :=
  (piupd_is e g w h.get1 hn).mono fun _ _ ⟨he, h1, k1⟩ => ⟨he, h.step1 (t' := pipT g y) h1 k1 own_same⟩
theorem Room.pifull (h : Room wB w (pipT g x :: L)) (e : fullP x = b) : Calls Try.prog 10 #[.pointer (some ⟨g, 0, none⟩)] w fun e w' => e = .returned (.bool b) ∧ w = w' := pifull_is e g w h.get0
end
/-- The pipe behind so many rounds of 100. -/
def awp : Nat → Pst
  | 0 => ⟨0, 0⟩
  | n + 1 => ⟨100, n⟩
theorem awp_upd (n : Nat) (h : n < 4) : updP (awp n) true false 100 = awp (n + 1) := by
  match n, h with
  | 0, _ => rfl
  | 1, _ => rfl
  | 2, _ => rfl
  | 3, _ => rfl
set_option maxHeartbeats 1000000 in
set_option maxRecDepth 100000 in
theorem awakep_any (w : World) : Calls Try.prog 7 #[] w fun e w' => e = .returned (.bool true) ∧ Keep (fun _ => False) w w' := by
  go_enter Try.func7, Try.ntmps7
  go_wp2_with fail
  refine (pinew_any _).mono ?_
  rintro e w1 ⟨rfl, h1, k1⟩
  have H1 := Lib.hid h1; have K1 := Lib.hid k1; clear h1 k1
  go_wp2_with fail
  refine (pifull_is (b := false) rfl _ _ H1.out).mono ?_
  rintro e w2 ⟨rfl, rfl⟩
  go_wp2
  refine wp_loop_rounds 5 ?_
  rw [rounds_succ]
  go_wp2_with fail
  refine (piupd_is ⟨rfl, awp_upd 0 (by decide)⟩ _ _ H1.out ⟨by decide, by decide⟩).mono ?_
  rintro e w2 ⟨rfl, h2, k2⟩
  have H2 := Lib.hid h2; have K2 := Lib.hid (K1.out.then k2 (fun i e hlt => by omega)); clear h2 k2 H1 K1
  go_wp2
  rw [rounds_succ]
  go_wp2_with fail
  refine (piupd_is ⟨rfl, awp_upd 1 (by decide)⟩ _ _ H2.out ⟨by decide, by decide⟩).mono ?_
  rintro e w3 ⟨rfl, h3, k3⟩
  have H3 := Lib.hid h3; have K3 := Lib.hid (K2.out.then k3 (fun i e hlt => by omega)); clear h3 k3 H2 K2
  go_wp2
  rw [rounds_succ]
  go_wp2_with fail
  refine (piupd_is ⟨rfl, awp_upd 2 (by decide)⟩ _ _ H3.out ⟨by decide, by decide⟩).mono ?_
  rintro e w4 ⟨rfl, h4, k4⟩
  have H4 := Lib.hid h4; have K4 := Lib.hid (K3.out.then k4 (fun i e hlt => by omega)); clear h4 k4 H3 K3
  go_wp2
  rw [rounds_succ]
  go_wp2_with fail
  refine (piupd_is ⟨rfl, awp_upd 3 (by decide)⟩ _ _ H4.out ⟨by decide, by decide⟩).mono ?_
  rintro e w5 ⟨rfl, h5, k5⟩
  have H5 := Lib.hid h5; have K5 := Lib.hid (K4.out.then k5 (fun i e hlt => by omega)); clear h5 k5 H4 K4
  go_wp2
  rw [rounds_succ]
  go_wp2_with fail
  refine (pifull_is (b := true) rfl _ _ H5.out).mono ?_
  rintro e w6 ⟨rfl, rfl⟩
  go_wp2
  go_ret
  exact ⟨rfl, K5.out⟩
theorem Room.awakep {wB w : World} {L : List Thing} (h : Room wB w L) : Calls Try.prog 7 #[] w fun e w' => e = .returned (.bool true) ∧ Room wB w' L := (awakep_any w).mono fun _ _ ⟨he, k⟩ => ⟨he, h.kept k⟩
end Go.Proofs.Ytbeghmlbdcimlaa
