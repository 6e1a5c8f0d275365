/-
  canterlaw06.awake answers true. Conditions: none.
-/
import Derived.Test.YtjdagojikhainaaRingTold
import Derived.Test.YtjdagojikhainaaPlainI
namespace Go.Proofs.Ytjdagojikhainaa
open Go.RowKit

theorem rnew_is {n : Int} {k : Nat} (e : capN n = k) (w : World) : Calls Try.prog 7 #[.int .i64 n] w (Made w k) := by subst e; exact rnew_any n w
theorem rpush_is {N : Nat} {l l' : List Int} {v c : Int} (e : pushE N l = c ∧ pushS N l v = l') (g p : Nat) (w : World) (h : RingAt w g p N l) :
    Calls Try.prog 10 #[.pointer (some ⟨g, 0, none⟩), .int .i64 v] w fun e w' => e = .returned (.int .i64 c) ∧ RingAt w' g p N l' ∧ Keep (fun k => k = g ∨ k = p) w w' := by
  have := rpush_any g p N l v w h; rwa [e.1, e.2] at this
theorem rpop_is {N : Nat} {l l' : List Int} {v : Int} {b : Bool} (e : popV l = v ∧ popB l = b ∧ l.tail = l') (g p : Nat) (w : World) (h : RingAt w g p N l) :
    Calls Try.prog 9 #[.pointer (some ⟨g, 0, none⟩)] w fun e w' => e = .returned (.tuple #[.int .i64 v, .bool b]) ∧ RingAt w' g p N l' ∧ Keep (fun k => k = g ∨ k = p) w w' := by
  have := rpop_any g p N l w h; rwa [e.1, e.2.1, e.2.2] at this
theorem rlen_is {N n : Nat} {l : List Int} (e : l.length = n) (g p : Nat) (w : World) (h : RingAt w g p N l) :
    Calls Try.prog 12 #[.pointer (some ⟨g, 0, none⟩)] w fun e w' => e = .returned (.int .i64 n) ∧ w = w' := by
  subst e; exact rlen_any g p N l w h
theorem pairs_is {N t : Nat} {l : List Int} {m : Int} (e : toldN l m = t) (g p : Nat) (w : World) (h : RingAt w g p N l) :
    Calls Try.prog 11 #[.pointer (some ⟨g, 0, none⟩), .int .i64 m] w (Pairs w l t) := by subst e; exact pairs_any g p N l m w h

set_option maxHeartbeats 1000000 in
set_option maxRecDepth 100000 in
theorem awaker_any (w : World) : Calls Try.prog 8 #[] w fun e w' => e = .returned (.bool true) ∧ Keep (fun _ => False) w w' := by
  go_enter Try.func8, Try.ntmps8
  go_wp2_with fail
  refine (rnew_is (k := 3) rfl _).mono ?_
  rintro e w1 ⟨rfl, h1, k1⟩
  have H1 := Lib.hid h1; have K1 := Lib.hid k1; clear h1 k1
  go_wp2_with fail
  refine (rpush_is (c := 0) (l' := [5]) ⟨rfl, rfl⟩ _ _ _ H1.out).mono ?_
  rintro e w2 ⟨rfl, h2, k2⟩
  have H2 := Lib.hid h2; have K2 := Lib.hid (K1.out.then k2 (fun i e hlt => by omega)); clear h2 k2
  go_wp2_with fail
  refine (rpush_is (c := 0) (l' := [5, 6]) ⟨rfl, rfl⟩ _ _ _ H2.out).mono ?_
  rintro e w3 ⟨rfl, h3, k3⟩
  have H3 := Lib.hid h3; have K3 := Lib.hid (K2.out.then k3 (fun i e hlt => by omega)); clear h3 k3
  go_wp2_with fail
  refine (pairs_is (t := 2) rfl _ _ _ H3.out).mono ?_
  rintro e w4 ⟨a1, c1, a2, c2, rfl, _, ⟨r4, n4⟩, k4⟩
  have H4 := Lib.hid (H3.out.kept k4); have K4 := Lib.hid (K3.out.trans k4); have R4 := Lib.hid r4; have N4 := Lib.hid n4; have hlt := H3.out.lt; clear r4 n4 k4
  go_wp2_with fail
  refine (rpop_is (v := 5) (b := true) (l' := [6]) ⟨rfl, rfl, rfl⟩ _ _ _ H4.out).mono ?_
  rintro e w5 ⟨rfl, h5, k5⟩
  have H5 := Lib.hid h5; have K5 := Lib.hid (K4.out.then k5 (fun i e hlt => by omega))
  have R5 : Hid (Rd .i64 w5 a2 [5, 6]) := Lib.hid (R4.out.stays k5 (fun ad e h => by have := N4.out ad e; omega))
  clear h5 k5
  go_wp2_with fail
  refine (rlen_is (n := 1) rfl _ _ _ H5.out).mono ?_
  rintro e w' ⟨rfl, rfl⟩
  have HL : Hid (Rd .i64 (w5.alloc (.cells #[.int .i64 5, .int .i64 6] 3)) (some ⟨w5.heap.size, 0, none⟩) [5, 6]) := Lib.hid (Owns.rdz (l := [5, 6]) (Owns.lit w5 3 (zv [5, 6]) (by decide)))
  have HK : Hid (Keep (fun _ => False) w (w5.alloc (.cells #[.int .i64 5, .int .i64 6] 3))) := Lib.hid (K5.out.alloc _)
  go_wp2_with fail
  refine (plain_int a2 (some ⟨w5.heap.size, 0, none⟩) c2 2 [5, 6] _ (by decide) (R5.out.keep ((Keep.refl _ _).alloc _)) HL.out).mono ?_
  rintro e w7 ⟨rfl, n7, rfl⟩
  go_wp2
  go_ret
  exact ⟨rfl, HK.out.drewN n7⟩
end Go.Proofs.Ytjdagojikhainaa
