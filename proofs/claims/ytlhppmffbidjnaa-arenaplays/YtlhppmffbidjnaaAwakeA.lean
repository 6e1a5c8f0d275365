/-
  canterlaw04.awake answers true. Conditions: none.
-/
import Derived.Test.YtlhppmffbidjnaaArenaAll
import Derived.Test.YtlhppmffbidjnaaHelpI
namespace Go.Proofs.Ytlhppmffbidjnaa
open Go.RowKit

theorem get_is {s s' : St} {v c : Int} (e : s.getV = v ∧ s.getE = c ∧ s.getS = s') (S : Nat → Prop) (g : Nat) (w : World) (h : ArenaAt 45 w S g s) :
    Calls Try.prog 10 #[.pointer (some ⟨g, 0, none⟩)] w fun e w' => e = .returned (.tuple #[.int .i64 v, .int .i64 c]) ∧ ∃ S', ArenaAt 45 w' S' g s' ∧ Step S S' w w' := by
  have := get_any S g s w h
  unfold Got at this
  rwa [e.1, e.2.1, e.2.2] at this
theorem anew_is {n : Int} {k : Nat} (e : capN n = k) (w : World) :
    Calls Try.prog 7 #[.int .i64 n] w fun e w' => e = .returned (.pointer (some ⟨w.heap.size, 0, none⟩)) ∧ ArenaAt 45 w' (· = w.heap.size) w.heap.size ⟨k, [], []⟩ ∧ Keep (fun _ => False) w w' := by
  subst e; exact anew_any n w
theorem used_is {s : St} {n : Nat} (e : s.out.count true = n) (S : Nat → Prop) (g : Nat) (w : World) (h : ArenaAt 45 w S g s) :
    Calls Try.prog 16 #[.pointer (some ⟨g, 0, none⟩)] w fun e w' => e = .returned (.int .i64 (n : Int)) ∧ ∃ n, w' = w.drewN n := by
  subst e; exact used_any S g s w h
theorem hall_is {l : List Nat} (Bg : Nat) (m : Int) (bs : List Bool) (e : toldOf bs m = l) (hlen : bs.length ≤ 4096) (w : World) (hT : Tells w.heap.size w Bg bs) :
    Calls Try.prog 19 #[.func (.func 26) #[] #[.pointer (some ⟨Bg, 0, none⟩)], .int .i64 m] w fun e w' =>
      ∃ a c, e = .returned (.slice a l.length c) ∧ Rd .i64 w' a (nums l) ∧ Keep (fun _ => False) w w' := by
  subst e
  refine (hall_any Bg m bs hlen w hT).mono ?_
  rintro e w' ⟨v, rfl, ho, _, hk⟩
  obtain ⟨a, c, rfl, _⟩ := ho.shape
  exact ⟨a, c, by rw [len_ints], ho.rd, hk⟩

set_option maxHeartbeats 1000000 in
set_option maxRecDepth 100000 in
theorem awakea_any (w : World) : Calls Try.prog 9 #[] w fun e w' => e = .returned (.bool true) ∧ Keep (fun _ => False) w w' := by
  go_enter Try.func9, Try.ntmps9
  go_wp2_with fail
  refine (anew_is (k := 3) rfl _).mono ?_
  rintro e w1 ⟨rfl, h1, k1⟩
  have H1 := Lib.hid h1; have K1 := Lib.hid k1; clear h1 k1
  go_wp2_with fail
  refine (get_is (s' := ⟨3, [true], []⟩) (v := 0) (c := 0) ⟨rfl, rfl, rfl⟩ _ _ _ H1.out).mono ?_
  rintro e w2 ⟨rfl, S2, h2, t2⟩
  have H2 := Lib.hid h2; have T2 := Lib.hid t2; clear h2 t2
  go_wp2_with fail
  refine (get_is (s' := ⟨3, [true, true], []⟩) (v := 1) (c := 0) ⟨rfl, rfl, rfl⟩ _ _ _ H2.out).mono ?_
  rintro e w3 ⟨rfl, S3, h3, t3⟩
  have H3 := Lib.hid h3; have T3 := Lib.hid t3; clear h3 t3
  go_wp2_with fail
  refine (used_is (n := 2) rfl _ _ _ H3.out).mono ?_
  rintro e w4 ⟨rfl, n4, rfl⟩
  go_wp2_with fail
  refine (all_any S3 _ ⟨3, [true, true], []⟩ _ (show ArenaAt _ (w3.drewN n4) _ _ _ from H3.out)).mono ?_
  rintro e w5 ⟨rfl, h5, k5⟩
  have H5 := Lib.hid h5; have K5 := Lib.hid k5; clear h5 k5
  go_wp2_with fail
  refine (hall_is (l := [0, 1]) _ 9 [true, true] rfl (by decide) _ H5.out).mono ?_
  rintro e w6 ⟨a, c, rfl, h6, k6⟩
  have H6 := Lib.hid h6; have K6 := Lib.hid k6; clear h6 k6
  have HL : Hid (Rd .i64 (w6.alloc (.cells #[.int .i64 0, .int .i64 1] 3)) (some ⟨w6.heap.size, 0, none⟩) [0, 1]) := Lib.hid (Owns.rd (l := [0, 1]) (Owns.lit w6 3 (ints [0, 1]) (by decide)))
  have HK : Hid (Keep (fun _ => False) w (w6.alloc (.cells #[.int .i64 0, .int .i64 1] 3))) := Lib.hid (((((K1.out.then (T2.out.trans T3.out).1 (fun i e hlt => by omega)).drewN n4).trans K5.out).trans K6.out).alloc _)
  go_wp2_with fail
  refine (plain_int a (some ⟨w6.heap.size, 0, none⟩) c 2 [0, 1] _ (by decide) (H6.out.keep ((Keep.refl _ _).alloc _)) HL.out).mono ?_
  rintro e w7 ⟨rfl, n7, rfl⟩
  go_wp2
  go_ret
  exact ⟨rfl, HK.out.drewN n7⟩
end Go.Proofs.Ytlhppmffbidjnaa
