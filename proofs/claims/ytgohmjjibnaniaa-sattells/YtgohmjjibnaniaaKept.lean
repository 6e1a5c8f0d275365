/-
  canterhelp.Plain tells whether two lists of numbers are alike, Kept whether a copy and the room behind it are as Own left them. Conditions: the lists lie in memory as slices do.
-/
import Derived.Test.YtgohmjjibnaniaaHelp
namespace Go.Proofs.Ytgohmjjibnaniaa
open Go.RowKit

theorem eq_any (x y : Int) (w : World) :
    Calls Try.prog 24 #[.int .u64 x, .int .u64 y] w fun e w' => e = .returned (.bool (x == y)) ∧ w = w' := by
  go_enter Try.func24, Try.ntmps24
  go_wp2
  go_ret
  exact ⟨rfl, rfl⟩

theorem eq_quiet (x y : Int) (w : World) :
    Calls Try.prog 24 #[.int .u64 x, .int .u64 y] w fun e w' => e = .returned (.bool (x == y)) ∧ w' = w :=
  (eq_any x y w).mono fun _ _ ⟨he, hw⟩ => ⟨he, hw.symm⟩

theorem drewN_below (w : World) (n : Nat) : Below w.heap.size w (w.drewN n) := ⟨rfl, rfl, rfl, Nat.le_refl _, fun _ _ => rfl⟩

set_option maxHeartbeats 400000 in
theorem same_any (a b : Option Addr) (ca cb : Nat) (zs : List Int) (w : World) (hlen : zs.length ≤ 1000) (ha : Rd .u64 w a zs) (hb : Rd .u64 w b zs) :
    Calls Try.prog 23 #[.slice a zs.length ca, .slice b zs.length cb, .func (.func 24) #[] #[]] w fun e w' => e = .returned (.bool true) ∧ ∃ n, w' = w.drewN n := by
  have HA := Lib.hid ha; have HB := Lib.hid hb; clear ha hb
  go_enter Try.func23, Try.ntmps23
  go_wp2
  go_loopw [7] (fun i wr => ∃ k n : Nat, k ≤ zs.length ∧ i = .int .i64 k ∧ wr = w.drewN n) (fun i _ => zs.length - (intOf i).toNat)
  case atStart => exact ⟨0, 0, Nat.zero_le _, rfl, rfl⟩
  case round =>
    obtain ⟨k, n, hk, rfl, hw⟩ := hrel
    by_cases hlt : k < zs.length
    · obtain ⟨b1, o1, rfl, _, c1⟩ := HA.out k hlt
      obtain ⟨b2, o2, rfl, _, c2⟩ := HB.out k hlt
      have g1 : wr.cell? ⟨b1, o1 + k, none⟩ = some (.int .u64 (zs.getD k 0)) := by rw [hw]; exact c1
      have g2 : wr.cell? ⟨b2, o2 + k, none⟩ = some (.int .u64 (zs.getD k 0)) := by rw [hw]; exact c2
      clear c1 c2
      have HW := Lib.hid hw
      clear HA HB hw
      generalize zs.getD k 0 = x at *
      have hx : (x == x) = true := by simp
      have hi1 : (k : Int) < (zs.length : Int) := by omega
      go_wp2
      go_quiet ((go_at_call 24; exact Calls.quiet_of_same (eq_quiet _ _ _)))
      go_wp2
      go_roundw
      case rel => exact ⟨k + 1, _, by omega, by go_num, by rw [HW.out, World.drewN_drewN]⟩
      case measure => simp [intOf]; omega
    · have HW := Lib.hid hw
      clear hw HA HB
      go_wp2
      go_ret
      exact ⟨rfl, n, HW.out⟩

theorem plain_any (a b : Option Addr) (ca cb : Nat) (zs : List Int) (w : World) (hlen : zs.length ≤ 1000) (ha : Rd .u64 w a zs) (hb : Rd .u64 w b zs) :
    Calls Try.prog 22 #[.slice a zs.length ca, .slice b zs.length cb] w fun e w' => e = .returned (.bool true) ∧ ∃ n, w' = w.drewN n := by
  have HA := Lib.hid ha; have HB := Lib.hid hb; clear ha hb
  go_enter Try.func22, Try.ntmps22
  go_wp2_with fail
  refine (same_any a b ca cb zs w hlen HA.out HB.out).mono ?_
  rintro e w' ⟨rfl, n, hw⟩
  have HW := Lib.hid hw; clear hw
  go_wp2
  go_ret
  exact ⟨rfl, n, HW.out⟩

theorem Rd.drewN {k : IntKind} {w : World} {a : Option Addr} {zs : List Int} (h : Rd k w a zs) (n : Nat) : Rd k (w.drewN n) a zs := h

set_option maxHeartbeats 400000 in
/-- A copy as Own has made it, and the list itself: both are as they were. -/
theorem kept_any (g : Nat) (b : Option Addr) (cb : Nat) (zs : List Int) (f : Int) (cs : Array Value) (w : World) (hlen : zs.length ≤ 1000) (ha : Whole w g 22 cs) (hr : OwnRow zs f 3 cs) (hb : Rd .u64 w b zs) :
    Calls Try.prog 19 #[.slice (some ⟨g, 0, none⟩) zs.length (zs.length + 3), .slice b zs.length cb, .int .u64 f] w fun e w' => e = .returned (.bool true) ∧ ∃ n, w' = w.drewN n := by
  have hrd : Rd .u64 w (some ⟨g, 0, none⟩) zs := fun i hi => ⟨g, 0, rfl, ha.lt, by rw [Nat.zero_add, ha.cell, hr.2.1 i hi]⟩
  have HA := Lib.hid ha; have HB := Lib.hid hb; have HR := Lib.hid hr; have HD := Lib.hid hrd; clear ha hb hr hrd
  go_enter Try.func19, Try.ntmps19
  go_wp2_with fail
  refine (plain_any _ _ _ _ zs w hlen HD.out HB.out).mono ?_
  rintro e w1 ⟨rfl, n, hw⟩
  have HW := Lib.hid hw; clear hw
  go_wp2
  go_loop [8] (fun i => ∃ k : Nat, k ≤ 3 ∧ i = .int .i64 (zs.length + k : Nat)) (fun i => zs.length + 3 - (intOf i).toNat)
  case atStart => exact ⟨0, by omega, by simp⟩
  case round =>
    obtain ⟨k, hk, rfl⟩ := hrel
    by_cases hlt : k < 3
    · have hcell : w1.cell? ⟨g, zs.length + k, none⟩ = some (.int .u64 f) := by
        rw [HW.out]
        exact (HA.out.cell (zs.length + k)).trans (HR.out.2.2 _ (by omega) (by omega))
      have hne : (f != f) = false := by simp
      clear HA HB HR HD HW
      go_wp2
      go_round
      case rel => exact ⟨k + 1, by omega, by go_num⟩
      case measure => simp [intOf]; omega
    · have hk3 : k = 3 := by omega
      subst hk3
      clear HA HB HR HD
      go_wp2
      go_ret
      exact ⟨rfl, n, HW.out⟩
end Go.Proofs.Ytgohmjjibnaniaa
