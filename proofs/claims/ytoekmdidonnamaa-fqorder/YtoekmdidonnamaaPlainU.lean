/-
  canterhelp.Plain tells whether two lists of numbers are alike. Conditions: the lists lie in memory as slices do.
-/
import Derived.Test.YtoekmdidonnamaaObj
import Derived.Test.YtoekmdidonnamaaChecked
import Derived.WalkSpells
import Derived.WalkLawsBesides
import Derived.LoopTactic
import Derived.OwnWalk
import Derived.Deep.QuietTactic
import Derived.BigQuiet
import Derived.Deep.Draws
namespace Go.Proofs.Ytoekmdidonnamaa
open Go.RowKit
set_option maxRecDepth 100000

theorem eq_any (x y : Int) (w : World) :
    Calls Try.prog 44 #[.int .u64 x, .int .u64 y] w fun e w' => e = .returned (.bool (x == y)) ∧ w = w' := by
  go_enter Try.func44, Try.ntmps44
  go_wp2
  go_ret
  exact ⟨rfl, rfl⟩

theorem eq_quiet (x y : Int) (w : World) :
    Calls Try.prog 44 #[.int .u64 x, .int .u64 y] w fun e w' => e = .returned (.bool (x == y)) ∧ w' = w :=
  (eq_any x y w).mono fun _ _ ⟨he, hw⟩ => ⟨he, hw.symm⟩

theorem drewN_below (w : World) (n : Nat) : Below w.heap.size w (w.drewN n) := ⟨rfl, rfl, rfl, Nat.le_refl _, fun _ _ => rfl⟩

set_option maxHeartbeats 400000 in
theorem same_any (a b : Option Addr) (ca cb : Nat) (zs : List Int) (w : World) (hlen : zs.length ≤ 1000) (ha : Rd .u64 w a zs) (hb : Rd .u64 w b zs) :
    Calls Try.prog 43 #[.slice a zs.length ca, .slice b zs.length cb, .func (.func 44) #[] #[]] w fun e w' => e = .returned (.bool true) ∧ ∃ n, w' = w.drewN n := by
  have HA := Lib.hid ha; have HB := Lib.hid hb; clear ha hb
  go_enter Try.func43, Try.ntmps43
  go_wp2
  go_loopw [7] (fun i wr => ∃ k n : Nat, k ≤ zs.length ∧ i = .int .i64 k ∧ wr = w.drewN n) (fun i _ => zs.length - (intOf i).toNat)
  case atStart => exact ⟨0, 0, Nat.zero_le _, rfl, rfl⟩
  case round =>
    obtain ⟨k, n, hk, rfl, hw⟩ := hrel
    by_cases hlt : k < zs.length
    · obtain ⟨b1, o1, rfl, _, c1⟩ := HA.out k hlt
      obtain ⟨b2, o2, rfl, _, c2⟩ := HB.out k hlt
      have g1 : wr.cell? ⟨b1, o1 + k, none⟩ = some (.int .u64 (zs.getD k 0)) := by rw [hw]; exact c1
      have g2 : wr.cell? ⟨b2, o2 + k, none⟩ = some (.int .u64 (zs.getD k 0)) := by rw [hw]; exact c2
      clear c1 c2
      have HW := Lib.hid hw
      clear HA HB hw
      generalize zs.getD k 0 = x at *
      have hx : (x == x) = true := by simp
      have hi1 : (k : Int) < (zs.length : Int) := by omega
      go_wp2
      go_quiet ((go_at_call 44; exact Calls.quiet_of_same (eq_quiet _ _ _)))
      go_wp2
      go_roundw
      case rel => exact ⟨k + 1, _, by omega, by go_num, by rw [HW.out, World.drewN_drewN]⟩
      case measure => simp [intOf]; omega
    · have HW := Lib.hid hw
      clear hw HA HB
      go_wp2
      go_ret
      exact ⟨rfl, n, HW.out⟩

theorem plainu_any (a b : Option Addr) (ca cb : Nat) (zs : List Int) (w : World) (hlen : zs.length ≤ 1000) (ha : Rd .u64 w a zs) (hb : Rd .u64 w b zs) :
    Calls Try.prog 21 #[.slice a zs.length ca, .slice b zs.length cb] w fun e w' => e = .returned (.bool true) ∧ ∃ n, w' = w.drewN n := by
  have HA := Lib.hid ha; have HB := Lib.hid hb; clear ha hb
  go_enter Try.func21, Try.ntmps21
  go_wp2_with fail
  refine (same_any a b ca cb zs w hlen HA.out HB.out).mono ?_
  rintro e w' ⟨rfl, n, hw⟩
  have HW := Lib.hid hw; clear hw
  go_wp2
  go_ret
  exact ⟨rfl, n, HW.out⟩

end Go.Proofs.Ytoekmdidonnamaa
