/-
  canterhelp.In tells whether a number is among some. Conditions: the list lies in memory as slices do.
-/
import Derived.Test.YtcllgfkmjleckaaObj
import Derived.Test.YtcllgfkmjleckaaNum
import Derived.Test.YtcllgfkmjleckaaChecked
import Derived.WalkSpells
import Derived.WalkLawsBesides
import Derived.LoopTactic
import Derived.OwnWalk
import Derived.Deep.QuietTactic
import Derived.BigQuiet
import Derived.Deep.Draws
namespace Go.Proofs.Ytcllgfkmjleckaa
open Go.RowKit

set_option maxHeartbeats 400000 in
theorem in_int (a : Option Addr) (ca : Nat) (zs : List Int) (x : Int) (b : Bool) (w : World) (hlen : zs.length ≤ 100000) (ha : Rd .i64 w a zs) (hb : decide (x ∈ zs) = b) :
    Calls Try.prog 28 #[.slice a zs.length ca, .int .i64 x] w fun e w' => e = .returned (.bool b) ∧ w = w' := by
  subst hb
  have HA := Lib.hid ha; clear ha
  go_enter Try.func28, Try.ntmps28
  go_wp2
  go_loop [5] (fun i => ∃ k : Nat, k ≤ zs.length ∧ i = .int .i64 k ∧ x ∉ zs.take k) (fun i => zs.length - (intOf i).toNat)
  case atStart => exact ⟨0, Nat.zero_le _, rfl, by simp⟩
  case round =>
    obtain ⟨k, hk, rfl, hnot⟩ := hrel
    by_cases hlt : k < zs.length
    · obtain ⟨b1, o1, rfl, _, c1⟩ := HA.out k hlt
      have hi1 : (k : Int) < (zs.length : Int) := by omega
      have hg : zs.getD k 0 = zs[k] := by simp [hlt]
      have hmem : zs.getD k 0 ∈ zs := by rw [hg]; exact List.getElem_mem _
      have htk : zs.take (k + 1) = zs.take k ++ [zs.getD k 0] := by rw [hg, List.take_succ_eq_append_getElem hlt]
      by_cases e : zs.getD k 0 = x
      · have HE : Hid (decide (x ∈ zs) = true) := Lib.hid (by rw [← e]; simpa using hmem)
        have hq : (zs.getD k 0 == x) = true := by simpa using e
        clear HA hmem htk hnot hg e
        generalize zs.getD k 0 = y at *
        go_wp2
        try rw [Exit.noGoto_ret]
        go_ret
        exact ⟨ret_b HE.out.symm, rfl⟩
      · have HN : Hid (x ∉ zs.take (k + 1)) := Lib.hid (by rw [htk]; simp; exact ⟨hnot, fun h => e (by rw [h]; simp)⟩)
        have hq : (zs.getD k 0 == x) = false := by simpa using e
        clear HA hmem htk hnot hg e
        generalize zs.getD k 0 = y at *
        go_wp2
        go_round
        case rel => exact ⟨k + 1, by omega, by go_num, HN.out⟩
        case measure => simp [intOf]; omega
    · have hk' : zs.take k = zs := List.take_of_length_le (by omega)
      have HE : Hid (decide (x ∈ zs) = false) := Lib.hid (by rw [hk'] at hnot; simpa using hnot)
      clear HA hnot hk'
      go_wp2
      go_ret
      exact ⟨ret_b HE.out.symm, rfl⟩
end Go.Proofs.Ytcllgfkmjleckaa
