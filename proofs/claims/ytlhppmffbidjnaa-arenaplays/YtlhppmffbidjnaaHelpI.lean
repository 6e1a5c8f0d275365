/-
  canterhelp.Plain tells whether two lists of ints are alike, canterhelp.In whether one is among some. Conditions: the lists lie in memory as slices do.
-/
import Derived.Test.YtlhppmffbidjnaaArenaSt
import Derived.Test.YtlhppmffbidjnaaChecked
import Derived.WalkSpells
import Derived.WalkLawsBesides
import Derived.LoopTactic
import Derived.OwnWalk
import Derived.Deep.QuietTactic
import Derived.BigQuiet
import Derived.Deep.Draws
namespace Go.Proofs.Ytlhppmffbidjnaa
open Go.RowKit

def nums (l : List Nat) : List Int := l.map fun (i : Nat) => (i : Int)
@[simp] theorem len_nums (l : List Nat) : (nums l).length = l.length := List.length_map _
theorem getD_nums (l : List Nat) (i : Nat) (h : i < l.length) : (nums l).getD i 0 = (l[i] : Int) := by simp [nums, h]
theorem Owns.rd {w : World} {a : Option Addr} {n c : Nat} {l : List Nat} (h : Owns w 3 (.slice a n c) (ints l)) : Rd .i64 w a (nums l) := by
  intro i hi
  rw [len_nums] at hi
  obtain ⟨g, cap, e⟩ := h.pos (by simpa using Nat.lt_of_le_of_lt (Nat.zero_le _) hi)
  cases e
  refine ⟨g, 0, rfl, h.lt rfl, ?_⟩
  rw [Nat.zero_add, h.cell i (by simpa using hi), get_ints, getD_nums l i hi]; simp [hi]
theorem Rd.drewN {k : IntKind} {w : World} {a : Option Addr} {zs : List Int} (h : Rd k w a zs) (n : Nat) : Rd k (w.drewN n) a zs := h
theorem Rd.keep {k : IntKind} {w w' : World} {a : Option Addr} {zs : List Int} (h : Rd k w a zs) (hk : Keep (fun _ => False) w w') : Rd k w' a zs := h.below (hk.below (Nat.le_refl _) (fun _ h => h.elim))

theorem eq_int (x y : Int) (w : World) :
    Calls Try.prog 23 #[.int .i64 x, .int .i64 y] w fun e w' => e = .returned (.bool (x == y)) ∧ w' = w := by
  go_enter Try.func23, Try.ntmps23
  go_wp2
  go_ret
  exact ⟨rfl, rfl⟩

set_option maxHeartbeats 400000 in
theorem same_int (a b : Option Addr) (ca cb : Nat) (zs : List Int) (w : World) (hlen : zs.length ≤ 100000) (ha : Rd .i64 w a zs) (hb : Rd .i64 w b zs) :
    Calls Try.prog 22 #[.slice a zs.length ca, .slice b zs.length cb, .func (.func 23) #[] #[]] w fun e w' => e = .returned (.bool true) ∧ ∃ n, w' = w.drewN n := by
  have HA := Lib.hid ha; have HB := Lib.hid hb; clear ha hb
  go_enter Try.func22, Try.ntmps22
  go_wp2
  go_loopw [7] (fun i wr => ∃ k n : Nat, k ≤ zs.length ∧ i = .int .i64 k ∧ wr = w.drewN n) (fun i _ => zs.length - (intOf i).toNat)
  case atStart => exact ⟨0, 0, Nat.zero_le _, rfl, rfl⟩
  case round =>
    obtain ⟨k, n, hk, rfl, hw⟩ := hrel
    by_cases hlt : k < zs.length
    · obtain ⟨b1, o1, rfl, _, c1⟩ := HA.out k hlt
      obtain ⟨b2, o2, rfl, _, c2⟩ := HB.out k hlt
      have g1 : wr.cell? ⟨b1, o1 + k, none⟩ = some (.int .i64 (zs.getD k 0)) := by rw [hw]; exact c1
      have g2 : wr.cell? ⟨b2, o2 + k, none⟩ = some (.int .i64 (zs.getD k 0)) := by rw [hw]; exact c2
      clear c1 c2
      have HW := Lib.hid hw
      clear HA HB hw
      generalize zs.getD k 0 = x at *
      have hx : (x == x) = true := by simp
      have hi1 : (k : Int) < (zs.length : Int) := by omega
      go_wp2
      go_quiet ((go_at_call 23; exact Calls.quiet_of_same (eq_int _ _ _)))
      go_wp2
      go_roundw
      case rel => exact ⟨k + 1, _, by omega, by go_num, by rw [HW.out, World.drewN_drewN]⟩
      case measure => simp [intOf]; omega
    · have HW := Lib.hid hw
      clear hw HA HB
      go_wp2
      go_ret
      exact ⟨rfl, n, HW.out⟩

theorem plain_int (a b : Option Addr) (ca cb : Nat) (zs : List Int) (w : World) (hlen : zs.length ≤ 100000) (ha : Rd .i64 w a zs) (hb : Rd .i64 w b zs) :
    Calls Try.prog 18 #[.slice a zs.length ca, .slice b zs.length cb] w fun e w' => e = .returned (.bool true) ∧ ∃ n, w' = w.drewN n := by
  have HA := Lib.hid ha; have HB := Lib.hid hb; clear ha hb
  go_enter Try.func18, Try.ntmps18
  go_wp2_with fail
  refine (same_int a b ca cb zs w hlen HA.out HB.out).mono ?_
  rintro e w' ⟨rfl, n, hw⟩
  have HW := Lib.hid hw; clear hw
  go_wp2
  go_ret
  exact ⟨rfl, n, HW.out⟩

set_option maxHeartbeats 400000 in
theorem in_int (a : Option Addr) (ca : Nat) (zs : List Int) (x : Int) (b : Bool) (w : World) (hlen : zs.length ≤ 100000) (ha : Rd .i64 w a zs) (hb : decide (x ∈ zs) = b) :
    Calls Try.prog 21 #[.slice a zs.length ca, .int .i64 x] w fun e w' => e = .returned (.bool b) ∧ w = w' := by
  subst hb
  have HA := Lib.hid ha; clear ha
  go_enter Try.func21, Try.ntmps21
  go_wp2
  go_loop [5] (fun i => ∃ k : Nat, k ≤ zs.length ∧ i = .int .i64 k ∧ x ∉ zs.take k) (fun i => zs.length - (intOf i).toNat)
  case atStart => exact ⟨0, Nat.zero_le _, rfl, by simp⟩
  case round =>
    obtain ⟨k, hk, rfl, hnot⟩ := hrel
    by_cases hlt : k < zs.length
    · obtain ⟨b1, o1, rfl, _, c1⟩ := HA.out k hlt
      have hi1 : (k : Int) < (zs.length : Int) := by omega
      have hg : zs.getD k 0 = zs[k] := by simp [hlt]
      have hmem : zs.getD k 0 ∈ zs := by rw [hg]; exact List.getElem_mem _
      have htk : zs.take (k + 1) = zs.take k ++ [zs.getD k 0] := by rw [hg, List.take_succ_eq_append_getElem hlt]
      by_cases e : zs.getD k 0 = x
      · have HE : Hid (decide (x ∈ zs) = true) := Lib.hid (by rw [← e]; simpa using hmem)
        have hq : (zs.getD k 0 == x) = true := by simpa using e
        clear HA hmem htk hnot hg e
        generalize zs.getD k 0 = y at *
        go_wp2
        try rw [Exit.noGoto_ret]
        go_ret
        exact ⟨ret_b HE.out.symm, rfl⟩
      · have HN : Hid (x ∉ zs.take (k + 1)) := Lib.hid (by rw [htk]; simp; exact ⟨hnot, fun h => e (by rw [h]; simp)⟩)
        have hq : (zs.getD k 0 == x) = false := by simpa using e
        clear HA hmem htk hnot hg e
        generalize zs.getD k 0 = y at *
        go_wp2
        go_round
        case rel => exact ⟨k + 1, by omega, by go_num, HN.out⟩
        case measure => simp [intOf]; omega
    · have hk' : zs.take k = zs := List.take_of_length_le (by omega)
      have HE : Hid (decide (x ∈ zs) = false) := Lib.hid (by rw [hk'] at hnot; simpa using hnot)
      clear HA hnot hk'
      go_wp2
      go_ret
      exact ⟨ret_b HE.out.symm, rfl⟩
end Go.Proofs.Ytlhppmffbidjnaa
