/-
  canterlaw20.FqFair's parts: how long the next segment is; a flow, be it there or not. Conditions: the list lies in memory as slices do.
-/
import Derived.Test.YtoekmdidonnamaaFqHead
import Derived.Test.YtoekmdidonnamaaQmTwo
namespace Go.Proofs.Ytoekmdidonnamaa
open Go.RowKit
set_option maxRecDepth 100000
set_option linter.unusedSimpArgs false
set_option linter.unusedVariables false

set_option maxHeartbeats 1000000 in
/-- How long the next segment is. -/
theorem size_any (a : Option Addr) (cap : Nat) (zs : List Int) (k : Int) (hk : 0 ≤ k) (w : World) (hzl : zs.length ≤ 9223372036854775807) (hrd : Rd .i64 w a zs) :
    Calls Try.prog 20 #[.slice a zs.length cap, .int .i64 k] w fun e w' => ∃ v, e = .returned (.int .i64 v) ∧ (1 ≤ v ∧ v ≤ 9000) ∧ w = w' := by
  by_cases hz : zs.length = 0
  · have hz0 : ((zs.length : Int) == 0) = true := by rw [hz]; rfl
    clear hrd hzl hz
    go_enter Try.func20, Try.ntmps20
    go_wp2
    go_ret
    exact ⟨_, rfl, ⟨by decide, by decide⟩, rfl⟩
  · have hz0 : ((zs.length : Int) == 0) = false := by rw [beq_eq_false_iff_ne]; omega
    have hp : (0 : Int) < (zs.length : Int) := by omega
    have hr0 : 0 ≤ k % (zs.length : Int) := Int.emod_nonneg k (fun e => by omega)
    have hr1 := Int.emod_lt_of_pos k hp
    obtain ⟨t, ht⟩ : ∃ t : Nat, k % (zs.length : Int) = (t : Int) := ⟨(k % (zs.length : Int)).toNat, (Int.toNat_of_nonneg hr0).symm⟩
    obtain ⟨b, off, ea, _, cz⟩ := hrd t (by have := hr1; rw [ht] at this; omega)
    subst ea
    obtain ⟨v, hv⟩ : ∃ v, zs.getD t 0 = v := ⟨_, rfl⟩
    rw [hv] at cz
    obtain ⟨n, s, m1, m2, m3, m4, m5, m6⟩ := mod_num v 9000 (by decide) (by decide)
    have HB : Hid (1 ≤ s ∧ s ≤ 9000) := Lib.hid (by omega)
    have ht' : k.tmod (zs.length : Int) = (t : Int) := by rw [Int.tmod_eq_emod_of_nonneg hk]; exact ht
    have htl : (t : Int) < (zs.length : Int) := by rw [← ht]; exact hr1
    clear hrd hv m4 m5 m6 hr0 hr1
    go_enter Try.func20, Try.ntmps20
    go_wp2
    rw [m3]
    go_ret
    exact ⟨_, rfl, HB.out, rfl⟩
/-- A flow, be it there or not. -/
theorem Room.fqflow0 {wB w : World} {L : List Thing} {g : Nat} {own : Nat → Prop} {x : Qm} (h : Room wB w (fqT g own x :: L)) (hx : x.Ok) : Calls Try.prog 13 #[.pointer (some ⟨g, 0, none⟩), .int .i64 0] w fun e w' => ∃ V tb, e = .returned (.tuple #[Fl.v V (x.F 0), .bool tb]) ∧ Room wB w' (fqT g own x :: sgsT 34 V (x.F 0).q :: L) := by
  cases ht : x.T 0 with
  | true => exact (h.fqflow_yes (i := 0) (by decide) ht).mono fun e w' ⟨V, he, hr⟩ => ⟨V, true, he, hr⟩
  | false =>
    rw [hx.no 0 (by decide) ht]
    refine (h.fqflow_no 0 (fun e => by have h1 := e.2; rw [show ((0 : Int)).toNat = 0 from rfl, ht] at h1; cases h1)).mono ?_
    rintro e w' ⟨rfl, hr⟩
    exact ⟨.slice none 0 0, false, rfl, (hr.add (t := sgsT 34 (.slice none 0 0) []) (sgs_nil w' 34) (Keep.refl _ w') (fun k e => by cases e)).perm (List.Perm.swap _ _ _)⟩
theorem Room.fqflow1 {wB w : World} {L : List Thing} {g : Nat} {own : Nat → Prop} {x : Qm} (h : Room wB w (fqT g own x :: L)) (hx : x.Ok) : Calls Try.prog 13 #[.pointer (some ⟨g, 0, none⟩), .int .i64 1] w fun e w' => ∃ V tb, e = .returned (.tuple #[Fl.v V (x.F 1), .bool tb]) ∧ Room wB w' (fqT g own x :: sgsT 34 V (x.F 1).q :: L) := by
  cases ht : x.T 1 with
  | true => exact (h.fqflow_yes (i := 1) (by decide) ht).mono fun e w' ⟨V, he, hr⟩ => ⟨V, true, he, hr⟩
  | false =>
    rw [hx.no 1 (by decide) ht]
    refine (h.fqflow_no 1 (fun e => by have h1 := e.2; rw [show ((1 : Int)).toNat = 1 from rfl, ht] at h1; cases h1)).mono ?_
    rintro e w' ⟨rfl, hr⟩
    exact ⟨.slice none 0 0, false, rfl, (hr.add (t := sgsT 34 (.slice none 0 0) []) (sgs_nil w' 34) (Keep.refl _ w') (fun k e => by cases e)).perm (List.Perm.swap _ _ _)⟩
end Go.Proofs.Ytoekmdidonnamaa
