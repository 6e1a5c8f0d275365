/-
  The document's own answers Bdp, Window, Rate (package canterref01) are the same numbers as those of package target. Conditions: none beyond that the arguments are numbers of their kind.
-/
import Derived.Test.YtbimmadllfgmiaaGreatWideRef
import Derived.Test.YtbimmadllfgmiaaGreatRefA
import Derived.Test.YtbimmadllfgmiaaGreatTgt
set_option linter.unusedVariables false
namespace Go.Proofs.YtbimmadllfgmiaaGreat
open Go.RowKit
set_option maxRecDepth 100000
set_option maxHeartbeats 400000 in
theorem rrate_any (bw gain : Int) (v0 : 0 ≤ bw) (v1 : bw ≤ 18446744073709551615) (g0 : 0 ≤ gain) (g1 : gain ≤ 18446744073709551615) (w : World) :
    Calls Tryz.prog 20 #[.int .u64 bw, .int .u64 gain] w fun e w' => e = .returned (.int .u64 (rateV bw gain)) ∧ w = w' := by
  go_enter Tryz.func20, Tryz.ntmps20
  go_wp2_with fail
  refine (rmuldiv_any _ _ _ v0 v1 g0 g1 (by decide) (by decide) _).mono ?_
  rintro e w' ⟨rfl, rfl⟩
  go_wp2
  go_ret
  exact ⟨rfl, rfl⟩
set_option maxHeartbeats 400000 in
theorem rbdp_any (bw rtt gain : Int) (v0 : 0 ≤ bw) (v1 : bw ≤ 18446744073709551615) (r0 : 0 ≤ rtt) (r1 : rtt ≤ 18446744073709551615) (g0 : 0 ≤ gain) (g1 : gain ≤ 18446744073709551615) (w : World) :
    Calls Tryz.prog 78 #[.int .u64 bw, .int .u64 rtt, .int .u64 gain] w fun e w' => e = .returned (.int .u64 (bdpV bw rtt gain)) ∧ w = w' := by
  have HM := Lib.hid (mulDivV_num v0 r0 (show (0 : Int) ≤ 1000000000 by decide))
  have HE : Hid (mulDivV (mulDivV bw rtt 1000000000) gain 256 = bdpV bw rtt gain) := Lib.hid rfl
  go_enter Tryz.func78, Tryz.ntmps78
  go_wp2_with fail
  refine (rmuldiv_any _ _ _ v0 v1 r0 r1 (by decide) (by decide) _).mono ?_
  rintro e w' ⟨rfl, rfl⟩
  generalize mulDivV bw rtt 1000000000 = m at *
  go_wp2_with fail
  refine (rmuldiv_any _ _ _ HM.out.1 HM.out.2 g0 g1 (by decide) (by decide) _).mono ?_
  rintro e w' ⟨rfl, rfl⟩
  go_wp2
  go_ret
  exact ⟨ret_int HE.out, rfl⟩
set_option maxHeartbeats 400000 in
theorem rwin_any (bw rtt gain tso mss : Int) (v0 : 0 ≤ bw) (v1 : bw ≤ 18446744073709551615) (r0 : 0 ≤ rtt) (r1 : rtt ≤ 18446744073709551615) (g0 : 0 ≤ gain) (g1 : gain ≤ 18446744073709551615)
    (t0 : 0 ≤ tso) (t1 : tso ≤ 18446744073709551615) (m0 : 0 ≤ mss) (m1 : mss ≤ 18446744073709551615) (w : World) :
    Calls Tryz.prog 83 #[.int .u64 bw, .int .u64 rtt, .int .u64 gain, .int .u64 tso, .int .u64 mss] w fun e w' => e = .returned (.int .u64 (winV bw rtt gain tso mss)) ∧ w = w' := by
  by_cases hr : rtt = 0
  · have HE : Hid (satMul 10 mss = winV bw rtt gain tso mss) := Lib.hid (by unfold winV; rw [if_pos hr])
    have hr' : (rtt == 0) = true := by simp [hr]
    clear hr
    go_enter Tryz.func83, Tryz.ntmps83
    go_wp2_with fail
    refine (rmul_any _ _ (by decide) (by decide) m0 m1 _).mono ?_
    rintro e w' ⟨rfl, rfl⟩
    go_wp2
    go_ret
    exact ⟨ret_int HE.out, rfl⟩
  · have hr' : (rtt == 0) = false := by rw [beq_eq_false_iff_ne]; exact hr
    have HB := Lib.hid (bdpV_num v0 r0 g0)
    have HT := Lib.hid (satMul_num (show (0 : Int) ≤ 3 by decide) t0)
    have hE : winV bw rtt gain tso mss = if satAdd (bdpV bw rtt gain) (satMul 3 tso) < satMul 4 mss then satMul 4 mss else satAdd (bdpV bw rtt gain) (satMul 3 tso) := by unfold winV overV; rw [if_neg hr]
    have HE := Lib.hid hE
    clear hr hE
    go_enter Tryz.func83, Tryz.ntmps83
    go_wp2_with fail
    refine (rbdp_any _ _ _ v0 v1 r0 r1 g0 g1 _).mono ?_
    rintro e w1 ⟨rfl, rfl⟩
    generalize bdpV bw rtt gain = x at *
    go_wp2_with fail
    refine (rmul_any _ _ (by decide) (by decide) t0 t1 _).mono ?_
    rintro e w' ⟨rfl, rfl⟩
    generalize satMul 3 tso = y at *
    go_wp2_with fail
    refine (radd_any _ _ HB.out.1 HB.out.2 HT.out.1 HT.out.2 _).mono ?_
    rintro e w' ⟨rfl, rfl⟩
    generalize satAdd x y = z at *
    go_wp2_with fail
    refine (rmul_any _ _ (by decide) (by decide) m0 m1 _).mono ?_
    rintro e w' ⟨rfl, rfl⟩
    generalize satMul 4 mss = u at *
    rcases Int.lt_trichotomy z u with h | h | h
    · go_wp2
      go_ret
      exact ⟨ret_int (by rw [HE.out, if_pos h]), rfl⟩
    · subst h
      go_wp2
      go_ret
      exact ⟨ret_int (by rw [HE.out]; simp), rfl⟩
    · have h2 : ¬ z < u := by omega
      go_wp2
      go_ret
      exact ⟨ret_int (by rw [HE.out, if_neg (by omega)]), rfl⟩
end Go.Proofs.YtbimmadllfgmiaaGreat
