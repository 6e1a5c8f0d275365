/-
  The calls of package target (Bdp, Window, Rate) answer what the document says, at all numbers of 64 bits; they make blocks of their own and turn no other. Conditions: none beyond that the arguments are numbers of their kind.
-/
import Derived.Test.YtbimmadllfgmiaaGreatWide
import Derived.Test.YtbimmadllfgmiaaGreatObj
import Derived.Test.YtbimmadllfgmiaaGreatNum
import Derived.Test.YtbimmadllfgmiaaGreatChecked
import Derived.WalkSpells
import Derived.WalkLawsBesides
import Derived.LoopTactic
import Derived.LoopN
set_option linter.unusedVariables false
namespace Go.Proofs.YtbimmadllfgmiaaGreat
open Go.RowKit
set_option maxRecDepth 100000

abbrev U : Int := 18446744073709551615
def rateV (bw gain : Int) : Int := mulDivV bw gain 256
def bdpV (bw rtt gain : Int) : Int := rateV (mulDivV bw rtt 1000000000) gain
def overV (bw rtt gain tso : Int) : Int := satAdd (bdpV bw rtt gain) (satMul 3 tso)
def winV (bw rtt gain tso mss : Int) : Int := if rtt = 0 then satMul 10 mss else if overV bw rtt gain tso < satMul 4 mss then satMul 4 mss else overV bw rtt gain tso

theorem mulDivV_num {a b c : Int} (a0 : 0 ≤ a) (b0 : 0 ≤ b) (c0 : 0 ≤ c) : Num (mulDivV a b c) := mulDivV_bd a0 b0 c0
theorem satAdd_num {a b : Int} (a0 : 0 ≤ a) (b0 : 0 ≤ b) : Num (satAdd a b) := by unfold satAdd Num; split <;> omega
theorem satMul_num {a b : Int} (a0 : 0 ≤ a) (b0 : 0 ≤ b) : Num (satMul a b) := by have := Int.mul_nonneg a0 b0; unfold satMul Num; split <;> omega
theorem rateV_num {bw gain : Int} (a0 : 0 ≤ bw) (b0 : 0 ≤ gain) : Num (rateV bw gain) := mulDivV_num a0 b0 (by decide)
theorem bdpV_num {bw rtt gain : Int} (a0 : 0 ≤ bw) (r0 : 0 ≤ rtt) (b0 : 0 ≤ gain) : Num (bdpV bw rtt gain) := rateV_num (mulDivV_num a0 r0 (by decide)).1 b0
theorem rateV_zero (gain : Int) : rateV 0 gain = 0 := by unfold rateV mulDivV; rw [Int.zero_mul]; rfl

set_option maxHeartbeats 400000 in
theorem scale_any (v gain : Int) (b : Nat) (v0 : 0 ≤ v) (v1 : v ≤ 18446744073709551615) (g0 : 0 ≤ gain) (g1 : gain ≤ 18446744073709551615) (w : World) (hb : w.cell? ⟨b, 0, none⟩ = some (.int .u64 gain)) :
    Calls Tryz.prog 49 #[.int .u64 v, .slice (some ⟨b, 0, none⟩) 1 1] w fun e w' => e = .returned (.int .u64 (rateV v gain)) ∧ w = w' := by
  by_cases hv : v = 0
  · subst hv
    have HE := Lib.hid (rateV_zero gain)
    go_enter Tryz.func49, Tryz.ntmps49
    go_wp2
    go_step3
    go_wp2
    go_step3
    go_wp2
    refine wp_loop_rounds 2 ?_
    rw [rounds_succ]
    go_wp2
    try rw [Exit.noGoto_ret]
    go_ret
    exact ⟨ret_int HE.out.symm, rfl⟩
  · have hv' : (v == 0) = false := by rw [beq_eq_false_iff_ne]; exact hv
    clear hv
    have HE : Hid (mulDivV v gain 256 = rateV v gain) := Lib.hid rfl
    go_enter Tryz.func49, Tryz.ntmps49
    go_wp2
    go_step3
    go_wp2
    go_step3
    go_wp2
    refine wp_loop_rounds 2 ?_
    rw [rounds_succ]
    go_wp2_with (go_at_call 54; refine (wmuldiv_any _ _ _ v0 v1 g0 g1 (by decide) (by decide) _).mono ?_; rintro e w' ⟨rfl, rfl⟩)
    rw [rounds_succ]
    go_wp2
    try rw [Exit.noGoto_ret]
    go_ret
    exact ⟨ret_int HE.out, rfl⟩

set_option maxHeartbeats 400000 in
theorem rate_any (bw gain : Int) (v0 : 0 ≤ bw) (v1 : bw ≤ 18446744073709551615) (g0 : 0 ≤ gain) (g1 : gain ≤ 18446744073709551615) (w : World) :
    Calls Tryz.prog 18 #[.int .u64 bw, .int .u64 gain] w fun e w' => e = .returned (.int .u64 (rateV bw gain)) ∧ Keep (fun _ => False) w w' := by
  go_enter Tryz.func18, Tryz.ntmps18
  go_wp2_with fail
  refine (scale_any _ _ _ v0 v1 g0 g1 _ ((Whole.new w 22 #[.int .u64 gain]).cell 0)).mono ?_
  rintro e w' ⟨rfl, rfl⟩
  go_wp2
  go_ret
  exact ⟨rfl, (Keep.refl _ _).alloc _⟩

set_option maxHeartbeats 400000 in
theorem bdp_any (bw rtt gain : Int) (v0 : 0 ≤ bw) (v1 : bw ≤ 18446744073709551615) (r0 : 0 ≤ rtt) (r1 : rtt ≤ 18446744073709551615) (g0 : 0 ≤ gain) (g1 : gain ≤ 18446744073709551615) (w : World) :
    Calls Tryz.prog 93 #[.int .u64 bw, .int .u64 rtt, .int .u64 gain] w fun e w' => e = .returned (.int .u64 (bdpV bw rtt gain)) ∧ Keep (fun _ => False) w w' := by
  have HM := Lib.hid (mulDivV_num v0 r0 (show (0 : Int) ≤ 1000000000 by decide))
  have HE : Hid (rateV (mulDivV bw rtt 1000000000) gain = bdpV bw rtt gain) := Lib.hid rfl
  go_enter Tryz.func93, Tryz.ntmps93
  go_wp2_with fail
  refine (wmuldiv_any _ _ _ v0 v1 r0 r1 (by decide) (by decide) _).mono ?_
  rintro e w' ⟨rfl, rfl⟩
  generalize mulDivV bw rtt 1000000000 = m at *
  go_wp2_with fail
  refine (scale_any _ _ _ HM.out.1 HM.out.2 g0 g1 _ ((Whole.new w 22 #[.int .u64 gain]).cell 0)).mono ?_
  rintro e w' ⟨rfl, rfl⟩
  go_wp2
  go_ret
  exact ⟨ret_int HE.out, (Keep.refl _ _).alloc _⟩

set_option maxHeartbeats 400000 in
theorem win_any (bw rtt gain tso mss : Int) (v0 : 0 ≤ bw) (v1 : bw ≤ 18446744073709551615) (r0 : 0 ≤ rtt) (r1 : rtt ≤ 18446744073709551615) (g0 : 0 ≤ gain) (g1 : gain ≤ 18446744073709551615)
    (t0 : 0 ≤ tso) (t1 : tso ≤ 18446744073709551615) (m0 : 0 ≤ mss) (m1 : mss ≤ 18446744073709551615) (w : World) :
    Calls Tryz.prog 98 #[.int .u64 bw, .int .u64 rtt, .int .u64 gain, .int .u64 tso, .int .u64 mss] w fun e w' => e = .returned (.int .u64 (winV bw rtt gain tso mss)) ∧ Keep (fun _ => False) w w' := by
  by_cases hr : rtt = 0
  · have HE : Hid (satMul 10 mss = winV bw rtt gain tso mss) := Lib.hid (by unfold winV; rw [if_pos hr])
    have hr' : (rtt == 0) = true := by simp [hr]
    clear hr
    go_enter Tryz.func98, Tryz.ntmps98
    go_wp2_with fail
    refine (mul_any _ _ (by decide) (by decide) m0 m1 _).mono ?_
    rintro e w' ⟨rfl, rfl⟩
    go_wp2
    go_ret
    exact ⟨ret_int HE.out, Keep.refl _ _⟩
  · have hr' : (rtt == 0) = false := by rw [beq_eq_false_iff_ne]; exact hr
    have HB := Lib.hid (bdpV_num v0 r0 g0)
    have HT := Lib.hid (satMul_num (show (0 : Int) ≤ 3 by decide) t0)
    have hE : winV bw rtt gain tso mss = if satAdd (bdpV bw rtt gain) (satMul 3 tso) < satMul 4 mss then satMul 4 mss else satAdd (bdpV bw rtt gain) (satMul 3 tso) := by unfold winV overV; rw [if_neg hr]
    have HE := Lib.hid hE
    clear hr hE
    go_enter Tryz.func98, Tryz.ntmps98
    go_wp2_with fail
    refine (bdp_any _ _ _ v0 v1 r0 r1 g0 g1 _).mono ?_
    rintro e w1 ⟨rfl, k1⟩
    have HK := Lib.hid k1; clear k1
    generalize bdpV bw rtt gain = x at *
    go_wp2_with fail
    refine (mul_any _ _ (by decide) (by decide) t0 t1 _).mono ?_
    rintro e w' ⟨rfl, rfl⟩
    generalize satMul 3 tso = y at *
    go_wp2_with fail
    refine (add_any _ _ HB.out.1 HB.out.2 HT.out.1 HT.out.2 _).mono ?_
    rintro e w' ⟨rfl, rfl⟩
    generalize satAdd x y = z at *
    go_wp2_with fail
    refine (mul_any _ _ (by decide) (by decide) m0 m1 _).mono ?_
    rintro e w' ⟨rfl, rfl⟩
    generalize satMul 4 mss = u at *
    rcases Int.lt_trichotomy z u with h | h | h
    · go_wp2
      go_ret
      exact ⟨ret_int (by rw [HE.out, if_pos h]), HK.out⟩
    · subst h
      go_wp2
      go_ret
      exact ⟨ret_int (by rw [HE.out]; simp), HK.out⟩
    · have h2 : ¬ z < u := by omega
      go_wp2
      go_ret
      exact ⟨ret_int (by rw [HE.out, if_neg (by omega)]), HK.out⟩

/-! ### with the answer given -/
theorem rate_is {bw gain v : Int} (e : rateV bw gain = v) (v0 : 0 ≤ bw) (v1 : bw ≤ 18446744073709551615) (g0 : 0 ≤ gain) (g1 : gain ≤ 18446744073709551615) (w : World) :
    Calls Tryz.prog 18 #[.int .u64 bw, .int .u64 gain] w fun e w' => e = .returned (.int .u64 v) ∧ Keep (fun _ => False) w w' := e ▸ rate_any bw gain v0 v1 g0 g1 w
theorem bdp_is {bw rtt gain v : Int} (e : bdpV bw rtt gain = v) (v0 : 0 ≤ bw) (v1 : bw ≤ 18446744073709551615) (r0 : 0 ≤ rtt) (r1 : rtt ≤ 18446744073709551615) (g0 : 0 ≤ gain) (g1 : gain ≤ 18446744073709551615) (w : World) :
    Calls Tryz.prog 93 #[.int .u64 bw, .int .u64 rtt, .int .u64 gain] w fun e w' => e = .returned (.int .u64 v) ∧ Keep (fun _ => False) w w' := e ▸ bdp_any bw rtt gain v0 v1 r0 r1 g0 g1 w
theorem win_is {bw rtt gain tso mss v : Int} (e : winV bw rtt gain tso mss = v) (v0 : 0 ≤ bw) (v1 : bw ≤ 18446744073709551615) (r0 : 0 ≤ rtt) (r1 : rtt ≤ 18446744073709551615) (g0 : 0 ≤ gain) (g1 : gain ≤ 18446744073709551615)
    (t0 : 0 ≤ tso) (t1 : tso ≤ 18446744073709551615) (m0 : 0 ≤ mss) (m1 : mss ≤ 18446744073709551615) (w : World) :
    Calls Tryz.prog 98 #[.int .u64 bw, .int .u64 rtt, .int .u64 gain, .int .u64 tso, .int .u64 mss] w fun e w' => e = .returned (.int .u64 v) ∧ Keep (fun _ => False) w w' := e ▸ win_any bw rtt gain tso mss v0 v1 r0 r1 g0 g1 t0 t1 m0 m1 w
end Go.Proofs.YtbimmadllfgmiaaGreat
