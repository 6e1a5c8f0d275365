/-
  The calls of package target (Bdp, Window, Rate) answer what the document says, at all numbers of 64 bits; they make blocks of their own and turn no other. Conditions: none beyond that the arguments are numbers of their kind.
  A model (package bbr), as plain numbers: what an Update leaves, step by step (chapter 17's words), and how it lies in memory. No program is spoken of. Conditions: none.
  The document's own rounds (canterref08.Rounds): Update answers, and leaves, what package rounds does. Conditions: fewer than 2^64-1 rounds have begun.
-/
import Derived.Test.YtcjgpkjhfbamfaaGreatJ06
import Derived.Test.YtcjgpkjhfbamfaaGreatJ01
import Derived.Test.YtcjgpkjhfbamfaaGreatChecked
import Derived.Test.YtcjgpkjhfbamfaaGreatJ05
import Derived.Test.YtcjgpkjhfbamfaaGreatJ07
import Derived.Test.YtcjgpkjhfbamfaaGreatJ08
import Derived.Test.YtcjgpkjhfbamfaaGreatJ09
import Derived.Test.YtcjgpkjhfbamfaaGreatJ12
import Derived.WalkSpells
import Derived.WalkLawsBesides
import Derived.LoopTactic
import Derived.LoopN
set_option linter.unusedVariables false
namespace Go.Proofs.YtcjgpkjhfbamfaaGreat
open Go.RowKit
set_option maxRecDepth 100000

abbrev U : Int := 18446744073709551615
def rateV (bw gain : Int) : Int := mulDivV bw gain 256
def bdpV (bw rtt gain : Int) : Int := rateV (mulDivV bw rtt 1000000000) gain
def overV (bw rtt gain tso : Int) : Int := satAdd (bdpV bw rtt gain) (satMul 3 tso)
def winV (bw rtt gain tso mss : Int) : Int := if rtt = 0 then satMul 10 mss else if overV bw rtt gain tso < satMul 4 mss then satMul 4 mss else overV bw rtt gain tso

theorem mulDivV_num {a b c : Int} (a0 : 0 ≤ a) (b0 : 0 ≤ b) (c0 : 0 ≤ c) : Num (mulDivV a b c) := mulDivV_bd a0 b0 c0
theorem satAdd_num {a b : Int} (a0 : 0 ≤ a) (b0 : 0 ≤ b) : Num (satAdd a b) := by unfold satAdd Num; split <;> omega
theorem satMul_num {a b : Int} (a0 : 0 ≤ a) (b0 : 0 ≤ b) : Num (satMul a b) := by have := Int.mul_nonneg a0 b0; unfold satMul Num; split <;> omega
theorem rateV_num {bw gain : Int} (a0 : 0 ≤ bw) (b0 : 0 ≤ gain) : Num (rateV bw gain) := mulDivV_num a0 b0 (by decide)
theorem bdpV_num {bw rtt gain : Int} (a0 : 0 ≤ bw) (r0 : 0 ≤ rtt) (b0 : 0 ≤ gain) : Num (bdpV bw rtt gain) := rateV_num (mulDivV_num a0 r0 (by decide)).1 b0
theorem rateV_zero (gain : Int) : rateV 0 gain = 0 := by unfold rateV mulDivV; rw [Int.zero_mul]; rfl

set_option maxHeartbeats 400000 in
theorem scale_any (v gain : Int) (b : Nat) (v0 : 0 ≤ v) (v1 : v ≤ 18446744073709551615) (g0 : 0 ≤ gain) (g1 : gain ≤ 18446744073709551615) (w : World) (hb : w.cell? ⟨b, 0, none⟩ = some (.int .u64 gain)) :
    Calls Tryz.prog 49 #[.int .u64 v, .slice (some ⟨b, 0, none⟩) 1 1] w fun e w' => e = .returned (.int .u64 (rateV v gain)) ∧ w = w' := by
  by_cases hv : v = 0
  · subst hv
    have HE := Lib.hid (rateV_zero gain)
    go_enter Tryz.func49, Tryz.ntmps49
    go_wp2
    go_step3
    go_wp2
    go_step3
    go_wp2
    refine wp_loop_rounds 2 ?_
    rw [rounds_succ]
    go_wp2
    try rw [Exit.noGoto_ret]
    go_ret
    exact ⟨ret_int HE.out.symm, rfl⟩
  · have hv' : (v == 0) = false := by rw [beq_eq_false_iff_ne]; exact hv
    clear hv
    have HE : Hid (mulDivV v gain 256 = rateV v gain) := Lib.hid rfl
    go_enter Tryz.func49, Tryz.ntmps49
    go_wp2
    go_step3
    go_wp2
    go_step3
    go_wp2
    refine wp_loop_rounds 2 ?_
    rw [rounds_succ]
    go_wp2_with (go_at_call 54; refine (wmuldiv_any _ _ _ v0 v1 g0 g1 (by decide) (by decide) _).mono ?_; rintro e w' ⟨rfl, rfl⟩)
    rw [rounds_succ]
    go_wp2
    try rw [Exit.noGoto_ret]
    go_ret
    exact ⟨ret_int HE.out, rfl⟩

set_option maxHeartbeats 400000 in
theorem rate_any (bw gain : Int) (v0 : 0 ≤ bw) (v1 : bw ≤ 18446744073709551615) (g0 : 0 ≤ gain) (g1 : gain ≤ 18446744073709551615) (w : World) :
    Calls Tryz.prog 18 #[.int .u64 bw, .int .u64 gain] w fun e w' => e = .returned (.int .u64 (rateV bw gain)) ∧ Keep (fun _ => False) w w' := by
  go_enter Tryz.func18, Tryz.ntmps18
  go_wp2_with fail
  refine (scale_any _ _ _ v0 v1 g0 g1 _ ((Whole.new w 22 #[.int .u64 gain]).cell 0)).mono ?_
  rintro e w' ⟨rfl, rfl⟩
  go_wp2
  go_ret
  exact ⟨rfl, (Keep.refl _ _).alloc _⟩

set_option maxHeartbeats 400000 in
theorem bdp_any (bw rtt gain : Int) (v0 : 0 ≤ bw) (v1 : bw ≤ 18446744073709551615) (r0 : 0 ≤ rtt) (r1 : rtt ≤ 18446744073709551615) (g0 : 0 ≤ gain) (g1 : gain ≤ 18446744073709551615) (w : World) :
    Calls Tryz.prog 93 #[.int .u64 bw, .int .u64 rtt, .int .u64 gain] w fun e w' => e = .returned (.int .u64 (bdpV bw rtt gain)) ∧ Keep (fun _ => False) w w' := by
  have HM := Lib.hid (mulDivV_num v0 r0 (show (0 : Int) ≤ 1000000000 by decide))
  have HE : Hid (rateV (mulDivV bw rtt 1000000000) gain = bdpV bw rtt gain) := Lib.hid rfl
  go_enter Tryz.func93, Tryz.ntmps93
  go_wp2_with fail
  refine (wmuldiv_any _ _ _ v0 v1 r0 r1 (by decide) (by decide) _).mono ?_
  rintro e w' ⟨rfl, rfl⟩
  generalize mulDivV bw rtt 1000000000 = m at *
  go_wp2_with fail
  refine (scale_any _ _ _ HM.out.1 HM.out.2 g0 g1 _ ((Whole.new w 22 #[.int .u64 gain]).cell 0)).mono ?_
  rintro e w' ⟨rfl, rfl⟩
  go_wp2
  go_ret
  exact ⟨ret_int HE.out, (Keep.refl _ _).alloc _⟩

set_option maxHeartbeats 400000 in
theorem win_any (bw rtt gain tso mss : Int) (v0 : 0 ≤ bw) (v1 : bw ≤ 18446744073709551615) (r0 : 0 ≤ rtt) (r1 : rtt ≤ 18446744073709551615) (g0 : 0 ≤ gain) (g1 : gain ≤ 18446744073709551615)
    (t0 : 0 ≤ tso) (t1 : tso ≤ 18446744073709551615) (m0 : 0 ≤ mss) (m1 : mss ≤ 18446744073709551615) (w : World) :
    Calls Tryz.prog 98 #[.int .u64 bw, .int .u64 rtt, .int .u64 gain, .int .u64 tso, .int .u64 mss] w fun e w' => e = .returned (.int .u64 (winV bw rtt gain tso mss)) ∧ Keep (fun _ => False) w w' := by
  by_cases hr : rtt = 0
  · have HE : Hid (satMul 10 mss = winV bw rtt gain tso mss) := Lib.hid (by unfold winV; rw [if_pos hr])
    have hr' : (rtt == 0) = true := by simp [hr]
    clear hr
    go_enter Tryz.func98, Tryz.ntmps98
    go_wp2_with fail
    refine (mul_any _ _ (by decide) (by decide) m0 m1 _).mono ?_
    rintro e w' ⟨rfl, rfl⟩
    go_wp2
    go_ret
    exact ⟨ret_int HE.out, Keep.refl _ _⟩
  · have hr' : (rtt == 0) = false := by rw [beq_eq_false_iff_ne]; exact hr
    have HB := Lib.hid (bdpV_num v0 r0 g0)
    have HT := Lib.hid (satMul_num (show (0 : Int) ≤ 3 by decide) t0)
    have hE : winV bw rtt gain tso mss = if satAdd (bdpV bw rtt gain) (satMul 3 tso) < satMul 4 mss then satMul 4 mss else satAdd (bdpV bw rtt gain) (satMul 3 tso) := by unfold winV overV; rw [if_neg hr]
    have HE := Lib.hid hE
    clear hr hE
    go_enter Tryz.func98, Tryz.ntmps98
    go_wp2_with fail
    refine (bdp_any _ _ _ v0 v1 r0 r1 g0 g1 _).mono ?_
    rintro e w1 ⟨rfl, k1⟩
    have HK := Lib.hid k1; clear k1
    generalize bdpV bw rtt gain = x at *
    go_wp2_with fail
    refine (mul_any _ _ (by decide) (by decide) t0 t1 _).mono ?_
    rintro e w' ⟨rfl, rfl⟩
    generalize satMul 3 tso = y at *
    go_wp2_with fail
    refine (add_any _ _ HB.out.1 HB.out.2 HT.out.1 HT.out.2 _).mono ?_
    rintro e w' ⟨rfl, rfl⟩
    generalize satAdd x y = z at *
    go_wp2_with fail
    refine (mul_any _ _ (by decide) (by decide) m0 m1 _).mono ?_
    rintro e w' ⟨rfl, rfl⟩
    generalize satMul 4 mss = u at *
    rcases Int.lt_trichotomy z u with h | h | h
    · go_wp2
      go_ret
      exact ⟨ret_int (by rw [HE.out, if_pos h]), HK.out⟩
    · subst h
      go_wp2
      go_ret
      exact ⟨ret_int (by rw [HE.out]; simp), HK.out⟩
    · have h2 : ¬ z < u := by omega
      go_wp2
      go_ret
      exact ⟨ret_int (by rw [HE.out, if_neg (by omega)]), HK.out⟩

/-! ### with the answer given -/
theorem rate_is {bw gain v : Int} (e : rateV bw gain = v) (v0 : 0 ≤ bw) (v1 : bw ≤ 18446744073709551615) (g0 : 0 ≤ gain) (g1 : gain ≤ 18446744073709551615) (w : World) :
    Calls Tryz.prog 18 #[.int .u64 bw, .int .u64 gain] w fun e w' => e = .returned (.int .u64 v) ∧ Keep (fun _ => False) w w' := e ▸ rate_any bw gain v0 v1 g0 g1 w
theorem bdp_is {bw rtt gain v : Int} (e : bdpV bw rtt gain = v) (v0 : 0 ≤ bw) (v1 : bw ≤ 18446744073709551615) (r0 : 0 ≤ rtt) (r1 : rtt ≤ 18446744073709551615) (g0 : 0 ≤ gain) (g1 : gain ≤ 18446744073709551615) (w : World) :
    Calls Tryz.prog 93 #[.int .u64 bw, .int .u64 rtt, .int .u64 gain] w fun e w' => e = .returned (.int .u64 v) ∧ Keep (fun _ => False) w w' := e ▸ bdp_any bw rtt gain v0 v1 r0 r1 g0 g1 w
theorem win_is {bw rtt gain tso mss v : Int} (e : winV bw rtt gain tso mss = v) (v0 : 0 ≤ bw) (v1 : bw ≤ 18446744073709551615) (r0 : 0 ≤ rtt) (r1 : rtt ≤ 18446744073709551615) (g0 : 0 ≤ gain) (g1 : gain ≤ 18446744073709551615)
    (t0 : 0 ≤ tso) (t1 : tso ≤ 18446744073709551615) (m0 : 0 ≤ mss) (m1 : mss ≤ 18446744073709551615) (w : World) :
    Calls Tryz.prog 98 #[.int .u64 bw, .int .u64 rtt, .int .u64 gain, .int .u64 tso, .int .u64 mss] w fun e w' => e = .returned (.int .u64 v) ∧ Keep (fun _ => False) w w' := e ▸ win_any bw rtt gain tso mss v0 v1 r0 r1 g0 g1 t0 t1 m0 m1 w
end Go.Proofs.YtcjgpkjhfbamfaaGreat
set_option linter.unusedVariables false
namespace Go.Proofs.YtcjgpkjhfbamfaaGreat
open Go.RowKit
set_option maxRecDepth 100000

/-- A model: its window of bandwidths, rounds, pipe, cycle, probe, policer; mss, mode, rate, cwnd, what that was, whether it recovers, up to which number, whether it conserves. -/
structure Mdl where
  b : Tri
  r : Rst
  p : Pst
  c : Cst
  q : Prb
  o : Pol
  s : Int
  m : Int
  t : Int
  w : Int
  k : Int
  v : Bool
  u : Int
  n : Bool
structure Mdl.Fit (x : Mdl) : Prop where
  b : x.b.Fit
  r : x.r.Fit
  p : x.p.Fit
  c : x.c.Fit
  q : x.q.Fit
  o : x.o.Fit
  s0 : 100 ≤ x.s
  s1 : x.s ≤ 9000
  m0 : 0 ≤ x.m
  m3 : x.m ≤ 3
  t : Num x.t
  w : Num x.w
  k : Num x.k
  u : Num x.u
def maxI (a b : Int) : Int := if a < b then b else a
def minI (a b : Int) : Int := if a < b then a else b
def bwM (x : Mdl) : Int := if x.o.u = true then x.o.b else x.b.v0
def floorM (x : Mdl) : Int := satMul 4 x.s
def bdpM (x : Mdl) (g : Int) : Int := bdpV (bwM x) x.q.b g
def gainM (x : Mdl) : Int := if x.m = 0 then 739 else if x.m = 1 then 88 else if x.m = 2 then (if x.o.u = true then 256 else gainC x.c) else 256
def roomM (x : Mdl) : Int := if x.m = 0 then 739 else if x.m = 1 then 739 else if x.m = 2 then 512 else 256
def cruM (x : Mdl) (n : Int) : Mdl := { x with m := 2, c := startC n 2 }
def keepM (x : Mdl) : Mdl := { x with k := maxI x.k x.w }
def resM (x : Mdl) : Mdl := { x with w := maxI x.w x.k, k := 0 }
def telM (s : Spl) : Bool := !(s.a == 0 || s.i == 0)
def tolM (s : Spl) : Int := mulDivV (satSub s.d s.p) 1000000000 s.i
def meaM (x : Mdl) (s : Spl) : Mdl := if telM s = true then (if (!s.l || decide (x.b.v0 ≤ tolM s)) = true then { x with b := updT false 10 x.b x.r.c (tolM s) } else x) else x
def lokM (x : Mdl) (s : Spl) : CLok := ⟨s.n, x.q.b, s.o, s.f, bdpM x 320, bdpM x 256⟩
def turM (x : Mdl) (s : Spl) : Mdl := if x.m = 2 ∧ x.o.u = false then { x with c := updC x.c (lokM x s) } else x
def pipM (x : Mdl) (st : Bool) (s : Spl) : Mdl := { x with p := updP x.p st s.l x.b.v0 }
/-- Out of Drain. -/
def draM (x : Mdl) (s : Spl) : Mdl := if x.q.b = 0 ∨ bdpM x 256 < s.f then x else cruM x s.n
def walM (x : Mdl) (s : Spl) : Mdl := if x.m = 0 then (if fullP x.p = true then draM { x with m := 1 } s else x) else if x.m = 1 then draM x s else x
def looL (x : Mdl) (st : Bool) (s : Spl) : Lok := ⟨s.n, s.r, st, s.f, floorM x⟩
def looM (x : Mdl) (st : Bool) (s : Spl) : Mdl :=
  let y : Mdl := { x with q := updB x.q (looL x st s) }
  if begB x.q (looL x st s) = true then { keepM y with m := 3 }
  else if leaB x.q (looL x st s) = true then (if fullP x.p = true then cruM (resM y) s.n else { resM y with m := 0 })
  else y
def rateM (x : Mdl) : Int := maxI (rateV (bwM x) (gainM x)) 1
def pacM (x : Mdl) : Mdl := if bwM x = 0 then x else if (fullP x.p || decide (x.t < rateM x)) = true then { x with t := rateM x } else x
def menM (x : Mdl) (st : Bool) (s : Spl) : Mdl :=
  if (decide (0 < s.o) && !x.v) = true then keepM { x with v := true, n := true, u := satAdd s.d s.f }
  else if (x.v && decide (x.u ≤ s.d)) = true then (if x.m = 3 then { x with v := false, n := false } else resM { x with v := false, n := false })
  else if (x.v && st) = true then { x with n := false }
  else x
def wantM (x : Mdl) (tso : Int) : Int := winV (bwM x) x.q.b (roomM x) tso x.s
def groM (x : Mdl) (s : Spl) (tso : Int) : Mdl :=
  if fullP x.p = true then { x with w := minI (satAdd x.w s.a) (wantM x tso) }
  else if (decide (x.w < wantM x tso) || decide (s.d < satMul 10 x.s)) = true then { x with w := satAdd x.w s.a }
  else x
def losM (x : Mdl) (s : Spl) : Mdl := { x with w := maxI (satSub x.w s.o) x.s }
def ackM (x : Mdl) (s : Spl) (tso : Int) : Mdl := if x.n = true then { x with w := maxI x.w (satAdd s.f s.a) } else if 0 < s.a then groM x s tso else x
def finM (x : Mdl) : Mdl := { x with w := if x.m = 3 then floorM x else maxI x.w (floorM x) }
def fitM (x : Mdl) (s : Spl) (tso : Int) : Mdl := finM (ackM (losM x s) s tso)
/-- Steps 1 to 4 .. -/
def oneM (x : Mdl) (s : Spl) : Mdl := { x with r := updR x.r s, o := updPol x.o (begR x.r s) s }
def updM (x : Mdl) (s : Spl) (tso : Int) : Mdl :=
  let st := begR x.r s
  fitM (menM (pacM (looM (walM (pipM (turM (meaM (oneM x s) s) s) st s) s) st s)) st s) s tso
def newM (s : Int) : Mdl := ⟨newT 0, newR, newP, newC, newB, newPol, s, 0, rateV (1000 * (10 * s)) 739, 10 * s, 0, false, 0, false⟩

/-- What State tells: mode, phase, rate, cwnd, bw, round trip, gain, round, full, long term. -/
abbrev staC (x : Mdl) : Array Value := #[.int .i64 x.m, .int .i64 x.c.p, .int .u64 x.t, .int .u64 x.w, .int .u64 (bwM x), .int .u64 x.q.b, .int .u64 (gainM x), .int .u64 x.r.c, .bool (fullP x.p), .bool x.o.u]

theorem maxI_num {a b : Int} (ha : Num a) (hb : Num b) : Num (maxI a b) := by unfold maxI; split; exact hb; exact ha
theorem minI_num {a b : Int} (ha : Num a) (hb : Num b) : Num (minI a b) := by unfold minI; split; exact ha; exact hb
theorem floorM_is {x : Mdl} (h0 : 100 ≤ x.s) (h1 : x.s ≤ 9000) : floorM x = 4 * x.s := by unfold floorM satMul; rw [if_pos (by omega)]
theorem floorM_num {x : Mdl} (h : x.Fit) : Num (floorM x) := by have := h.s0; have := h.s1; rw [floorM_is h.s0 h.s1]; exact ⟨by omega, by omega⟩
theorem gainC_num (x : Cst) : Num (gainC x) := by unfold gainC; split; exact ⟨by decide, by decide⟩; split <;> exact ⟨by decide, by decide⟩
section
variable {x : Mdl} {s : Spl} {st : Bool} {tso g n : Int}
theorem bwM_num (h : x.Fit) : Num (bwM x) := by unfold bwM; split; exact h.o.nums.b; exact h.b.b0
theorem bdpM_num (h : x.Fit) (g0 : 0 ≤ g) : Num (bdpM x g) := bdpV_num (bwM_num h).1 h.q.b.1 g0
theorem gainM_num : Num (gainM x) := by
  unfold gainM; split; exact ⟨by decide, by decide⟩; split; exact ⟨by decide, by decide⟩
  split
  · split; exact ⟨by decide, by decide⟩; exact gainC_num _
  · exact ⟨by decide, by decide⟩
theorem roomM_num : Num (roomM x) := by
  unfold roomM; split; exact ⟨by decide, by decide⟩; split; exact ⟨by decide, by decide⟩; split <;> exact ⟨by decide, by decide⟩
theorem tolM_num (hs : s.Fit) : Num (tolM s) := mulDivV_bd (numSub hs.d hs.p).1 (by decide) hs.i.1
theorem rateM_num (h : x.Fit) : Num (rateM x) := maxI_num (rateV_num (bwM_num h).1 gainM_num.1) ⟨by decide, by decide⟩
theorem winV_num {bw rtt gain tso mss : Int} (b0 : 0 ≤ bw) (r0 : 0 ≤ rtt) (g0 : 0 ≤ gain) (t0 : 0 ≤ tso) (m0 : 0 ≤ mss) : Num (winV bw rtt gain tso mss) := by
  unfold winV
  split; exact satMul_num (by decide) m0
  split; exact satMul_num (by decide) m0
  exact satAdd_num (bdpV_num b0 r0 g0).1 (satMul_num (by decide) t0).1
theorem wantM_num (h : x.Fit) (ht : 0 ≤ tso) : Num (wantM x tso) := winV_num (bwM_num h).1 h.q.b.1 roomM_num.1 ht (by have := h.s0; omega)
theorem Mdl.Fit.one (h : x.Fit) (hs : s.Fit) (hc : x.r.c < 18446744073709551615) : (oneM x s).Fit := { h with r := h.r.upd hs.d hc, o := h.o.upd hs }
theorem Mdl.Fit.mea (h : x.Fit) (hs : s.Fit) : (meaM x s).Fit := by
  unfold meaM; split
  · split
    · exact { h with b := h.b.upd h.r.c (tolM_num hs) }
    · exact h
  · exact h
theorem Mdl.Fit.tur (h : x.Fit) (hs : s.Fit) : (turM x s).Fit := by
  unfold turM; split
  · exact { h with c := h.c.upd (show Num s.n from hs.n) }
  · exact h
theorem Mdl.Fit.pip (h : x.Fit) : (pipM x st s).Fit := { h with p := h.p.upd h.b.b0 }
theorem Mdl.Fit.cru (h : x.Fit) (hn : Num n) : (cruM x n).Fit := { h with m0 := show (0 : Int) ≤ 2 by decide, m3 := show (2 : Int) ≤ 3 by decide, c := fit_start hn 2 }
theorem Mdl.Fit.keep (h : x.Fit) : (keepM x).Fit := { h with k := maxI_num h.k h.w }
theorem Mdl.Fit.res (h : x.Fit) : (resM x).Fit := { h with w := maxI_num h.w h.k, k := show Num 0 from num00 }
theorem Mdl.Fit.mode (h : x.Fit) {m : Int} (h0 : 0 ≤ m) (h3 : m ≤ 3) : ({ x with m := m } : Mdl).Fit := { h with m0 := h0, m3 := h3 }
theorem Mdl.Fit.dra (h : x.Fit) (hs : s.Fit) : (draM x s).Fit := by
  unfold draM; split
  · exact h
  · exact h.cru hs.n
theorem Mdl.Fit.wal (h : x.Fit) (hs : s.Fit) : (walM x s).Fit := by
  unfold walM; split
  · split
    · exact (h.mode (by decide) (by decide)).dra hs
    · exact h
  · split
    · exact h.dra hs
    · exact h
theorem Mdl.Fit.loo (h : x.Fit) (hs : s.Fit) : (looM x st s).Fit := by
  have hy : ({ x with q := updB x.q (looL x st s) } : Mdl).Fit := { h with q := h.q.upd hs.n hs.r }
  unfold looM; simp only []; split
  · exact hy.keep.mode (by decide) (by decide)
  · split
    · split
      · exact hy.res.cru hs.n
      · exact hy.res.mode (by decide) (by decide)
    · exact hy
theorem Mdl.Fit.pac (h : x.Fit) : (pacM x).Fit := by
  unfold pacM; split
  · exact h
  · split
    · exact { h with t := rateM_num h }
    · exact h
theorem Mdl.Fit.men (h : x.Fit) (hs : s.Fit) : (menM x st s).Fit := by
  unfold menM; split
  · exact Mdl.Fit.keep { h with u := numAdd hs.d hs.f }
  · split
    · split
      · exact { h with }
      · exact Mdl.Fit.res { h with }
    · split
      · exact { h with }
      · exact h
theorem Mdl.Fit.gro (h : x.Fit) (hs : s.Fit) (ht : 0 ≤ tso) : (groM x s tso).Fit := by
  unfold groM; split
  · exact { h with w := minI_num (numAdd h.w hs.a) (wantM_num h ht) }
  · split
    · exact { h with w := numAdd h.w hs.a }
    · exact h
theorem Mdl.Fit.mss (h : x.Fit) : Num x.s := by have := h.s0; have := h.s1; exact ⟨by omega, by omega⟩
theorem Mdl.Fit.los (h : x.Fit) (hs : s.Fit) : (losM x s).Fit := { h with w := maxI_num (numSub h.w hs.o) h.mss }
theorem Mdl.Fit.ack (h : x.Fit) (hs : s.Fit) (ht : 0 ≤ tso) : (ackM x s tso).Fit := by
  unfold ackM; split
  · exact { h with w := maxI_num h.w (numAdd hs.f hs.a) }
  · split
    · exact h.gro hs ht
    · exact h
theorem Mdl.Fit.fin (h : x.Fit) : (finM x).Fit := by
  have hw : Num (if x.m = 3 then floorM x else maxI x.w (floorM x)) := by
    split; exact floorM_num h; exact maxI_num h.w (floorM_num h)
  exact { h with w := hw }
theorem Mdl.Fit.fit (h : x.Fit) (hs : s.Fit) (ht : 0 ≤ tso) : (fitM x s tso).Fit := ((h.los hs).ack hs ht).fin
theorem Mdl.Fit.upd (h : x.Fit) (hs : s.Fit) (ht : 0 ≤ tso) (hc : x.r.c < 18446744073709551615) : (updM x s tso).Fit :=
  (((((((h.one hs hc).mea hs).tur hs).pip.wal hs).loo hs).pac).men hs).fit hs ht
theorem fit_newM {s : Int} (h0 : 100 ≤ s) (h1 : s ≤ 9000) : (newM s).Fit :=
  ⟨fit_new num00, fit_newR, fit_newP, fit_newC, fit_newB, fit_newPol, h0, h1, show (0 : Int) ≤ 0 by decide, show (0 : Int) ≤ 3 by decide, rateV_num (by show 0 ≤ 1000 * (10 * s); omega) (by decide), ⟨by show 0 ≤ 10 * s; omega, by show 10 * s ≤ _; omega⟩, num00, num00⟩
end

/-! ### in memory -/
def mdlL (x : Mdl) : List Value := [.int .u64 10, .int .u64 x.b.l, .int .u64 x.b.t0, .int .u64 x.b.v0, .int .u64 x.b.t1, .int .u64 x.b.v1, .int .u64 x.b.t2, .int .u64 x.b.v2, .int .u64 x.r.n, .int .u64 x.r.c, .int .u64 x.p.b, .int .u64 x.p.c, .int .i64 x.c.p, .int .u64 x.c.s, .int .u64 x.q.b, .int .u64 x.q.s, .bool x.q.i, .int .u64 x.q.u, .bool x.q.r, .bool x.o.u, .bool x.o.m, .int .u64 x.o.n, .int .u64 x.o.d, .int .u64 x.o.l, .int .u64 x.o.b, .int .u64 x.o.r, .int .u64 x.o.o, .int .u64 x.s, .int .i64 x.m, .int .u64 x.t, .int .u64 x.w, .int .u64 x.k, .bool x.v, .int .u64 x.u, .bool x.n]
/-- A Model of package bbr. -/
def MdlAt (Fm : Fr) (oo : Nat) (w : World) (g : Nat) (x : Mdl) : Prop := Part Fm oo w g (mdlL x)
section
variable {Fm : Fr} {oo : Nat} {w w' : World} {g : Nat} {x : Mdl} {R : Nat → Prop}
theorem MdlAt.keep (h : MdlAt Fm oo w g x) (hk : Keep R w w') (hg : ¬ R g) : MdlAt Fm oo w' g x := Part.keep h hk hg
theorem MdlAt.kept (h : MdlAt Fm oo w g x) (hk : Keep (fun _ => False) w w') : MdlAt Fm oo w' g x := Part.keep h hk id
theorem MdlAt.drewN (h : MdlAt Fm oo w g x) (m : Nat) : MdlAt Fm oo (w.drewN m) g x := h
theorem MdlAt.drew (h : MdlAt Fm oo w g x) : MdlAt Fm oo w.drew g x := h
theorem MdlAt.alloc (h : MdlAt Fm oo w g x) (b : Obj) : MdlAt Fm oo (w.alloc b) g x := Part.alloc h b
theorem MdlAt.lt (h : MdlAt Fm oo w g x) : g < w.heap.size := Part.lt h
/-- Its parts, and back. -/
abbrev Fr.cut (F : Fr) (x : Mdl) (i j : Nat) : Fr := F.in_ ((mdlL x).take i) ((mdlL x).drop j)
theorem MdlAt.max (h : MdlAt Fm oo w g x) (hf : x.Fit) : MaxAt (Fm.cut x 0 8) oo w g 10 x.b := ⟨Part.sub h rfl 0 rfl, hf.b, ⟨by decide, by decide⟩⟩
theorem MdlAt.max' {y : Tri} (h : MaxAt (Fm.cut x 0 8) oo w g 10 y) : MdlAt Fm oo w g { x with b := y } := Part.sup (k := 0) h.whole rfl rfl
theorem MdlAt.rnd (h : MdlAt Fm oo w g x) (hf : x.Fit) : RndAt (Fm.cut x 8 10) (oo + 8) w g x.r := ⟨Part.sub h rfl 8 rfl, hf.r⟩
theorem MdlAt.rnd' {y : Rst} (h : RndAt (Fm.cut x 8 10) (oo + 8) w g y) : MdlAt Fm oo w g { x with r := y } := Part.sup h.whole rfl rfl
theorem MdlAt.pip (h : MdlAt Fm oo w g x) (hf : x.Fit) : PipAt (Fm.cut x 10 12) (oo + 10) w g x.p := ⟨Part.sub h rfl 10 rfl, hf.p⟩
theorem MdlAt.pip' {y : Pst} (h : PipAt (Fm.cut x 10 12) (oo + 10) w g y) : MdlAt Fm oo w g { x with p := y } := Part.sup h.whole rfl rfl
theorem MdlAt.cyc (h : MdlAt Fm oo w g x) (hf : x.Fit) : CycAt (Fm.cut x 12 14) (oo + 12) w g x.c := ⟨Part.sub h rfl 12 rfl, hf.c⟩
theorem MdlAt.cyc' {y : Cst} (h : CycAt (Fm.cut x 12 14) (oo + 12) w g y) : MdlAt Fm oo w g { x with c := y } := Part.sup h.whole rfl rfl
theorem MdlAt.prb (h : MdlAt Fm oo w g x) (hf : x.Fit) : PrbAt (Fm.cut x 14 19) (oo + 14) w g x.q := ⟨Part.sub h rfl 14 rfl, hf.q⟩
theorem MdlAt.prb' {y : Prb} (h : PrbAt (Fm.cut x 14 19) (oo + 14) w g y) : MdlAt Fm oo w g { x with q := y } := Part.sup h.whole rfl rfl
theorem MdlAt.pol (h : MdlAt Fm oo w g x) (hf : x.Fit) : PolAt (Fm.cut x 19 27) (oo + 19) w g x.o := ⟨Part.sub h rfl 19 rfl, hf.o⟩
theorem MdlAt.pol' {y : Pol} (h : PolAt (Fm.cut x 19 27) (oo + 19) w g y) : MdlAt Fm oo w g { x with o := y } := Part.sup h.whole rfl rfl
end
end Go.Proofs.YtcjgpkjhfbamfaaGreat
namespace Go.Proofs.YtcjgpkjhfbamfaaGreat
open Go.RowKit
set_option maxRecDepth 100000
variable {Fm : Fr} {oo : Nat}

/-- Rounds of canterref08: how many have begun; next. -/
structure RRndAt (Fm : Fr) (oo : Nat) (w : World) (g : Nat) (x : Rst) : Prop where
  whole : Part Fm oo w g #[.int .u64 x.c, .int .u64 x.n].toList
  fit : x.Fit
section
variable {w w' : World} {g : Nat} {x : Rst} {R : Nat → Prop}
theorem RRndAt.keep (h : RRndAt Fm oo w g x) (hk : Keep R w w') (hg : ¬ R g) : RRndAt Fm oo w' g x := ⟨h.whole.keep hk hg, h.fit⟩
theorem RRndAt.drewN (h : RRndAt Fm oo w g x) (m : Nat) : RRndAt Fm oo (w.drewN m) g x := ⟨h.whole.drewN m, h.fit⟩
theorem RRndAt.alloc (h : RRndAt Fm oo w g x) (o : Obj) : RRndAt Fm oo (w.alloc o) g x := ⟨h.whole.alloc o, h.fit⟩
theorem RRndAt.lt (h : RRndAt Fm oo w g x) : g < w.heap.size := h.whole.lt
end
set_option maxHeartbeats 1000000 in
theorem rrupd_any (g : Nat) (x : Rst) (s : Spl) (w : World) (h : RRndAt Fm oo w g x) (hd : Num s.d) (hc : x.c < 18446744073709551615) :
    Calls Tryz.prog 40 #[.pointer (some ⟨g, oo, none⟩), s.v] w fun e w' => e = .returned (.bool (begR x s)) ∧ RRndAt Fm oo w' g (updR x s) ∧ Keep (fun k => k = g) w w' := by
  by_cases ha : s.a = 0
  · have hbeg : begR x s = false ∧ updR x s = x := by simp [updR, begR, ha]
    have HE := Lib.hid hbeg
    have ha' : (s.a == 0) = true := by simp [ha]
    clear ha hbeg
    have hlt := h.lt
    have HN := Lib.hid (Whole.new w 34 s.c)
    have HG1 := Lib.hid (h.alloc (.cells s.c 34))
    have HK := Lib.hid ((Keep.refl (fun k => k = g) w).alloc (.cells s.c 34))
    clear h
    go_enter Tryz.func40, Tryz.ntmps40
    go_wp2
    generalize hw1 : w.alloc _ = w1 at *
    generalize w.heap.size = B at *
    have d1 : w1.cell? ⟨B, 1, none⟩ = some (.int .u64 s.d) := HN.out.cell 1
    have d2 : w1.cell? ⟨B, 2, none⟩ = some (.int .u64 s.p) := HN.out.cell 2
    have d5 : w1.cell? ⟨B, 5, none⟩ = some (.int .u64 s.a) := HN.out.cell 5
    have e1 : w1.cell? ⟨g, oo + 1, none⟩ = some (.int .u64 x.n) := HG1.out.whole.cell 1
    clear hw1
    go_quiet (fail)
    have HG2 := Lib.hid (HG1.out.drewN nq)
    have HN2 := Lib.hid (HN.out.drewN nq)
    have HK2 := Lib.hid (HK.out.drewN nq)
    clear d1 d2 d5 e1 HN HG1 HK
    generalize w1.drewN nq = w2 at *
    go_wp2
    go_ret
    exact ⟨ret_b HE.out.1.symm, (by rw [HE.out.2]; exact HG2.out), HK2.out⟩
  · have ha' : (s.a == 0) = false := by simp [ha]
    by_cases hp : s.p < x.n
    · have hbeg : begR x s = false ∧ updR x s = x := by simp [updR, begR, hp]
      have HE := Lib.hid hbeg
      clear ha hbeg
      have hlt := h.lt
      have HN := Lib.hid (Whole.new w 34 s.c)
      have HG1 := Lib.hid (h.alloc (.cells s.c 34))
      have HK := Lib.hid ((Keep.refl (fun k => k = g) w).alloc (.cells s.c 34))
      clear h
      go_enter Tryz.func40, Tryz.ntmps40
      go_wp2
      generalize hw1 : w.alloc _ = w1 at *
      generalize w.heap.size = B at *
      have d1 : w1.cell? ⟨B, 1, none⟩ = some (.int .u64 s.d) := HN.out.cell 1
      have d2 : w1.cell? ⟨B, 2, none⟩ = some (.int .u64 s.p) := HN.out.cell 2
      have d5 : w1.cell? ⟨B, 5, none⟩ = some (.int .u64 s.a) := HN.out.cell 5
      have e1 : w1.cell? ⟨g, oo + 1, none⟩ = some (.int .u64 x.n) := HG1.out.whole.cell 1
      clear hw1
      go_quiet (fail)
      have HG2 := Lib.hid (HG1.out.drewN nq)
      have HN2 := Lib.hid (HN.out.drewN nq)
      have HK2 := Lib.hid (HK.out.drewN nq)
      clear d1 d2 d5 e1 HN HG1 HK
      generalize w1.drewN nq = w2 at *
      go_wp2
      go_ret
      exact ⟨ret_b HE.out.1.symm, (by rw [HE.out.2]; exact HG2.out), HK2.out⟩
    · have hbeg : begR x s = true ∧ updR x s = ⟨s.d, x.c + 1⟩ := by simp [updR, begR, hp, ha]
      have HE := Lib.hid hbeg
      clear ha hbeg
      have hwr : IntKind.u64.wrap (x.c + 1) = x.c + 1 := by have := h.fit.c.1; rw [IntKind.wrap_u64]; omega
      have HF := Lib.hid (h.fit.upd (s := s) hd hc)
      clear hc hd
      have hlt := h.lt
      have HN := Lib.hid (Whole.new w 34 s.c)
      have HG1 := Lib.hid (h.alloc (.cells s.c 34))
      have HK := Lib.hid ((Keep.refl (fun k => k = g) w).alloc (.cells s.c 34))
      clear h
      go_enter Tryz.func40, Tryz.ntmps40
      go_wp2
      generalize hw1 : w.alloc _ = w1 at *
      generalize w.heap.size = B at *
      have d1 : w1.cell? ⟨B, 1, none⟩ = some (.int .u64 s.d) := HN.out.cell 1
      have d2 : w1.cell? ⟨B, 2, none⟩ = some (.int .u64 s.p) := HN.out.cell 2
      have d5 : w1.cell? ⟨B, 5, none⟩ = some (.int .u64 s.a) := HN.out.cell 5
      have e1 : w1.cell? ⟨g, oo + 1, none⟩ = some (.int .u64 x.n) := HG1.out.whole.cell 1
      clear hw1
      go_quiet (fail)
      have HG2 := Lib.hid (HG1.out.drewN nq)
      have HN2 := Lib.hid (HN.out.drewN nq)
      have HK2 := Lib.hid (HK.out.drewN nq)
      clear d1 d2 d5 e1 HN HG1 HK
      generalize w1.drewN nq = w2 at *
      have d1 : w2.cell? ⟨B, 1, none⟩ = some (.int .u64 s.d) := HN2.out.cell 1
      have e1 : w2.cell? ⟨g, oo + 1, none⟩ = some (.int .u64 x.n) := HG2.out.whole.cell 1
      have f1 : w2.frozen? ⟨g, oo + 1, none⟩ = false := HG2.out.whole.free 1
      have HP0 := Lib.hid (HG2.out.whole.put 1 (.int .u64 s.d))
      have e0 : (w2.setCell ⟨g, oo + 1, none⟩ (.int .u64 s.d)).cell? ⟨g, oo, none⟩ = some (.int .u64 x.c) := HP0.out.cell0
      have f0 : (w2.setCell ⟨g, oo + 1, none⟩ (.int .u64 s.d)).frozen? ⟨g, oo, none⟩ = false := HP0.out.free0
      have HP1 := Lib.hid (HP0.out.put0 (.int .u64 (x.c + 1)))
      have HK3 := Lib.hid ((HK2.out.setCell (p := ⟨g, oo + 1, none⟩) (.inl rfl) (.int .u64 s.d)).setCell (p := ⟨g, oo, none⟩) (.inl rfl) (.int .u64 (x.c + 1)))
      go_wp2
      go_ret
      refine ⟨ret_b HE.out.1.symm, ⟨?_, HF.out⟩, HK3.out⟩
      rw [HE.out.2]
      exact HP1.out
end Go.Proofs.YtcjgpkjhfbamfaaGreat
