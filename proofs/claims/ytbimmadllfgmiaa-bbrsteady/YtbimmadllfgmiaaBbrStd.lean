/-
  A model (package bbr), as plain numbers, on a path of one bandwidth and one round trip without losses. No program is spoken of. Conditions: none.
-/
import Derived.Test.YtbimmadllfgmiaaBbrMore
set_option linter.unusedVariables false
set_option linter.unusedSimpArgs false
namespace Go.Proofs.Ytbimmadllfgmiaa
open Go.RowKit
set_option maxRecDepth 100000
/-- Behind i updates: T acknowledged each, D in all, the trip r, the time S, the bandwidth V. -/
structure Stdy (T r V : Int) (i : Nat) (D S : Int) (x : Mdl) : Prop where
  s : x.s = 1000
  bv : x.b.v0 ≤ V
  b1 : 0 < i → x.b.v0 = V
  bl : x.b.l ≤ i
  rr : x.r = ⟨D, i⟩
  p0 : i = 0 → x.p = ⟨0, 0⟩
  p1 : 0 < i → x.p.b = V ∧ 0 ≤ x.p.c
  p2 : i ≤ 4 → 0 < i → x.p.c = (i : Int) - 1
  p3 : 4 ≤ i → x.p.c = 3
  q0 : i = 0 → x.q = newB
  q1 : 0 < i → x.q = ⟨r, S, false, 0, false⟩
  o : x.o = newPol
  v : x.v = false
  n : x.n = false
  m : x.m = 0 ∨ x.m = 1 ∨ x.m = 2
  t : 4 ≤ i → x.t = rateM x
  w : 4 ≤ i → x.m = 2 → x.w ≤ winV V r 512 2000 1000
theorem std_new {T r V : Int} (hV : 0 ≤ V) : Stdy T r V 0 0 0 (newM 1000) :=
  ⟨rfl, hV, fun h => (by cases h), Int.le_refl _, rfl, fun _ => rfl, fun h => (by cases h), fun _ h => (by cases h), fun h => (by cases h), fun _ => rfl, fun h => (by cases h), rfl, rfl, rfl, Or.inl rfl, fun h => (by cases h), fun h => (by cases h)⟩
theorem edge_gt {V : Int} (h4 : 4 ≤ V) (hV : V ≤ 10000000000) : V < edgeP V := by
  unfold edgeP mulDivV
  rw [if_neg (by omega), if_neg (by decide)]
  split <;> omega
theorem win_ge {V r : Int} (hr : r ≠ 0) : 4000 ≤ winV V r 512 2000 1000 := by
  unfold winV
  rw [if_neg hr]
  have : satMul 4 1000 = 4000 := by decide
  rw [this]
  split <;> omega
theorem std_step {T r V D S : Int} {i : Nat} {x : Mdl} (h : Stdy T r V i D S x) (hT : 0 < T) (hT2 : T ≤ 1000000000) (hr : 0 < r) (hr2 : r ≤ 100000000) (hV : mulDivV T 1000000000 r = V) (hV4 : 4 ≤ V) (hV9 : V ≤ 10000000000)
    (hD : 0 ≤ D) (hD2 : D ≤ 1000000000000) (hS : 0 ≤ S) (hS2 : S ≤ 1000000000000) (hS0 : i = 0 → S = 0) (hi : i ≤ 1000) :
    Stdy T r V (i + 1) (D + T) (S + r) (updM x ⟨S + r, D + T, D, r, r, T, 0, T, false⟩ 2000) := by
  obtain ⟨s, hs⟩ : ∃ s : Spl, s = ⟨S + r, D + T, D, r, r, T, 0, T, false⟩ := ⟨_, rfl⟩
  rw [← hs]
  have hst : begR x.r s = true := by
    rw [h.rr, hs]
    have : (T == 0) = false := by simp; omega
    simp [begR, this]
  have hrr : updR x.r s = ⟨D + T, ((i + 1 : Nat) : Int)⟩ := by
    unfold updR; rw [if_pos hst, h.rr, hs]; simp
  have hpol : updPol x.o (begR x.r s) s = newPol := by
    rw [h.o, hs]; unfold updPol
    rw [if_neg (by decide), if_pos rfl, if_neg (show ¬ (0 : Int) < 0 by decide)]; rfl
  -- the bandwidth
  have htell : telM (s) = true := by
    rw [hs]
    have h1 : (T == 0) = false := by simp; omega
    have h2 : (r == 0) = false := by simp; omega
    simp [telM, h1, h2]
  have htol : tolM s = V := by
    rw [hs]; unfold tolM
    have : satSub (D + T) D = T := by unfold satSub; rw [if_neg (by omega)]; omega
    rw [this]; exact hV
  have hone_r : (oneM x s).r = ⟨D + T, ((i + 1 : Nat) : Int)⟩ := hrr
  have hone_b : (oneM x s).b = x.b := rfl
  have htop : topT ((i + 1 : Nat) : Int) x.b.l = ((i + 1 : Nat) : Int) := by have := h.bl; unfold topT; rw [if_pos (by omega)]
  have hb : (meaM (oneM x s) s).b = allT ((i + 1 : Nat) : Int) ((i + 1 : Nat) : Int) V := by
    have hl : s.l = false := by rw [hs]
    unfold meaM
    rw [if_pos htell, hl]
    simp only [Bool.not_false, Bool.true_or, if_true]
    rw [hone_r, hone_b, htol]
    rw [updT_beats (by unfold beatsT; exact h.bv) (by decide), htop]
  have hmid := mid_same (x := x) (s := s)
  have hmb : (midM x s).b = allT ((i + 1 : Nat) : Int) ((i + 1 : Nat) : Int) V := by
    have h3 := (wal_same (x := pipM (turM (meaM (oneM x s) s) s) (begR x.r s) s) (s := s)).2.2
    have h2 := (tur_same (x := meaM (oneM x s) s) (s := s)).2.2.2
    rw [show (midM x s).b = _ from h3]
    show (turM (meaM (oneM x s) s) s).b = _
    rw [h2, hb]
  have hmp : (midM x s).p = stepP x.p V := by
    rw [mid_p, hst, hb]
    have hl : s.l = false := by rw [hs]
    rw [hl]; rfl
  -- the pipe
  have hpp : (midM x s).p.b = V ∧ 0 ≤ (midM x s).p.c ∧ (i + 1 ≤ 4 → (midM x s).p.c = ((i + 1 : Nat) : Int) - 1) ∧ (4 ≤ i + 1 → (midM x s).p.c = 3) := by
    rw [hmp]
    rcases Nat.eq_zero_or_pos i with h0 | h0
    · rw [h.p0 h0]
      have e : stepP ⟨0, 0⟩ V = ⟨V, 0⟩ := by
        unfold stepP
        have e0 : edgeP 0 = 0 := by decide
        rw [if_neg (by decide), if_pos (show edgeP 0 ≤ V by omega)]
      rw [e]
      exact ⟨rfl, Int.le_refl _, fun _ => by subst h0; rfl, fun h4 => by omega⟩
    · have hb1 := (h.p1 h0).1
      have hc1 := (h.p1 h0).2
      have hed := edge_gt hV4 hV9
      by_cases h4 : 4 ≤ i
      · have hc := h.p3 h4
        have e : stepP x.p V = x.p := by unfold stepP; rw [if_pos (by simp [fullP, hc])]
        rw [e]
        exact ⟨hb1, hc1, fun h => by omega, fun _ => hc⟩
      · have hc := h.p2 (by omega) h0
        have e : stepP x.p V = ⟨x.p.b, x.p.c + 1⟩ := by
          unfold stepP
          rw [if_neg (by simp [fullP]; omega), if_neg (by rw [hb1]; omega)]
        rw [e]
        refine ⟨hb1, ?_, fun _ => ?_, fun h => ?_⟩
        · show 0 ≤ x.p.c + 1; omega
        · show x.p.c + 1 = _; omega
        · show x.p.c + 1 = 3; omega
  -- the probe
  have hq := hmid.1
  have hex : expB x.q (S + r) = false := by
    rcases Nat.eq_zero_or_pos i with h0 | h0
    · rw [h.q0 h0]; rfl
    · rw [h.q1 h0]
      have e : satAdd S 10000000000 = S + 10000000000 := by unfold satAdd; rw [if_pos (by omega)]
      unfold expB
      rw [e]
      have : ¬ S + 10000000000 < S + r := by omega
      simp [this]
  have hlook : looL (midM x s) (begR x.r s) s = ⟨S + r, r, true, T, floorM (midM x s)⟩ := by unfold looL; rw [hst, hs]
  have hqi : x.q.i = false ∧ x.q.u = 0 ∧ x.q.r = false ∧ (x.q.b = 0 ∨ x.q.b = r) := by
    rcases Nat.eq_zero_or_pos i with h0 | h0
    · rw [h.q0 h0]; exact ⟨rfl, rfl, rfl, .inl rfl⟩
    · rw [h.q1 h0]; exact ⟨rfl, rfl, rfl, .inr rfl⟩
  have hbeg : begB (midM x s).q (looL (midM x s) (begR x.r s) s) = false := by rw [hlook, hq]; unfold begB; simp [hex]
  have hlea : leaB (midM x s).q (looL (midM x s) (begR x.r s) s) = false := by rw [hlook, hq]; unfold leaB; simp [hqi.1]
  have hupq : updB (midM x s).q (looL (midM x s) (begR x.r s) s) = ⟨r, S + r, false, 0, false⟩ := by
    rw [hlook, hq]
    rw [hlook, hq] at hbeg
    have htk : tookB x.q r false = true := by
      unfold tookB
      have : decide (0 < r) = true := by simp; exact hr
      rw [this]
      rcases hqi.2.2.2 with e | e <;> simp [e]
    unfold updB goB
    rw [hbeg]
    simp only [hex, Bool.false_eq_true, if_false, hqi.1, if_true]
    unfold takeB
    simp only [htk, if_true, hqi.2.1, hqi.2.2.1]
  have hloo : looX x s = { midM x s with q := ⟨r, S + r, false, 0, false⟩ } := by
    unfold looX
    rcases loo_cases (x := midM x s) (st := begR x.r s) (s := s) with ⟨a, e⟩ | ⟨a, b, c, e⟩ | ⟨a, b, c, e⟩ | ⟨a, b, e⟩
    · rw [hbeg] at a; cases a
    · rw [hlea] at b; cases b
    · rw [hlea] at b; cases b
    · rw [e, hupq]
  -- recovering
  have hmen : menX x s = pacM (looX x s) := by
    unfold menX menM
    have h1 : s.o = 0 := by rw [hs]
    have h2 : (pacM (looX x s)).v = false := by rw [pac_same.2.2.2.2.2.1, hloo]; show (midM x s).v = false; rw [hmid.2.2.2.2.2.1]; exact h.v
    rw [h1, h2]
    simp
  have hup : updM x s 2000 = fitM (pacM (looX x s)) s 2000 := by rw [updM_eq, hmen]
  have hLb : (looX x s).b = allT ((i + 1 : Nat) : Int) ((i + 1 : Nat) : Int) V := by rw [hloo]; exact hmb
  have hLo : (looX x s).o = newPol := by rw [hloo]; show (midM x s).o = _; rw [hmid.2.2.2.2.2.2.2.2.2]; exact hpol
  have hLq : (looX x s).q = ⟨r, S + r, false, 0, false⟩ := by rw [hloo]
  have hLp : (looX x s).p = (midM x s).p := by rw [hloo]
  have hLs : (looX x s).s = 1000 := by rw [hloo]; show (midM x s).s = _; rw [hmid.2.1]; exact h.s
  have hLn : (looX x s).n = false := by rw [hloo]; show (midM x s).n = _; rw [hmid.2.2.2.2.2.2.1]; exact h.n
  have hLv : (looX x s).v = false := by rw [hloo]; show (midM x s).v = _; rw [hmid.2.2.2.2.2.1]; exact h.v
  have hLm : (looX x s).m = (midM x s).m := by rw [hloo]
  have hLbw : bwM (looX x s) = V := by unfold bwM; rw [hLo, hLb]; rfl
  -- the fields of what is behind
  have fs := fit_same (x := pacM (looX x s)) (s := s) (tso := 2000)
  have ps := pac_same (x := looX x s)
  have yb : (updM x s 2000).b = (looX x s).b := by rw [hup, fs.2.2.2.2.2.2.2.2.1, ps.2.2.2.2.2.2.2.2.2.2.2.1]
  have yo : (updM x s 2000).o = (looX x s).o := by rw [hup, fs.2.2.2.2.2.2.2.2.2.1, ps.2.2.2.2.2.2.2.2.2.2.2.2]
  have yc : (updM x s 2000).c = (looX x s).c := by rw [hup, fs.2.2.2.2.2.2.2.1, ps.2.2.2.2.2.2.2.2.2.2.1]
  have ym : (updM x s 2000).m = (looX x s).m := upd_m
  have yp : (updM x s 2000).p = (midM x s).p := upd_p
  have yq : (updM x s 2000).q = ⟨r, S + r, false, 0, false⟩ := by rw [upd_q, ← hq]; exact hupq
  have yrate : rateM (updM x s 2000) = rateM (looX x s) := by unfold rateM bwM gainM; rw [yb, yo, yc, ym]
  have ybw : bwM (updM x s 2000) = V := by unfold bwM; rw [yb, yo]; exact hLbw
  refine ⟨by rw [upd_s]; exact h.s, by rw [yb, hLb]; exact Int.le_refl _, fun _ => by rw [yb, hLb]; rfl, by rw [yb, hLb]; exact Int.le_refl _, by rw [upd_r]; exact hrr, fun h => by omega, fun _ => by rw [yp]; exact ⟨hpp.1, hpp.2.1⟩, fun h4 _ => by rw [yp]; exact hpp.2.2.1 h4, fun h4 => by rw [yp]; exact hpp.2.2.2 h4, fun h => by omega, fun _ => yq, by rw [yo]; exact hLo, ?_, ?_, ?_, fun h4 => ?_, fun h4 h2 => ?_⟩
  · rw [hup, fs.2.2.2.2.2.2.2.2.2.2.1, ps.2.2.2.2.2.1]; exact hLv
  · rw [hup, fs.2.2.2.2.2.2.2.2.2.2.2, ps.2.2.2.2.2.2.1]; exact hLn
  · rw [ym, hLm]
    have hm := mid_m (x := x) (s := s)
    rcases h.m with e | e | e <;> rcases hm with ⟨a, b⟩ | ⟨a, b, c⟩ | ⟨a, b⟩ | ⟨a, b, c⟩ <;> omega
  · rw [yrate, upd_t]
    have hfu : fullP (looX x s).p = true := by rw [hLp]; simp [fullP, hpp.2.2.2 h4]
    unfold pacM
    rw [if_neg (by rw [hLbw]; omega), if_pos (by simp [hfu])]
  · have hfu : fullP (pacM (looX x s)).p = true := by rw [ps.1, hLp]; simp [fullP, hpp.2.2.2 h4]
    have hm2 : (pacM (looX x s)).m = 2 := by rw [ps.2.2.1, ← ym]; exact h2
    have hpn : (pacM (looX x s)).n = false := by rw [ps.2.2.2.2.2.2.1]; exact hLn
    have hps : (pacM (looX x s)).s = 1000 := by rw [ps.2.1]; exact hLs
    have hpbw : bwM (pacM (looX x s)) = V := by unfold bwM; rw [ps.2.2.2.2.2.2.2.2.2.2.2.2, ps.2.2.2.2.2.2.2.2.2.2.2.1]; exact hLbw
    have hpq : (pacM (looX x s)).q = ⟨r, S + r, false, 0, false⟩ := by rw [ps.2.2.2.2.2.2.2.2.2.1]; exact hLq
    rw [hup]
    generalize pacM (looX x s) = z at *
    have hwant : wantM (losM z s) 2000 = winV V r 512 2000 1000 := by
      have e1 : bwM (losM z s) = V := hpbw
      have e2 : roomM (losM z s) = 512 := by
        have : (losM z s).m = 2 := hm2
        unfold roomM; rw [this]; rfl
      have e3 : (losM z s).q.b = r := by show z.q.b = r; rw [hpq]
      have e4 : (losM z s).s = 1000 := hps
      unfold wantM
      rw [e1, e2, e3, e4]
    have ha : 0 < s.a := by rw [hs]; exact hT
    have hack : ackM (losM z s) s 2000 = { losM z s with w := minI (satAdd (losM z s).w s.a) (winV V r 512 2000 1000) } := by
      have e1 : (losM z s).n = false := hpn
      have e2 : fullP (losM z s).p = true := hfu
      unfold ackM
      rw [if_neg (by rw [e1]; decide), if_pos ha]
      unfold groM
      rw [if_pos e2, hwant]
    have hfin : (fitM z s 2000).w = maxI (minI (satAdd (losM z s).w s.a) (winV V r 512 2000 1000)) 4000 := by
      unfold fitM
      rw [hack]
      show (if (losM z s).m = 3 then _ else _) = _
      have e1 : (losM z s).m = 2 := hm2
      rw [e1, if_neg (by decide)]
      have e2 : floorM { losM z s with w := minI (satAdd (losM z s).w s.a) (winV V r 512 2000 1000) } = 4000 := by
        show satMul 4 z.s = 4000
        rw [hps]; decide
      rw [e2]
    rw [hfin]
    have hge := win_ge (V := V) (r := r) (by omega)
    generalize winV V r 512 2000 1000 = W at *
    unfold maxI minI
    split <;> split <;> omega
end Go.Proofs.Ytbimmadllfgmiaa
