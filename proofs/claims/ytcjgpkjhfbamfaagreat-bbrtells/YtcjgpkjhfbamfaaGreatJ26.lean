/-
  A model (package bbr), as plain numbers: what follows of its Updates (floor, modes, rate). No program is spoken of. Conditions: none.
-/
import Derived.Test.YtcjgpkjhfbamfaaGreatJ13
set_option linter.unusedVariables false
set_option linter.unusedSimpArgs false
namespace Go.Proofs.YtcjgpkjhfbamfaaGreat
open Go.RowKit
set_option maxRecDepth 100000

/-- Ahead of step 5; behind it; behind step 7. -/
def midM (x : Mdl) (s : Spl) : Mdl := walM (pipM (turM (meaM (oneM x s) s) s) (begR x.r s) s) s
def looX (x : Mdl) (s : Spl) : Mdl := looM (midM x s) (begR x.r s) s
def menX (x : Mdl) (s : Spl) : Mdl := menM (pacM (looX x s)) (begR x.r s) s
section
variable {x y : Mdl} {s : Spl} {st : Bool} {tso M : Int}
theorem updM_eq : updM x s tso = fitM (menX x s) s tso := rfl
/-- What a step does not turn. -/
structure Same (x y : Mdl) : Prop where
  r : y.r = x.r
  q : y.q = x.q
  o : y.o = x.o
  s : y.s = x.s
  t : y.t = x.t
  w : y.w = x.w
  k : y.k = x.k
  v : y.v = x.v
  u : y.u = x.u
  n : y.n = x.n
theorem Same.trans {z : Mdl} (h : Same x y) (k : Same y z) : Same x z := ⟨k.r.trans h.r, k.q.trans h.q, k.o.trans h.o, k.s.trans h.s, k.t.trans h.t, k.w.trans h.w, k.k.trans h.k, k.v.trans h.v, k.u.trans h.u, k.n.trans h.n⟩
theorem Same.refl (x : Mdl) : Same x x := ⟨rfl, rfl, rfl, rfl, rfl, rfl, rfl, rfl, rfl, rfl⟩
theorem mea_same : Same x (meaM x s) ∧ (meaM x s).p = x.p ∧ (meaM x s).m = x.m ∧ (meaM x s).c = x.c := by
  unfold meaM; split
  · split
    · exact ⟨⟨rfl, rfl, rfl, rfl, rfl, rfl, rfl, rfl, rfl, rfl⟩, rfl, rfl, rfl⟩
    · exact ⟨Same.refl _, rfl, rfl, rfl⟩
  · exact ⟨Same.refl _, rfl, rfl, rfl⟩
theorem tur_same : Same x (turM x s) ∧ (turM x s).p = x.p ∧ (turM x s).m = x.m ∧ (turM x s).b = x.b := by
  unfold turM; split
  · exact ⟨⟨rfl, rfl, rfl, rfl, rfl, rfl, rfl, rfl, rfl, rfl⟩, rfl, rfl, rfl⟩
  · exact ⟨Same.refl _, rfl, rfl, rfl⟩
theorem dra_same : Same x (draM x s) ∧ (draM x s).p = x.p ∧ (draM x s).b = x.b ∧ ((draM x s).m = x.m ∨ (draM x s).m = 2) := by
  unfold draM; split
  · exact ⟨Same.refl _, rfl, rfl, .inl rfl⟩
  · exact ⟨⟨rfl, rfl, rfl, rfl, rfl, rfl, rfl, rfl, rfl, rfl⟩, rfl, rfl, .inr rfl⟩
theorem wal_same : Same x (walM x s) ∧ (walM x s).p = x.p ∧ (walM x s).b = x.b := by
  unfold walM; split
  · split
    · have h := dra_same (x := { x with m := 1 }) (s := s)
      exact ⟨⟨h.1.r, h.1.q, h.1.o, h.1.s, h.1.t, h.1.w, h.1.k, h.1.v, h.1.u, h.1.n⟩, h.2.1, h.2.2.1⟩
    · exact ⟨Same.refl _, rfl, rfl⟩
  · split
    · exact ⟨dra_same.1, dra_same.2.1, dra_same.2.2.1⟩
    · exact ⟨Same.refl _, rfl, rfl⟩
/-- The mode behind step 4. -/
theorem wal_m : (x.m = 0 ∧ fullP x.p = false ∧ (walM x s).m = 0) ∨ (x.m = 0 ∧ fullP x.p = true ∧ ((walM x s).m = 1 ∨ (walM x s).m = 2)) ∨ (x.m = 1 ∧ ((walM x s).m = 1 ∨ (walM x s).m = 2)) ∨ (x.m ≠ 0 ∧ x.m ≠ 1 ∧ (walM x s).m = x.m) := by
  unfold walM; split
  · rename_i h0
    split
    · rename_i hf
      have h := (dra_same (x := { x with m := 1 }) (s := s)).2.2.2
      exact .inr (.inl ⟨h0, hf, h⟩)
    · rename_i hf
      exact .inl ⟨h0, by simpa using hf, h0⟩
  · rename_i h0
    split
    · rename_i h1
      have h := (dra_same (x := x) (s := s)).2.2.2
      exact .inr (.inr (.inl ⟨h1, by rw [h1] at h; exact h⟩))
    · rename_i h1
      exact .inr (.inr (.inr ⟨h0, h1, rfl⟩))
theorem full_upd {p : Pst} {lim : Bool} {bw : Int} (h : fullP p = true) : fullP (updP p st lim bw) = true := by
  have hs : stepP p bw = p := by unfold stepP; rw [if_pos h]
  unfold updP; rw [hs]; split <;> exact h
/-- What stands ahead of step 5. -/
theorem mid_same : (midM x s).q = x.q ∧ (midM x s).s = x.s ∧ (midM x s).t = x.t ∧ (midM x s).w = x.w ∧ (midM x s).k = x.k ∧ (midM x s).v = x.v ∧ (midM x s).n = x.n ∧ (midM x s).u = x.u ∧ (midM x s).r = updR x.r s ∧ (midM x s).o = updPol x.o (begR x.r s) s := by
  have h1 := (mea_same (x := oneM x s) (s := s)).1
  have h2 := (tur_same (x := meaM (oneM x s) s) (s := s)).1
  have h3 := (wal_same (x := pipM (turM (meaM (oneM x s) s) s) (begR x.r s) s) (s := s)).1
  have h4 : Same (turM (meaM (oneM x s) s) s) (pipM (turM (meaM (oneM x s) s) s) (begR x.r s) s) := ⟨rfl, rfl, rfl, rfl, rfl, rfl, rfl, rfl, rfl, rfl⟩
  have h := ((h1.trans h2).trans h4).trans h3
  exact ⟨h.q, h.s, h.t, h.w, h.k, h.v, h.n, h.u, h.r, h.o⟩
theorem mid_p : (midM x s).p = updP x.p (begR x.r s) s.l (meaM (oneM x s) s).b.v0 := by
  have h3 := (wal_same (x := pipM (turM (meaM (oneM x s) s) s) (begR x.r s) s) (s := s)).2.1
  have h2 := tur_same (x := meaM (oneM x s) s) (s := s)
  have h1 := (mea_same (x := oneM x s) (s := s)).2.1
  rw [show (midM x s).p = _ from h3]
  show updP (turM (meaM (oneM x s) s) s).p _ _ (turM (meaM (oneM x s) s) s).b.v0 = _
  rw [h2.2.1, h2.2.2.2, h1]; rfl
theorem mid_m : (x.m = 0 ∧ (midM x s).m = 0) ∨ (x.m = 0 ∧ fullP (midM x s).p = true ∧ ((midM x s).m = 1 ∨ (midM x s).m = 2)) ∨ (x.m = 1 ∧ ((midM x s).m = 1 ∨ (midM x s).m = 2)) ∨ (x.m ≠ 0 ∧ x.m ≠ 1 ∧ (midM x s).m = x.m) := by
  have hx : (pipM (turM (meaM (oneM x s) s) s) (begR x.r s) s).m = x.m := by
    show (turM (meaM (oneM x s) s) s).m = x.m
    rw [tur_same.2.2.1, mea_same.2.2.1]; rfl
  have hp : (midM x s).p = (pipM (turM (meaM (oneM x s) s) s) (begR x.r s) s).p := wal_same.2.1
  have h := wal_m (x := pipM (turM (meaM (oneM x s) s) s) (begR x.r s) s) (s := s)
  rw [hx] at h
  rw [hp]
  rcases h with ⟨a, b, c⟩ | ⟨a, b, c⟩ | ⟨a, b⟩ | ⟨a, b, c⟩
  · exact .inl ⟨a, c⟩
  · exact .inr (.inl ⟨a, b, c⟩)
  · exact .inr (.inr (.inl ⟨a, b⟩))
  · exact .inr (.inr (.inr ⟨a, b, c⟩))
/-- Step 5. -/
theorem loo_p : (looM x st s).p = x.p ∧ (looM x st s).s = x.s ∧ (looM x st s).t = x.t ∧ (looM x st s).v = x.v ∧ (looM x st s).n = x.n ∧ (looM x st s).u = x.u ∧ (looM x st s).r = x.r ∧ (looM x st s).q = updB x.q (looL x st s) ∧ (looM x st s).b = x.b ∧ (looM x st s).o = x.o := by
  unfold looM; simp only []; split
  · exact ⟨rfl, rfl, rfl, rfl, rfl, rfl, rfl, rfl, rfl, rfl⟩
  · split
    · split <;> exact ⟨rfl, rfl, rfl, rfl, rfl, rfl, rfl, rfl, rfl, rfl⟩
    · exact ⟨rfl, rfl, rfl, rfl, rfl, rfl, rfl, rfl, rfl, rfl⟩
theorem loo_cases : (begB x.q (looL x st s) = true ∧ looM x st s = { keepM { x with q := updB x.q (looL x st s) } with m := 3 }) ∨ (begB x.q (looL x st s) = false ∧ leaB x.q (looL x st s) = true ∧ fullP x.p = true ∧ looM x st s = cruM (resM { x with q := updB x.q (looL x st s) }) s.n) ∨ (begB x.q (looL x st s) = false ∧ leaB x.q (looL x st s) = true ∧ fullP x.p = false ∧ looM x st s = { resM { x with q := updB x.q (looL x st s) } with m := 0 }) ∨ (begB x.q (looL x st s) = false ∧ leaB x.q (looL x st s) = false ∧ looM x st s = { x with q := updB x.q (looL x st s) }) := by
  by_cases hb : begB x.q (looL x st s) = true
  · exact .inl ⟨hb, by simp [looM, hb]⟩
  have hb' : begB x.q (looL x st s) = false := by simpa using hb
  by_cases hle : leaB x.q (looL x st s) = true
  · by_cases hf : fullP x.p = true
    · exact .inr (.inl ⟨hb', hle, hf, by simp [looM, hb', hle, hf]⟩)
    · exact .inr (.inr (.inl ⟨hb', hle, by simpa using hf, by simp [looM, hb', hle, hf]⟩))
  · exact .inr (.inr (.inr ⟨hb', by simpa using hle, by simp [looM, hb', hle]⟩))
theorem updB_i (q : Prb) (l : Lok) : (updB q l).i = (if begB q l = true then true else if q.i = false then false else if q.u = 0 then true else if leaB q l = true then false else true) := by
  unfold updB goB
  split
  · rfl
  split
  · rfl
  split
  · split <;> rfl
  split <;> rfl
theorem loo_m : (x.q.i = false ∧ (looM x st s).m = 3 ∧ (updB x.q (looL x st s)).i = true) ∨ (x.q.i = true ∧ fullP x.p = true ∧ (looM x st s).m = 2 ∧ (updB x.q (looL x st s)).i = false) ∨ (x.q.i = true ∧ fullP x.p = false ∧ (looM x st s).m = 0 ∧ (updB x.q (looL x st s)).i = false) ∨ ((looM x st s).m = x.m ∧ (updB x.q (looL x st s)).i = x.q.i) := by
  have hq := updB_i x.q (looL x st s)
  rcases loo_cases (x := x) (st := st) (s := s) with ⟨a, e⟩ | ⟨a, b, c, e⟩ | ⟨a, b, c, e⟩ | ⟨a, b, e⟩
  · have hi : x.q.i = false := by simp [begB] at a; exact a.1
    exact .inl ⟨hi, by rw [e], by rw [hq, a]; rfl⟩
  · have hi : x.q.i = true ∧ x.q.u ≠ 0 := by simp [leaB] at b; exact ⟨b.1.1.1, b.1.1.2⟩
    exact .inr (.inl ⟨hi.1, c, by rw [e]; rfl, by rw [hq, a, b, hi.1]; simp [hi.2]⟩)
  · have hi : x.q.i = true ∧ x.q.u ≠ 0 := by simp [leaB] at b; exact ⟨b.1.1.1, b.1.1.2⟩
    exact .inr (.inr (.inl ⟨hi.1, c, by rw [e], by rw [hq, a, b, hi.1]; simp [hi.2]⟩))
  · exact .inr (.inr (.inr ⟨by rw [e], by rw [hq, a, b]; cases x.q.i <;> simp⟩))
theorem pac_same : (pacM x).p = x.p ∧ (pacM x).s = x.s ∧ (pacM x).m = x.m ∧ (pacM x).w = x.w ∧ (pacM x).k = x.k ∧ (pacM x).v = x.v ∧ (pacM x).n = x.n ∧ (pacM x).u = x.u ∧ (pacM x).r = x.r ∧ (pacM x).q = x.q ∧ (pacM x).c = x.c ∧ (pacM x).b = x.b ∧ (pacM x).o = x.o := by
  unfold pacM; split
  · exact ⟨rfl, rfl, rfl, rfl, rfl, rfl, rfl, rfl, rfl, rfl, rfl, rfl, rfl⟩
  · split <;> exact ⟨rfl, rfl, rfl, rfl, rfl, rfl, rfl, rfl, rfl, rfl, rfl, rfl, rfl⟩
theorem rateM_pos : 1 ≤ rateM x := by unfold rateM maxI; split; exact Int.le_refl 1; omega
theorem pac_t : ((pacM x).t = x.t ∨ 1 ≤ (pacM x).t) ∧ (fullP x.p = false → x.t ≤ (pacM x).t) := by
  unfold pacM; split
  · exact ⟨.inl rfl, fun _ => Int.le_refl _⟩
  · split
    · rename_i h
      exact ⟨.inr rateM_pos, fun hf => by simp [hf] at h; exact Int.le_of_lt h⟩
    · exact ⟨.inl rfl, fun _ => Int.le_refl _⟩
theorem men_same : (menM x st s).p = x.p ∧ (menM x st s).s = x.s ∧ (menM x st s).m = x.m ∧ (menM x st s).t = x.t ∧ (menM x st s).r = x.r ∧ (menM x st s).q = x.q ∧ (menM x st s).c = x.c ∧ (menM x st s).b = x.b ∧ (menM x st s).o = x.o := by
  unfold menM; split
  · exact ⟨rfl, rfl, rfl, rfl, rfl, rfl, rfl, rfl, rfl⟩
  · split
    · split <;> exact ⟨rfl, rfl, rfl, rfl, rfl, rfl, rfl, rfl, rfl⟩
    · split <;> exact ⟨rfl, rfl, rfl, rfl, rfl, rfl, rfl, rfl, rfl⟩
theorem gro_same : (groM x s tso).p = x.p ∧ (groM x s tso).s = x.s ∧ (groM x s tso).m = x.m ∧ (groM x s tso).t = x.t ∧ (groM x s tso).r = x.r ∧ (groM x s tso).q = x.q ∧ (groM x s tso).k = x.k ∧ (groM x s tso).c = x.c ∧ (groM x s tso).b = x.b ∧ (groM x s tso).o = x.o ∧ (groM x s tso).v = x.v ∧ (groM x s tso).n = x.n := by
  unfold groM; split
  · exact ⟨rfl, rfl, rfl, rfl, rfl, rfl, rfl, rfl, rfl, rfl, rfl, rfl⟩
  · split <;> exact ⟨rfl, rfl, rfl, rfl, rfl, rfl, rfl, rfl, rfl, rfl, rfl, rfl⟩
theorem fit_same : (fitM x s tso).p = x.p ∧ (fitM x s tso).s = x.s ∧ (fitM x s tso).m = x.m ∧ (fitM x s tso).t = x.t ∧ (fitM x s tso).r = x.r ∧ (fitM x s tso).q = x.q ∧ (fitM x s tso).k = x.k ∧ (fitM x s tso).c = x.c ∧ (fitM x s tso).b = x.b ∧ (fitM x s tso).o = x.o ∧ (fitM x s tso).v = x.v ∧ (fitM x s tso).n = x.n := by
  have h : ∀ y : Mdl, (ackM y s tso).p = y.p ∧ (ackM y s tso).s = y.s ∧ (ackM y s tso).m = y.m ∧ (ackM y s tso).t = y.t ∧ (ackM y s tso).r = y.r ∧ (ackM y s tso).q = y.q ∧ (ackM y s tso).k = y.k ∧ (ackM y s tso).c = y.c ∧ (ackM y s tso).b = y.b ∧ (ackM y s tso).o = y.o ∧ (ackM y s tso).v = y.v ∧ (ackM y s tso).n = y.n := fun y => by
    unfold ackM; split
    · exact ⟨rfl, rfl, rfl, rfl, rfl, rfl, rfl, rfl, rfl, rfl, rfl, rfl⟩
    · split
      · exact gro_same
      · exact ⟨rfl, rfl, rfl, rfl, rfl, rfl, rfl, rfl, rfl, rfl, rfl, rfl⟩
  have := h (losM x s)
  exact this
/-- Of an Update. -/
theorem upd_p : (updM x s tso).p = (midM x s).p := by rw [updM_eq, fit_same.1]; show (menX x s).p = _; unfold menX; rw [men_same.1, pac_same.1]; exact loo_p.1
theorem upd_s : (updM x s tso).s = x.s := by rw [updM_eq, fit_same.2.1]; unfold menX; rw [men_same.2.1, pac_same.2.1]; unfold looX; rw [loo_p.2.1, mid_same.2.1]
theorem upd_m : (updM x s tso).m = (looX x s).m := by rw [updM_eq, fit_same.2.2.1]; unfold menX; rw [men_same.2.2.1, pac_same.2.2.1]
theorem upd_t : (updM x s tso).t = (pacM (looX x s)).t := by rw [updM_eq, fit_same.2.2.2.1]; unfold menX; rw [men_same.2.2.2.1]
theorem upd_r : (updM x s tso).r = updR x.r s := by
  rw [updM_eq, fit_same.2.2.2.2.1]; unfold menX; rw [men_same.2.2.2.2.1, pac_same.2.2.2.2.2.2.2.2.1]; unfold looX; rw [loo_p.2.2.2.2.2.2.1, mid_same.2.2.2.2.2.2.2.2.1]
theorem upd_q : (updM x s tso).q = updB x.q (looL (midM x s) (begR x.r s) s) := by
  rw [updM_eq, fit_same.2.2.2.2.2.1]; unfold menX; rw [men_same.2.2.2.2.2.1, pac_same.2.2.2.2.2.2.2.2.2.1]; unfold looX; rw [loo_p.2.2.2.2.2.2.2.1, mid_same.1]
theorem upd_rc : (updM x s tso).r.c = x.r.c + (if begR x.r s = true then 1 else 0) := by rw [upd_r, updR_c]
theorem upd_full (h : fullP x.p = true) : fullP (updM x s tso).p = true := by rw [upd_p, mid_p]; exact full_upd h
theorem upd_rate (h : 1 ≤ x.t) : 1 ≤ (updM x s tso).t := by
  rw [upd_t]
  have e : (looX x s).t = x.t := by unfold looX; rw [loo_p.2.2.1, mid_same.2.2.1]
  rcases (pac_t (x := looX x s)).1 with h' | h'
  · rw [h', e]; exact h
  · exact h'
theorem upd_rises (h : fullP (updM x s tso).p = false) : x.t ≤ (updM x s tso).t := by
  rw [upd_t]
  have e : (looX x s).t = x.t := by unfold looX; rw [loo_p.2.2.1, mid_same.2.2.1]
  have ep : (looX x s).p = (midM x s).p := loo_p.1
  rw [upd_p, ← ep] at h
  have := (pac_t (x := looX x s)).2 h
  rwa [e] at this
theorem upd_floor (h0 : 100 ≤ x.s) (h1 : x.s ≤ 9000) : 4 * x.s ≤ (updM x s tso).w ∧ ((updM x s tso).m = 3 → (updM x s tso).w = 4 * x.s) := by
  have e : updM x s tso = finM (ackM (losM (menX x s) s) s tso) := rfl
  have es : (ackM (losM (menX x s) s) s tso).s = x.s := (upd_s (x := x) (s := s) (tso := tso))
  have ef : floorM (ackM (losM (menX x s) s) s tso) = 4 * x.s := by rw [floorM_is (by rw [es]; exact h0) (by rw [es]; exact h1), es]
  rw [e]
  generalize ackM (losM (menX x s) s) s tso = z at *
  have hw : (finM z).w = if z.m = 3 then floorM z else maxI z.w (floorM z) := rfl
  have hm : (finM z).m = z.m := rfl
  rw [hw, hm, ef]
  constructor
  · split
    · exact Int.le_refl _
    · unfold maxI; split <;> omega
  · intro h; rw [if_pos h]
/-- Modes. -/
structure Mds (x : Mdl) : Prop where
  i : x.q.i = true ↔ x.m = 3
  f : (x.m = 1 ∨ x.m = 2) → fullP x.p = true
theorem mds_new {a : Int} : Mds (newM a) := ⟨⟨fun h => (by cases h), fun h => absurd h (by show ¬ (0 : Int) = 3; decide)⟩, fun h => by rcases h with h | h <;> exact absurd h (by first | (show ¬ (0 : Int) = 1; decide) | (show ¬ (0 : Int) = 2; decide))⟩
theorem upd_modes (h : Mds x) : Mds (updM x s tso) ∧ (x.m ≠ 0 → x.m ≠ 3 → (updM x s tso).m ≠ 0) ∧ (x.m = 2 → (updM x s tso).m ≠ 1) ∧ (x.m = 3 → (updM x s tso).m ≠ 1) := by
  have hq : (midM x s).q = x.q := mid_same.1
  have hl := loo_m (x := midM x s) (st := begR x.r s) (s := s)
  rw [hq] at hl
  have hm := mid_m (x := x) (s := s)
  have hfm : fullP x.p = true → fullP (midM x s).p = true := fun hf => by rw [mid_p]; exact full_upd hf
  have e1 := upd_m (x := x) (s := s) (tso := tso)
  have e2 : (updM x s tso).q.i = (updB x.q (looL (midM x s) (begR x.r s) s)).i := by rw [upd_q]
  have e3 := upd_p (x := x) (s := s) (tso := tso)
  have hi := h.i
  have hf := h.f
  unfold looX at e1
  rcases hl with ⟨a, b, c⟩ | ⟨a, b, c, d⟩ | ⟨a, b, c, d⟩ | ⟨a, b⟩
  · rw [b] at e1; rw [c] at e2
    exact ⟨⟨⟨fun _ => e1, fun _ => e2⟩, fun hh => by rw [e1] at hh; rcases hh with hh | hh <;> cases hh⟩, fun _ _ => by rw [e1]; decide, fun _ => by rw [e1]; decide, fun _ => by rw [e1]; decide⟩
  · rw [c] at e1; rw [d] at e2
    exact ⟨⟨⟨fun hh => (by rw [e2] at hh; cases hh), fun hh => (by rw [e1] at hh; cases hh)⟩, fun _ => by rw [e3]; exact b⟩, fun _ _ => by rw [e1]; decide, fun _ => by rw [e1]; decide, fun _ => by rw [e1]; decide⟩
  · rw [c] at e1; rw [d] at e2
    have h3 := hi.1 a
    exact ⟨⟨⟨fun hh => (by rw [e2] at hh; cases hh), fun hh => (by rw [e1] at hh; cases hh)⟩, fun hh => by rw [e1] at hh; rcases hh with hh | hh <;> cases hh⟩, fun _ hn => absurd h3 hn, fun _ => by rw [e1]; decide, fun _ => by rw [e1]; decide⟩
  · rw [a] at e1; rw [b] at e2
    rw [← e1] at hm
    rcases hm with ⟨p, r⟩ | ⟨p, r, t⟩ | ⟨p, r⟩ | ⟨p, r, t⟩
    · refine ⟨⟨⟨fun hh => ?_, fun hh => ?_⟩, fun hh => ?_⟩, fun hn => absurd p hn, fun hh => ?_, fun hh => ?_⟩
      · rw [e2] at hh; have := hi.1 hh; omega
      · omega
      · omega
      · omega
      · omega
    · refine ⟨⟨⟨fun hh => ?_, fun hh => ?_⟩, fun hh => by rw [e3]; exact r⟩, fun hn => absurd p hn, fun hh => ?_, fun hh => ?_⟩
      · rw [e2] at hh; have := hi.1 hh; omega
      · omega
      · omega
      · omega
    · refine ⟨⟨⟨fun hh => ?_, fun hh => ?_⟩, fun hh => by rw [e3]; exact hfm (hf (.inl p))⟩, fun _ _ => ?_, fun hh => ?_, fun hh => ?_⟩
      · rw [e2] at hh; have := hi.1 hh; omega
      · omega
      · omega
      · omega
      · omega
    · refine ⟨⟨⟨fun hh => ?_, fun hh => ?_⟩, fun hh => by rw [e3]; exact hfm (hf (by rcases hh with hh | hh <;> omega))⟩, fun h1 _ => by omega, fun hh => by omega, fun hh => by omega⟩
      · rw [e2] at hh; rw [t]; exact hi.1 hh
      · rw [e2]; exact hi.2 (by omega)
/-- The window does not grow by more than what was acknowledged. -/
structure Most (M : Int) (x : Mdl) : Prop where
  w : x.w ≤ M
  k : x.k ≤ M
  k0 : 0 ≤ x.k
  s : 4 * x.s ≤ M
theorem most_num (hm : Num M) (ha : Num s.a) : M ≤ satAdd M s.a := by unfold satAdd; have := hm.1; have := hm.2; have := ha.1; split <;> omega
theorem satAdd_le_add {a b c : Int} (h : a ≤ b) : satAdd a c ≤ satAdd b c := by unfold satAdd; split <;> split <;> omega
theorem satSub_le' {a b : Int} (hb : 0 ≤ b) (ha : 0 ≤ a) : satSub a b ≤ a := by unfold satSub; split <;> omega
theorem most_loo (h : Most M x) (h0 : 0 ≤ M) : Most M (looM x st s) := by
  have hk : maxI x.k x.w ≤ M ∧ 0 ≤ maxI x.k x.w := by have := h.w; have := h.k; have := h.k0; unfold maxI; split <;> constructor <;> omega
  have hw : maxI x.w x.k ≤ M := by have := h.w; have := h.k; unfold maxI; split <;> omega
  unfold looM; simp only []; split
  · exact ⟨h.w, hk.1, hk.2, h.s⟩
  · split
    · split <;> exact ⟨hw, h0, Int.le_refl _, h.s⟩
    · exact ⟨h.w, h.k, h.k0, h.s⟩
theorem most_men (h : Most M x) (h0 : 0 ≤ M) : Most M (menM x st s) := by
  have hk : maxI x.k x.w ≤ M ∧ 0 ≤ maxI x.k x.w := by have := h.w; have := h.k; have := h.k0; unfold maxI; split <;> constructor <;> omega
  have hw : maxI x.w x.k ≤ M := by have := h.w; have := h.k; unfold maxI; split <;> omega
  unfold menM; split
  · exact ⟨h.w, hk.1, hk.2, h.s⟩
  · split
    · split
      · exact ⟨h.w, h.k, h.k0, h.s⟩
      · exact ⟨hw, h0, Int.le_refl _, h.s⟩
    · split <;> exact ⟨h.w, h.k, h.k0, h.s⟩
theorem upd_most (h : Most M x) (hx : x.Fit) (hs : s.Fit) (hm : Num M) (hc : x.r.c < 18446744073709551615) :
    ((updM x s tso).w ≤ satAdd M s.a ∨ (updM x s tso).w ≤ satAdd s.f s.a) ∧ (updM x s tso).k ≤ M ∧ 0 ≤ (updM x s tso).k := by
  have hmid : Most M (midM x s) := ⟨by rw [mid_same.2.2.2.1]; exact h.w, by rw [mid_same.2.2.2.2.1]; exact h.k, by rw [mid_same.2.2.2.2.1]; exact h.k0, by rw [mid_same.2.1]; exact h.s⟩
  have hfm : (midM x s).Fit := ((((hx.one hs hc).mea hs).tur hs).pip).wal hs
  have hl : Most M (looX x s) := most_loo hmid hm.1
  have hfl : (looX x s).Fit := hfm.loo hs
  have hp : Most M (pacM (looX x s)) := ⟨by rw [pac_same.2.2.2.1]; exact hl.w, by rw [pac_same.2.2.2.2.1]; exact hl.k, by rw [pac_same.2.2.2.2.1]; exact hl.k0, by rw [pac_same.2.1]; exact hl.s⟩
  have hM : Most M (menX x s) := most_men hp hm.1
  have hfM : (menX x s).Fit := hfl.pac.men hs
  rw [updM_eq]
  generalize menX x s = z at *
  refine ⟨?_, by rw [fit_same.2.2.2.2.2.2.1]; exact hM.k, by rw [fit_same.2.2.2.2.2.2.1]; exact hM.k0⟩
  have hz0 := hfM.s0; have hz1 := hfM.s1
  have hA : M ≤ satAdd M s.a := most_num hm hs.a
  have hlw : (losM z s).w ≤ M := by
    have h1 := satSub_le' hs.o.1 hfM.w.1
    have h2 := hM.w; have h3 := hM.s
    show maxI (satSub z.w s.o) z.s ≤ M
    unfold maxI; split <;> omega
  have hak : (ackM (losM z s) s tso).w ≤ satAdd M s.a ∨ (ackM (losM z s) s tso).w ≤ satAdd s.f s.a := by
    unfold ackM; split
    · show maxI (losM z s).w (satAdd s.f s.a) ≤ _ ∨ maxI (losM z s).w (satAdd s.f s.a) ≤ _
      unfold maxI; split
      · exact .inr (Int.le_refl _)
      · left; omega
    · left
      have hg : satAdd (losM z s).w s.a ≤ satAdd M s.a := satAdd_le_add hlw
      split
      · unfold groM; split
        · show minI _ _ ≤ _
          unfold minI; split <;> omega
        · split
          · exact hg
          · omega
      · omega
  have hs4 : (ackM (losM z s) s tso).s = z.s := (fit_same (x := z) (s := s) (tso := tso)).2.1
  have hfl4 : floorM (ackM (losM z s) s tso) = 4 * z.s := by rw [floorM_is (by rw [hs4]; exact hz0) (by rw [hs4]; exact hz1), hs4]
  have hM4 := hM.s
  have e : (fitM z s tso).w = if (ackM (losM z s) s tso).m = 3 then floorM (ackM (losM z s) s tso) else maxI (ackM (losM z s) s tso).w (floorM (ackM (losM z s) s tso)) := rfl
  rw [e, hfl4]
  split
  · left; omega
  · unfold maxI; split
    · left; omega
    · exact hak
end
end Go.Proofs.YtcjgpkjhfbamfaaGreat
