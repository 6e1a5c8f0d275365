/-
  Three samples, the greatest (or the least) of late: the plain mathematics. No program is spoken of. Conditions: none.
-/
import Derived.Test.YtfbbmpmgceghfaaObj
import Derived.Test.YtfbbmpmgceghfaaNum
namespace Go.Proofs.Ytfbbmpmgceghfaa
open Go.RowKit
set_option maxRecDepth 100000


/-- The greatest time so far; three samples: times and values. -/
structure Tri where
  l : Int
  t0 : Int
  v0 : Int
  t1 : Int
  v1 : Int
  t2 : Int
  v2 : Int
structure Tri.Fit (x : Tri) : Prop where
  l1 : x.l ≤ 18446744073709551615
  a0 : 0 ≤ x.t0 ∧ x.t0 ≤ x.l
  a1 : 0 ≤ x.t1 ∧ x.t1 ≤ x.l
  a2 : 0 ≤ x.t2 ∧ x.t2 ≤ x.l
  b0 : Num x.v0
  b1 : Num x.v1
  b2 : Num x.v2

/-- At least (at most) that. -/
def beatsT (least : Bool) (v u : Int) : Prop := if least = true then v ≤ u else u ≤ v
instance (least : Bool) (v u : Int) : Decidable (beatsT least v u) := by unfold beatsT; exact inferInstance
def topT (t l : Int) : Int := if l ≤ t then t else l
def allT (l t v : Int) : Tri := ⟨l, t, v, t, v, t, v⟩
def twoT (x : Tri) (t v : Int) : Tri := ⟨x.l, x.t0, x.v0, t, v, t, v⟩
def oneT (x : Tri) (t v : Int) : Tri := ⟨x.l, x.t0, x.v0, x.t1, x.v1, t, v⟩
def shiftT (x : Tri) (t v : Int) : Tri := ⟨x.l, x.t1, x.v1, x.t2, x.v2, t, v⟩
def lastT (x : Tri) (t : Int) : Tri := ⟨t, x.t0, x.v0, x.t1, x.v1, x.t2, x.v2⟩
/-- The first part of Update. -/
def rankT (least : Bool) (win : Int) (x : Tri) (t v : Int) : Tri :=
  if beatsT least v x.v0 ∨ win < t - x.t2 then allT x.l t v else if beatsT least v x.v1 then twoT x t v else if beatsT least v x.v2 then oneT x t v else x
/-- The second one. -/
def ageT (win : Int) (x : Tri) (t v : Int) : Tri :=
  if win < t - x.t0 then (if win < t - x.t1 then shiftT (shiftT x t v) t v else shiftT x t v)
  else if x.t1 = x.t0 ∧ win / 4 < t - x.t0 then twoT x t v else if x.t2 = x.t1 ∧ win / 2 < t - x.t0 then oneT x t v else x
def updT (least : Bool) (win : Int) (x : Tri) (t v : Int) : Tri :=
  ageT win (rankT least win (lastT x (topT t x.l)) (topT t x.l) v) (topT t x.l) v
def resT (x : Tri) (t v : Int) : Tri := allT (topT t x.l) t v
def newT (v : Int) : Tri := allT 0 0 v

section
variable {least : Bool} {win t v l : Int} {x : Tri}
theorem topT_ge : t ≤ topT t l ∧ l ≤ topT t l := by unfold topT; split <;> omega
theorem topT_num (h : t ≤ 18446744073709551615) (h' : l ≤ 18446744073709551615) : topT t l ≤ 18446744073709551615 := by unfold topT; split <;> omega
theorem Tri.Fit.last (h : x.Fit) (ht : x.l ≤ t) (ht1 : t ≤ 18446744073709551615) : (lastT x t).Fit :=
  ⟨ht1, ⟨h.a0.1, Int.le_trans h.a0.2 ht⟩, ⟨h.a1.1, Int.le_trans h.a1.2 ht⟩, ⟨h.a2.1, Int.le_trans h.a2.2 ht⟩, h.b0, h.b1, h.b2⟩
theorem fit_all (h : l ≤ 18446744073709551615) (h0 : 0 ≤ t) (ht : t ≤ l) (hv : Num v) : (allT l t v).Fit := ⟨h, ⟨h0, ht⟩, ⟨h0, ht⟩, ⟨h0, ht⟩, hv, hv, hv⟩
theorem Tri.Fit.two (h : x.Fit) (h0 : 0 ≤ t) (ht : t ≤ x.l) (hv : Num v) : (twoT x t v).Fit := ⟨h.l1, h.a0, ⟨h0, ht⟩, ⟨h0, ht⟩, h.b0, hv, hv⟩
theorem Tri.Fit.one (h : x.Fit) (h0 : 0 ≤ t) (ht : t ≤ x.l) (hv : Num v) : (oneT x t v).Fit := ⟨h.l1, h.a0, h.a1, ⟨h0, ht⟩, h.b0, h.b1, hv⟩
theorem Tri.Fit.shift (h : x.Fit) (h0 : 0 ≤ t) (ht : t ≤ x.l) (hv : Num v) : (shiftT x t v).Fit := ⟨h.l1, h.a1, h.a2, ⟨h0, ht⟩, h.b1, h.b2, hv⟩
theorem rankT_l : (rankT least win x t v).l = x.l := by unfold rankT; split; rfl; split; rfl; split <;> rfl
theorem ageT_l : (ageT win x t v).l = x.l := by unfold ageT; split; split <;> rfl; split; rfl; split <;> rfl
theorem Tri.Fit.rank (h : x.Fit) (h0 : 0 ≤ t) (ht : t ≤ x.l) (hv : Num v) : (rankT least win x t v).Fit := by
  unfold rankT
  split; exact fit_all h.l1 h0 ht hv
  split; exact h.two h0 ht hv
  split; exact h.one h0 ht hv
  exact h
theorem Tri.Fit.age (h : x.Fit) (h0 : 0 ≤ t) (ht : t ≤ x.l) (hv : Num v) : (ageT win x t v).Fit := by
  unfold ageT
  split
  · split
    · exact (h.shift h0 ht hv).shift h0 ht hv
    · exact h.shift h0 ht hv
  split; exact h.two h0 ht hv
  split; exact h.one h0 ht hv
  exact h
theorem Tri.Fit.upd (h : x.Fit) (ht : Num t) (hv : Num v) : (updT least win x t v).Fit := by
  have h1 := topT_ge (t := t) (l := x.l)
  have h2 := topT_num ht.2 h.l1
  have h3 : 0 ≤ topT t x.l := Int.le_trans ht.1 h1.1
  have h4 := h.last h1.2 h2
  refine (h4.rank h3 (Int.le_refl _) hv).age h3 ?_ hv
  rw [rankT_l]; exact Int.le_refl _
theorem Tri.Fit.res (h : x.Fit) (ht : Num t) (hv : Num v) : (resT x t v).Fit := fit_all (topT_num ht.2 h.l1) ht.1 topT_ge.1 hv
theorem fit_new (hv : Num v) : (newT v).Fit := fit_all (by omega) (Int.le_refl _) (Int.le_refl _) hv

theorem updT_l : (updT least win x t v).l = topT t x.l := by unfold updT; rw [ageT_l, rankT_l]; rfl
/-- Each sample is one that was there, or the new one. -/
structure Tri.Of (P : Int → Int → Prop) (x : Tri) : Prop where
  p0 : P x.t0 x.v0
  p1 : P x.t1 x.v1
  p2 : P x.t2 x.v2
theorem Tri.Of.upd {P : Int → Int → Prop} (h : x.Of P) (hp : P (topT t x.l) v) : (updT least win x t v).Of P := by
  have a : ∀ y : Tri, y.Of P → (ageT win y (topT t x.l) v).Of P := fun y h => by
    unfold ageT
    split
    · split
      · exact ⟨h.p2, hp, hp⟩
      · exact ⟨h.p1, h.p2, hp⟩
    split; exact ⟨h.p0, hp, hp⟩
    split; exact ⟨h.p0, h.p1, hp⟩
    exact h
  refine a _ ?_
  unfold rankT
  split; exact ⟨hp, hp, hp⟩
  split; exact ⟨h.p0, hp, hp⟩
  split; exact ⟨h.p0, h.p1, hp⟩
  exact ⟨h.p0, h.p1, h.p2⟩
/-- A value that is no less than the first one's (no more): all are new. -/
theorem updT_beats (h : beatsT least v x.v0) (hw : 0 ≤ win) : updT least win x t v = allT (topT t x.l) (topT t x.l) v := by
  have e : rankT least win (lastT x (topT t x.l)) (topT t x.l) v = allT (topT t x.l) (topT t x.l) v := if_pos (.inl h)
  unfold updT
  rw [e]
  unfold ageT allT
  simp only [Int.sub_self]
  rw [if_neg (by omega), if_neg (by omega), if_neg (by omega)]
/-- One that comes too late: likewise. -/
theorem updT_old (h : win < topT t x.l - x.t2) (hw : 0 ≤ win) : updT least win x t v = allT (topT t x.l) (topT t x.l) v := by
  have e : rankT least win (lastT x (topT t x.l)) (topT t x.l) v = allT (topT t x.l) (topT t x.l) v := if_pos (.inr h)
  unfold updT
  rw [e]
  unfold ageT allT
  simp only [Int.sub_self]
  rw [if_neg (by omega), if_neg (by omega), if_neg (by omega)]
/-- One that is less, in time: the first one stays. -/
theorem updT_stays (h : ¬ beatsT least v x.v0) (h1 : topT t x.l - x.t0 ≤ win) (h2 : topT t x.l - x.t2 ≤ win) : (updT least win x t v).t0 = x.t0 ∧ (updT least win x t v).v0 = x.v0 := by
  have a : ∀ y : Tri, y.t0 = x.t0 ∧ y.v0 = x.v0 → (ageT win y (topT t x.l) v).t0 = x.t0 ∧ (ageT win y (topT t x.l) v).v0 = x.v0 := fun y hy => by
    unfold ageT
    rw [if_neg (by rw [hy.1]; omega)]
    split; exact hy
    split <;> exact hy
  refine a _ ?_
  unfold rankT
  rw [if_neg (by intro h'; rcases h' with h' | h'; exact h h'; have : win < topT t x.l - x.t2 := h'; omega)]
  split; exact ⟨rfl, rfl⟩
  split <;> exact ⟨rfl, rfl⟩
/-- The first one is of late. -/
theorem updT_near (hw : 0 ≤ win) : topT t x.l - (updT least win x t v).t0 ≤ win := by
  unfold updT
  generalize topT t x.l = T
  have a : ∀ y : Tri, T - y.t2 ≤ win → T - (ageT win y T v).t0 ≤ win := fun y h => by
    unfold ageT
    split
    · split
      · exact h
      · rename_i h'; exact (by omega : T - y.t1 ≤ win)
    · rename_i h'
      have h1 : T - y.t0 ≤ win := by omega
      split; exact h1
      split <;> exact h1
  refine a _ ?_
  unfold rankT
  split; exact (by omega : T - T ≤ win)
  rename_i h'
  split; exact (by omega : T - T ≤ win)
  split; exact (by omega : T - T ≤ win)
  by_cases hh : T - x.t2 ≤ win
  · exact hh
  · exact absurd (.inr (by show win < T - x.t2; omega)) h'
theorem beatsT_refl : beatsT least v v := by unfold beatsT; split <;> exact Int.le_refl _
/-- What is told is no less (no more) than the last. -/
theorem updT_last : beatsT least (updT least win x t v).v0 v := by
  unfold updT
  generalize topT t x.l = T
  have tot : ∀ u, ¬ beatsT least v u → beatsT least u v := fun u h => by unfold beatsT at *; split at h <;> simp_all <;> omega
  have a : ∀ y : Tri, beatsT least y.v0 v ∧ beatsT least y.v1 v ∧ beatsT least y.v2 v → beatsT least (ageT win y T v).v0 v := fun y h => by
    unfold ageT
    split
    · split
      · exact h.2.2
      · exact h.2.1
    split; exact h.1
    split; exact h.1
    exact h.1
  refine a _ ?_
  unfold rankT
  split; exact ⟨beatsT_refl, beatsT_refl, beatsT_refl⟩
  rename_i h0
  have h0' : beatsT least x.v0 v := tot _ (fun h => h0 (.inl h))
  split; exact ⟨h0', beatsT_refl, beatsT_refl⟩
  rename_i h1
  have h1' : beatsT least x.v1 v := tot _ h1
  split; exact ⟨h0', h1', beatsT_refl⟩
  rename_i h2
  exact ⟨h0', h1', tot _ h2⟩
end
end Go.Proofs.Ytfbbmpmgceghfaa
