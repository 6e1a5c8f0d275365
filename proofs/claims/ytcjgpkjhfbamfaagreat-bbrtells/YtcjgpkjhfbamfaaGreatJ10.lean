/-
  A policer, as plain numbers: what an Update leaves (chapter 16's words). No program is spoken of. Conditions: none.
-/
import Derived.Test.YtcjgpkjhfbamfaaGreatJ01
import Derived.Test.YtcjgpkjhfbamfaaGreatJ05
import Derived.Test.YtcjgpkjhfbamfaaGreatJ06
set_option linter.unusedVariables false
namespace Go.Proofs.YtcjgpkjhfbamfaaGreat
open Go.RowKit
set_option maxRecDepth 100000

/-- A policer: in use; samples; since: now, delivered, lost; the bandwidth; rounds; all that was lost. -/
structure Pol where
  u : Bool
  m : Bool
  n : Int
  d : Int
  l : Int
  b : Int
  r : Int
  o : Int
structure Pol.Nums (x : Pol) : Prop where
  n : Num x.n
  d : Num x.d
  l : Num x.l
  b : Num x.b
  o : Num x.o
structure Pol.Fit (x : Pol) : Prop where
  nums : x.Nums
  r0 : 0 ≤ x.r
  r1 : x.r ≤ 47
theorem num00 : Num 0 := ⟨by decide, by decide⟩
abbrev newPol : Pol := ⟨false, false, 0, 0, 0, 0, 0, 0⟩
theorem fit_newPol : newPol.Fit := ⟨⟨num00, num00, num00, num00, num00⟩, by decide, by decide⟩
def losPol (x : Pol) (s : Spl) : Pol := ⟨x.u, x.m, x.n, x.d, x.l, x.b, x.r, satAdd x.o s.o⟩
def rndPol (x : Pol) (st : Bool) : Pol := ⟨x.u, x.m, x.n, x.d, x.l, x.b, if st = true then x.r + 1 else x.r, x.o⟩
/-- It does not sample. -/
def forPol (x : Pol) : Pol := ⟨x.u, false, x.n, x.d, x.l, 0, 0, x.o⟩
/-- A sample begins. -/
def begPol (x : Pol) (s : Spl) : Pol := ⟨x.u, true, s.n, s.d, x.o, x.b, 0, x.o⟩
/-- Does the sample tell a bandwidth? -/
def meaK (x : Pol) (s : Spl) : Bool := !(satSub s.d x.d == 0) && !(satSub s.n x.n == 0) && !(decide (satSub x.o x.l < mulDivV (satSub s.d x.d) 50 256))
def meaV (x : Pol) (s : Spl) : Int := mulDivV (satSub s.d x.d) 1000000000 (satSub s.n x.n)
def gapPol (a b : Int) : Int := if a < b then b - a else a - b
def nearPol (b v : Int) : Bool := decide (0 < b) && decide (gapPol v b ≤ b / 8)
def halfPol (a b : Int) : Int := (a + b) / 2
def endPol (x : Pol) (s : Spl) : Pol :=
  if meaK x s = true then (if nearPol x.b (meaV x s) = true then ⟨true, x.m, x.n, x.d, x.l, halfPol x.b (meaV x s), 0, x.o⟩ else begPol ⟨x.u, x.m, x.n, x.d, x.l, meaV x s, x.r, x.o⟩ s) else x
/-- In use, behind the round. -/
def outPol (y : Pol) : Pol := if y.r = 48 then ⟨false, false, y.n, y.d, y.l, 0, 0, y.o⟩ else y
/-- It samples, behind the round. -/
def samPol (y : Pol) (s : Spl) : Pol := if 16 < y.r then forPol y else if 4 ≤ y.r ∧ 0 < s.o then endPol y s else y
def updPol (x : Pol) (st : Bool) (s : Spl) : Pol :=
  if x.u = true then outPol (rndPol (losPol x s) st)
  else if x.m = false then (if 0 < s.o then begPol (losPol x s) s else losPol x s)
  else if s.l = true then forPol (losPol x s)
  else samPol (rndPol (losPol x s) st) s

theorem numSub {a b : Int} (ha : Num a) (hb : Num b) : Num (satSub a b) := by
  have h1 := ha.1; have h2 := ha.2; have h3 := hb.1
  unfold satSub; split
  · exact num00
  · exact ⟨by omega, by omega⟩
theorem numAdd {a b : Int} (ha : Num a) (hb : Num b) : Num (satAdd a b) := by
  have h1 := ha.1; have h2 := hb.1
  unfold satAdd; split
  · exact ⟨by omega, by assumption⟩
  · exact ⟨by decide, by decide⟩
theorem numHalf {a b : Int} (ha : Num a) (hb : Num b) : Num (halfPol a b) := by
  have h1 := ha.1; have h2 := ha.2; have h3 := hb.1; have h4 := hb.2
  exact ⟨by show 0 ≤ (a + b) / 2; omega, by show (a + b) / 2 ≤ _; omega⟩
section
variable {x : Pol} {s : Spl} {st : Bool}
theorem Pol.Nums.mea (h : x.Nums) (hs : s.Fit) : Num (meaV x s) := mulDivV_bd (numSub hs.d h.d).1 (by decide) (numSub hs.n h.n).1
theorem Pol.Nums.los (h : x.Nums) (hs : s.Fit) : (losPol x s).Nums := ⟨h.n, h.d, h.l, h.b, numAdd h.o hs.o⟩
theorem Pol.Nums.rnd (h : x.Nums) : (rndPol x st).Nums := ⟨h.n, h.d, h.l, h.b, h.o⟩
theorem Pol.Nums.for_ (h : x.Nums) : (forPol x).Nums := ⟨h.n, h.d, h.l, num00, h.o⟩
theorem Pol.Nums.beg (h : x.Nums) (hs : s.Fit) : (begPol x s).Nums := ⟨hs.n, hs.d, h.o, h.b, h.o⟩
theorem Pol.Nums.end_ (h : x.Nums) (hs : s.Fit) : (endPol x s).Nums := by
  unfold endPol; split
  · split
    · exact ⟨h.n, h.d, h.l, numHalf h.b (h.mea hs), h.o⟩
    · exact ⟨hs.n, hs.d, h.o, h.mea hs, h.o⟩
  · exact h
theorem endPol_r (h : 0 ≤ x.r) : 0 ≤ (endPol x s).r ∧ (endPol x s).r ≤ x.r := by
  unfold endPol; split
  · split
    · exact ⟨Int.le_refl 0, h⟩
    · exact ⟨Int.le_refl 0, h⟩
  · exact ⟨h, Int.le_refl _⟩
theorem Pol.Fit.upd (h : x.Fit) (hs : s.Fit) : (updPol x st s).Fit := by
  have h0 := h.r0; have h1 := h.r1
  have hl := h.nums.los hs
  have hr := hl.rnd (st := st)
  have e : (rndPol (losPol x s) st).r = if st = true then x.r + 1 else x.r := rfl
  unfold updPol; split
  · unfold outPol; split
    · exact ⟨⟨hr.n, hr.d, hr.l, num00, hr.o⟩, Int.le_refl 0, by show (0 : Int) ≤ 47; decide⟩
    · rename_i h2
      refine ⟨hr, ?_, ?_⟩
      · rw [e]; split <;> omega
      · rw [e] at h2 ⊢; split at h2 <;> split <;> first | contradiction | omega
  · split
    · split
      · exact ⟨hl.beg hs, Int.le_refl 0, by show (0 : Int) ≤ 47; decide⟩
      · exact ⟨hl, h0, h1⟩
    · split
      · exact ⟨hl.for_, Int.le_refl 0, by show (0 : Int) ≤ 47; decide⟩
      · have hp : 0 ≤ (rndPol (losPol x s) st).r := by rw [e]; split <;> omega
        unfold samPol; split
        · exact ⟨hr.for_, Int.le_refl 0, by show (0 : Int) ≤ 47; decide⟩
        · split
          · have := endPol_r (s := s) hp
            exact ⟨hr.end_ hs, this.1, by omega⟩
          · exact ⟨hr, hp, by omega⟩
end
end Go.Proofs.YtcjgpkjhfbamfaaGreat
