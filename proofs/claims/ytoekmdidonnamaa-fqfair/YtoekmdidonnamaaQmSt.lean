/-
  The document's queue as plain numbers and lists: what each call answers and leaves; how many turns a pull takes at most. No program is spoken of. Conditions: none.
-/
import Derived.Test.YtoekmdidonnamaaLstSt
namespace Go.Proofs.Ytoekmdidonnamaa
open Go.RowKit
set_option maxRecDepth 100000

/-- A segment: its socket, first byte, length, stamp, whether it goes again. -/
structure Sg where
  s : Int
  f : Int
  l : Int
  t : Int
  a : Bool
/-- A flow: its socket, credit, place, next time, since when it is nowhere, segments. -/
structure Fl where
  s : Int
  c : Int
  p : Int
  n : Int
  u : Int
  q : List Sg
/-- A config: quantum, first credit, limits, horizon, rate, what is done beyond the horizon, cap, mss. -/
structure Cf where
  q : Int
  f : Int
  l : Int
  w : Int
  h : Int
  r : Int
  d : Bool
  k : Int
  m : Int
structure Qm where
  c : Cf
  F : Nat → Fl
  T : Nat → Bool
  N : List Int
  O : List Int

def Sg.zero : Sg := ⟨0, 0, 0, 0, false⟩
def Fl.zero : Fl := ⟨0, 0, 0, 0, 0, []⟩
def addS (a b : Int) : Int := if a + b ≤ 18446744073709551615 then a + b else 18446744073709551615
def upF {α : Type} (F : Nat → α) (i : Nat) (v : α) : Nat → α := fun j => if j = i then v else F j
@[simp] theorem upF_at {α : Type} (F : Nat → α) (i : Nat) (v : α) : upF F i v i = v := by simp [upF]
theorem upF_ne {α : Type} (F : Nat → α) {i j : Nat} (v : α) (h : j ≠ i) : upF F i v j = F j := by simp [upF, h]

/-! ### What is told -/
def lenQ (x : Qm) : Nat := ((List.range 8).map fun i => (x.F i).q.length).sum
/-- The time of a flow with segments. -/
def timeF (f : Fl) : Int := max f.n (f.q.headD Sg.zero).t
/-- Of the first k flows the one that waits with the least time. -/
def firstN (x : Qm) : Nat → Option Nat
  | 0 => none
  | k + 1 => match firstN x k with
    | none => if x.T k = true ∧ (x.F k).p = 3 then some k else none
    | some b => if (x.T k = true ∧ (x.F k).p = 3) ∧ timeF (x.F k) < timeF (x.F b) then some k else some b
def firstQ (x : Qm) : Option Nat := firstN x 8
theorem firstN_some {x : Qm} : ∀ {k b : Nat}, firstN x k = some b → b < k ∧ x.T b = true ∧ (x.F b).p = 3
  | k + 1, b, h => by
    unfold firstN at h
    split at h
    · split at h
      · cases h; rename_i hc; exact ⟨by omega, hc⟩
      · cases h
    · rename_i b0 hb0
      have := firstN_some hb0
      split at h
      · cases h; rename_i hc; exact ⟨by omega, hc.1⟩
      · cases h; exact ⟨by omega, this.2⟩
theorem firstN_none {x : Qm} : ∀ {k : Nat}, firstN x k = none → ∀ i, i < k → ¬ (x.T i = true ∧ (x.F i).p = 3)
  | k + 1, h, i, hi => by
    unfold firstN at h
    split at h
    · rename_i h0
      split at h
      · cases h
      · rename_i hc
        by_cases e : i = k
        · subst e; exact hc
        · exact firstN_none h0 i (by omega)
    · split at h <;> cases h
theorem firstN_least {x : Qm} : ∀ {k b : Nat}, firstN x k = some b → ∀ i, i < k → x.T i = true → (x.F i).p = 3 → timeF (x.F b) ≤ timeF (x.F i) ∧ (timeF (x.F i) = timeF (x.F b) → b ≤ i)
  | k + 1, b, h, i, hi, ht, hp => by
    unfold firstN at h
    split at h
    · rename_i h0
      split at h
      · cases h
        by_cases e : i = k
        · subst e; exact ⟨Int.le_refl _, fun _ => Nat.le_refl _⟩
        · exact absurd ⟨ht, hp⟩ (firstN_none h0 i (by omega))
      · cases h
    · rename_i b0 hb0
      have hlt := (firstN_some hb0).1
      split at h
      · cases h; rename_i hc
        by_cases e : i = k
        · subst e; exact ⟨Int.le_refl _, fun _ => Nat.le_refl _⟩
        · have := firstN_least hb0 i (by omega) ht hp
          exact ⟨by omega, fun e2 => by omega⟩
      · cases h; rename_i hc
        by_cases e : i = k
        · subst e
          have : ¬ timeF (x.F i) < timeF (x.F b) := fun hlt => hc ⟨⟨ht, hp⟩, hlt⟩
          exact ⟨by omega, fun _ => by omega⟩
        · exact firstN_least hb0 i (by omega) ht hp

/-! ### What is done -/
def deadF (x : Qm) (now : Int) (i : Nat) : Bool := x.T i && ((x.F i).p == 0) && decide (addS (x.F i).u 3000000000 ≤ now)
def collQ (x : Qm) (now : Int) : Qm := { x with F := fun i => if deadF x now i = true then Fl.zero else x.F i, T := fun i => x.T i && !deadF x now i }
def putQ (x : Qm) (i : Nat) (p : Int) : Qm := { x with F := upF x.F i { x.F i with p := p }, N := if p = 1 then x.N.erase (i : Int) ++ [(i : Int)] else x.N.erase (i : Int), O := if p = 2 then x.O.erase (i : Int) ++ [(i : Int)] else x.O.erase (i : Int) }
/-- The fate of a segment that may be put in. -/
def fateQ (x : Qm) (s : Sg) (now : Int) : Int :=
  if x.c.l ≤ (lenQ x : Int) then 2 else if x.c.w ≤ ((x.F s.s.toNat).q.length : Int) then 3 else if addS now x.c.h < s.t ∧ x.c.d = true then 4 else 0
/-- The flow, ahead of what is put in. -/
def preF (x : Qm) (s : Sg) (now : Int) : Fl :=
  if x.T s.s.toNat = true then (if (x.F s.s.toNat).p = 0 ∧ addS (x.F s.s.toNat).u 40000000 ≤ now then { x.F s.s.toNat with c := max (x.F s.s.toNat).c x.c.q } else x.F s.s.toNat)
  else { Fl.zero with s := s.s, c := x.c.f }
/-- What is put in. -/
def segF (x : Qm) (s : Sg) (now : Int) : Sg := { s with t := min s.t (addS now x.c.h) }
/-- It is put in. -/
def takeF (x : Qm) (s : Sg) (now : Int) : Fl :=
  { preF x s now with q := (preF x s now).q ++ [segF x s now], p := if (preF x s now).p = 0 then 1 else (preF x s now).p, u := if (preF x s now).p = 0 then 0 else (preF x s now).u }
def takeQ (x : Qm) (s : Sg) (now : Int) : Qm :=
  { x with F := upF x.F s.s.toNat (takeF x s now), T := upF x.T s.s.toNat true,
           N := if (if x.T s.s.toNat = true then (x.F s.s.toNat).p else 0) = 0 then x.N ++ [s.s] else x.N }
def enqE (s : Sg) : Int := if s.s < 0 ∨ 8 ≤ s.s then 8 else if s.l < 1 ∨ 65536 < s.l then 1 else 0
def enqV (x : Qm) (s : Sg) (now : Int) : Int := if enqE s = 0 then fateQ (collQ x now) s now else 0
def enqQ (x : Qm) (s : Sg) (now : Int) : Qm := if enqE s = 0 then (if fateQ (collQ x now) s now = 0 then takeQ (collQ x now) s now else collQ x now) else x

/-- Those whose time has come go behind all old ones: k at most. -/
def wakeN (now : Int) : Nat → Qm → Qm
  | 0, x => x
  | k + 1, x => match firstQ x with
    | none => x
    | some i => if timeF (x.F i) ≤ now then wakeN now k (putQ x i 2) else x

/-- One turn of a pull: on with another queue, or its end: what departs. -/
inductive Turn where
  | on (x : Qm)
  | stop (x : Qm) (s : Option Sg)
def turnQ (dly : Int → Int → Int) (x : Qm) (now : Int) : Turn :=
  if headB x.N x.O = false then .stop x none
  else
    let i := (headS x.N x.O).toNat
    let f := x.F i
    if f.c ≤ 0 then .on (putQ { x with F := upF x.F i { f with c := f.c + x.c.q } } i 2)
    else match f.q with
      | [] => if headF x.N x.O = true ∧ x.O ≠ [] then .on (putQ x i 2) else .on { putQ x i 0 with F := upF (putQ x i 0).F i { (putQ x i 0).F i with u := now } }
      | s :: r => if now < timeF f then .on (putQ x i 3) else .stop { x with F := upF x.F i { f with q := r, c := f.c - s.l, n := addS now (dly s.l (i : Int)) } } (some s)
def runQ (dly : Int → Int → Int) (now : Int) : Nat → Qm → Qm × Option Sg
  | 0, x => (x, none)
  | k + 1, x => match turnQ dly x now with
    | .on y => runQ dly now k y
    | .stop y s => (y, s)

/-! ### How many turns a pull takes -/
/-- How often a flow's credit must be more by q till it is above 0. -/
def needK (q c : Int) : Nat := if c ≤ 0 then ((-c) / q).toNat + 1 else 0
theorem needK_less {q c : Int} (hq : 0 < q) (hc : c ≤ 0) : needK q (c + q) + 1 ≤ needK q c := by
  unfold needK
  rw [if_pos hc]
  split
  · rename_i h
    have h1 : -c = -(c + q) + q := by omega
    have h2 : (-c) / q = (-(c + q)) / q + 1 := by rw [h1, Int.add_ediv_of_dvd_right (Int.dvd_refl q), Int.ediv_self (by omega)]
    have h3 : 0 ≤ (-(c + q)) / q := Int.ediv_nonneg (by omega) (by omega)
    omega
  · omega
def costQ (x : Qm) (w : Nat) (l : List Int) : Nat := (l.map fun z => needK x.c.q (x.F z.toNat).c + w).sum
/-- No pull takes more turns than that, and one. -/
def turnsQ (x : Qm) : Nat := costQ x 2 x.N + costQ x 1 x.O

theorem sum_erase : ∀ {l : List Int} (g : Int → Nat) {z : Int}, z ∈ l → ((l.erase z).map g).sum + g z = (l.map g).sum
  | y :: r, g, z, h => by
    by_cases e : y = z
    · subst e; rw [List.erase_cons_head]; simp; omega
    · have hz : z ∈ r := by rcases List.mem_cons.1 h with h | h; exact absurd h.symm e; exact h
      have := sum_erase g hz
      rw [List.erase_cons_tail (by simpa using e)]
      simp only [List.map_cons, List.sum_cons]
      omega
theorem sum_eq {l : List Int} {g g' : Int → Nat} (h : ∀ z ∈ l, g z = g' z) : (l.map g).sum = (l.map g').sum := by
  rw [List.map_congr_left h]
end Go.Proofs.Ytoekmdidonnamaa
