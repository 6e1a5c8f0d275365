/-
  A ledger of eight sockets, six fates each: the plain mathematics, and how it lies in memory; counts. Conditions: none.
-/
import Derived.Test.YtcgpoplnfkhhbaaOwnN
import Derived.Deep.OwnRows
namespace Go.Proofs.Ytcgpoplnfkhhbaa
open Go.RowKit

theorem ret_i {k : IntKind} {a b : Int} (h : a = b) : Ending.returned (.int k a) = .returned (.int k b) := by rw [h]
theorem ret_b {a b : Bool} (h : a = b) : Ending.returned (.bool a) = .returned (.bool b) := by rw [h]

/-- A count: whose it is, of each fate how many, how many wait. -/
structure Cnt where
  s : Int
  a0 : Int
  a1 : Int
  a2 : Int
  a3 : Int
  a4 : Int
  a5 : Int
  q : Int
def cells8 (c : Cnt) : List Value := [.int .i64 c.s, .int .i64 c.a0, .int .i64 c.a1, .int .i64 c.a2, .int .i64 c.a3, .int .i64 c.a4, .int .i64 c.a5, .int .i64 c.q]
def cv (c : Cnt) : Value := .agg #[.int .i64 c.s, .int .i64 c.a0, .int .i64 c.a1, .int .i64 c.a2, .int .i64 c.a3, .int .i64 c.a4, .int .i64 c.a5, .int .i64 c.q]
def Cnt.zero : Cnt := ⟨0, 0, 0, 0, 0, 0, 0, 0⟩
theorem one_cells8 (c : Cnt) : ∀ u ∈ cells8 c, u.oneCell' = true := fun u hu => by
  simp only [cells8, List.mem_cons, List.not_mem_nil, or_false] at hu
  rcases hu with rfl | rfl | rfl | rfl | rfl | rfl | rfl | rfl <;> rfl
def flatC : List Cnt → List Value
  | [] => []
  | c :: cs => cells8 c ++ flatC cs
theorem flatC_len : ∀ cs, (flatC cs).length = cs.length * 8
  | [] => rfl
  | c :: cs => by rw [flatC, List.length_append, flatC_len cs]; simp [cells8]; omega
theorem flatC_app (cs : List Cnt) (c : Cnt) : flatC cs ++ cells8 c = flatC (cs ++ [c]) := by
  induction cs with
  | nil => rfl
  | cons a cs ih => rw [flatC, List.append_assoc, ih]; rfl
theorem flatC_get : ∀ (cs : List Cnt) (i j : Nat) (c : Cnt), cs[i]? = some c → j < 8 → (flatC cs)[i * 8 + j]? = (cells8 c)[j]?
  | [], i, j, c, h, _ => by simp at h
  | a :: cs, 0, j, c, h, hj => by simp at h; subst h; rw [flatC, List.getElem?_append_left (by simp [cells8]; omega)]; simp
  | a :: cs, i + 1, j, c, h, hj => by
    simp at h
    have := flatC_get cs i j c h hj
    rw [flatC, List.getElem?_append_right (by simp [cells8]; omega), ← this]
    congr 1
    simp [cells8]; omega

theorem Whole.fill8 {w : World} {g : Nat} {t : TypeId} {o0 o1 o2 o3 o4 o5 o6 o7 : Value} (h : Whole w g t #[o0, o1, o2, o3, o4, o5, o6, o7]) (v0 v1 v2 v3 v4 v5 v6 v7 : Value) :
    (w.cell? ⟨g, 0, none⟩ = some o0 ∧ w.frozen? ⟨g, 0, none⟩ = false) ∧ ((w.setCell ⟨g, 0, none⟩ v0).cell? ⟨g, 1, none⟩ = some o1 ∧ (w.setCell ⟨g, 0, none⟩ v0).frozen? ⟨g, 1, none⟩ = false) ∧ (((w.setCell ⟨g, 0, none⟩ v0).setCell ⟨g, 1, none⟩ v1).cell? ⟨g, 2, none⟩ = some o2 ∧ ((w.setCell ⟨g, 0, none⟩ v0).setCell ⟨g, 1, none⟩ v1).frozen? ⟨g, 2, none⟩ = false) ∧ ((((w.setCell ⟨g, 0, none⟩ v0).setCell ⟨g, 1, none⟩ v1).setCell ⟨g, 2, none⟩ v2).cell? ⟨g, 3, none⟩ = some o3 ∧ (((w.setCell ⟨g, 0, none⟩ v0).setCell ⟨g, 1, none⟩ v1).setCell ⟨g, 2, none⟩ v2).frozen? ⟨g, 3, none⟩ = false) ∧ (((((w.setCell ⟨g, 0, none⟩ v0).setCell ⟨g, 1, none⟩ v1).setCell ⟨g, 2, none⟩ v2).setCell ⟨g, 3, none⟩ v3).cell? ⟨g, 4, none⟩ = some o4 ∧ ((((w.setCell ⟨g, 0, none⟩ v0).setCell ⟨g, 1, none⟩ v1).setCell ⟨g, 2, none⟩ v2).setCell ⟨g, 3, none⟩ v3).frozen? ⟨g, 4, none⟩ = false) ∧ ((((((w.setCell ⟨g, 0, none⟩ v0).setCell ⟨g, 1, none⟩ v1).setCell ⟨g, 2, none⟩ v2).setCell ⟨g, 3, none⟩ v3).setCell ⟨g, 4, none⟩ v4).cell? ⟨g, 5, none⟩ = some o5 ∧ (((((w.setCell ⟨g, 0, none⟩ v0).setCell ⟨g, 1, none⟩ v1).setCell ⟨g, 2, none⟩ v2).setCell ⟨g, 3, none⟩ v3).setCell ⟨g, 4, none⟩ v4).frozen? ⟨g, 5, none⟩ = false) ∧ (((((((w.setCell ⟨g, 0, none⟩ v0).setCell ⟨g, 1, none⟩ v1).setCell ⟨g, 2, none⟩ v2).setCell ⟨g, 3, none⟩ v3).setCell ⟨g, 4, none⟩ v4).setCell ⟨g, 5, none⟩ v5).cell? ⟨g, 6, none⟩ = some o6 ∧ ((((((w.setCell ⟨g, 0, none⟩ v0).setCell ⟨g, 1, none⟩ v1).setCell ⟨g, 2, none⟩ v2).setCell ⟨g, 3, none⟩ v3).setCell ⟨g, 4, none⟩ v4).setCell ⟨g, 5, none⟩ v5).frozen? ⟨g, 6, none⟩ = false) ∧ ((((((((w.setCell ⟨g, 0, none⟩ v0).setCell ⟨g, 1, none⟩ v1).setCell ⟨g, 2, none⟩ v2).setCell ⟨g, 3, none⟩ v3).setCell ⟨g, 4, none⟩ v4).setCell ⟨g, 5, none⟩ v5).setCell ⟨g, 6, none⟩ v6).cell? ⟨g, 7, none⟩ = some o7 ∧ (((((((w.setCell ⟨g, 0, none⟩ v0).setCell ⟨g, 1, none⟩ v1).setCell ⟨g, 2, none⟩ v2).setCell ⟨g, 3, none⟩ v3).setCell ⟨g, 4, none⟩ v4).setCell ⟨g, 5, none⟩ v5).setCell ⟨g, 6, none⟩ v6).frozen? ⟨g, 7, none⟩ = false) ∧ Whole ((((((((w.setCell ⟨g, 0, none⟩ v0).setCell ⟨g, 1, none⟩ v1).setCell ⟨g, 2, none⟩ v2).setCell ⟨g, 3, none⟩ v3).setCell ⟨g, 4, none⟩ v4).setCell ⟨g, 5, none⟩ v5).setCell ⟨g, 6, none⟩ v6).setCell ⟨g, 7, none⟩ v7) g t #[v0, v1, v2, v3, v4, v5, v6, v7] ∧ Keep (fun k => k = g) w ((((((((w.setCell ⟨g, 0, none⟩ v0).setCell ⟨g, 1, none⟩ v1).setCell ⟨g, 2, none⟩ v2).setCell ⟨g, 3, none⟩ v3).setCell ⟨g, 4, none⟩ v4).setCell ⟨g, 5, none⟩ v5).setCell ⟨g, 6, none⟩ v6).setCell ⟨g, 7, none⟩ v7) := by
  have t0 := h
  have t1 : Whole (w.setCell ⟨g, 0, none⟩ v0) g t #[v0, o1, o2, o3, o4, o5, o6, o7] := t0.put 0 v0
  have t2 : Whole ((w.setCell ⟨g, 0, none⟩ v0).setCell ⟨g, 1, none⟩ v1) g t #[v0, v1, o2, o3, o4, o5, o6, o7] := t1.put 1 v1
  have t3 : Whole (((w.setCell ⟨g, 0, none⟩ v0).setCell ⟨g, 1, none⟩ v1).setCell ⟨g, 2, none⟩ v2) g t #[v0, v1, v2, o3, o4, o5, o6, o7] := t2.put 2 v2
  have t4 : Whole ((((w.setCell ⟨g, 0, none⟩ v0).setCell ⟨g, 1, none⟩ v1).setCell ⟨g, 2, none⟩ v2).setCell ⟨g, 3, none⟩ v3) g t #[v0, v1, v2, v3, o4, o5, o6, o7] := t3.put 3 v3
  have t5 : Whole (((((w.setCell ⟨g, 0, none⟩ v0).setCell ⟨g, 1, none⟩ v1).setCell ⟨g, 2, none⟩ v2).setCell ⟨g, 3, none⟩ v3).setCell ⟨g, 4, none⟩ v4) g t #[v0, v1, v2, v3, v4, o5, o6, o7] := t4.put 4 v4
  have t6 : Whole ((((((w.setCell ⟨g, 0, none⟩ v0).setCell ⟨g, 1, none⟩ v1).setCell ⟨g, 2, none⟩ v2).setCell ⟨g, 3, none⟩ v3).setCell ⟨g, 4, none⟩ v4).setCell ⟨g, 5, none⟩ v5) g t #[v0, v1, v2, v3, v4, v5, o6, o7] := t5.put 5 v5
  have t7 : Whole (((((((w.setCell ⟨g, 0, none⟩ v0).setCell ⟨g, 1, none⟩ v1).setCell ⟨g, 2, none⟩ v2).setCell ⟨g, 3, none⟩ v3).setCell ⟨g, 4, none⟩ v4).setCell ⟨g, 5, none⟩ v5).setCell ⟨g, 6, none⟩ v6) g t #[v0, v1, v2, v3, v4, v5, v6, o7] := t6.put 6 v6
  have t8 : Whole ((((((((w.setCell ⟨g, 0, none⟩ v0).setCell ⟨g, 1, none⟩ v1).setCell ⟨g, 2, none⟩ v2).setCell ⟨g, 3, none⟩ v3).setCell ⟨g, 4, none⟩ v4).setCell ⟨g, 5, none⟩ v5).setCell ⟨g, 6, none⟩ v6).setCell ⟨g, 7, none⟩ v7) g t #[v0, v1, v2, v3, v4, v5, v6, v7] := t7.put 7 v7
  have k0 := Keep.refl (fun k => k = g) w
  have k1 := k0.setCell (p := ⟨g, 0, none⟩) (.inl rfl) v0
  have k2 := k1.setCell (p := ⟨g, 1, none⟩) (.inl rfl) v1
  have k3 := k2.setCell (p := ⟨g, 2, none⟩) (.inl rfl) v2
  have k4 := k3.setCell (p := ⟨g, 3, none⟩) (.inl rfl) v3
  have k5 := k4.setCell (p := ⟨g, 4, none⟩) (.inl rfl) v4
  have k6 := k5.setCell (p := ⟨g, 5, none⟩) (.inl rfl) v5
  have k7 := k6.setCell (p := ⟨g, 6, none⟩) (.inl rfl) v6
  have k8 := k7.setCell (p := ⟨g, 7, none⟩) (.inl rfl) v7
  exact ⟨⟨t0.cell 0, t0.free 0⟩, ⟨t1.cell 1, t1.free 1⟩, ⟨t2.cell 2, t2.free 2⟩, ⟨t3.cell 3, t3.free 3⟩, ⟨t4.cell 4, t4.free 4⟩, ⟨t5.cell 5, t5.free 5⟩, ⟨t6.cell 6, t6.free 6⟩, ⟨t7.cell 7, t7.free 7⟩, t8, k8⟩

/-- Numbers in a row. -/
def rowN (n : Nat) (F : Nat → Int) : Array Value := ((List.range n).map fun q => Value.int .i64 (F q)).toArray
theorem rowN_get {n : Nat} (F : Nat → Int) {q : Nat} (h : q < n) : (rowN n F)[q]? = some (.int .i64 (F q)) := by
  simp [rowN, h]
def updN (F : Nat → Int) (q : Nat) (x : Int) : Nat → Int := fun p => if p = q then x else F p
theorem rowN_set (n : Nat) (F : Nat → Int) (q : Nat) (x : Int) : (rowN n F).setIfInBounds q (.int .i64 x) = rowN n (updN F q x) := by
  apply Array.ext'
  simp only [rowN, List.setIfInBounds_toArray]
  apply List.ext_getElem?
  intro i
  rw [List.getElem?_set]
  by_cases hi : i < n
  · by_cases e : q = i
    · subst e; simp [hi, updN]
    · have : i ≠ q := fun h => e h.symm
      simp [hi, e, updN, this]
  · by_cases e : q = i
    · subst e; simp [hi]
    · simp [hi, e]

/-- The ledger at g: of socket k, fate j, so many: F (k * 6 + j); n of each at most. -/
def LedAt (w : World) (g n : Nat) (F : Nat → Int) : Prop := Whole w g 53 (rowN 48 F) ∧ ∀ q, 0 ≤ F q ∧ F q ≤ n
def waitN (F : Nat → Int) (k : Nat) : Int := F (k * 6) - F (k * 6 + 1) - F (k * 6 + 2) - F (k * 6 + 3) - F (k * 6 + 4) - F (k * 6 + 5)
def cntN (F : Nat → Int) (k : Nat) : Cnt := ⟨k, F (k * 6), F (k * 6 + 1), F (k * 6 + 2), F (k * 6 + 3), F (k * 6 + 4), F (k * 6 + 5), waitN F k⟩
section
variable {w w' : World} {g n : Nat} {F : Nat → Int} {R : Nat → Prop}
theorem LedAt.keep (h : LedAt w g n F) (hk : Keep R w w') (hg : ¬ R g) : LedAt w' g n F := ⟨h.1.keep hk hg, h.2⟩
theorem LedAt.kept (h : LedAt w g n F) (hk : Keep (fun _ => False) w w') : LedAt w' g n F := h.keep hk id
theorem LedAt.drewN (h : LedAt w g n F) (m : Nat) : LedAt (w.drewN m) g n F := ⟨h.1.drewN m, h.2⟩
theorem LedAt.drew (h : LedAt w g n F) : LedAt w.drew g n F := ⟨h.1.drew, h.2⟩
theorem LedAt.lt (h : LedAt w g n F) : g < w.heap.size := h.1.lt
theorem LedAt.cell (h : LedAt w g n F) {q : Nat} (hq : q < 48) : w.cell? ⟨g, q, none⟩ = some (.int .i64 (F q)) := by rw [h.1.cell q, rowN_get F hq]
theorem LedAt.free (h : LedAt w g n F) (q : Nat) : w.frozen? ⟨g, q, none⟩ = false := h.1.free q
theorem LedAt.mono {m : Nat} (h : LedAt w g n F) (hm : n ≤ m) : LedAt w g m F := ⟨h.1, fun q => by have := h.2 q; omega⟩
theorem LedAt.add (h : LedAt w g n F) (q : Nat) : LedAt (w.setCell ⟨g, q, none⟩ (.int .i64 (F q + 1))) g (n + 1) (updN F q (F q + 1)) := by
  refine ⟨?_, fun p => ?_⟩
  · rw [← rowN_set]; exact h.1.put q _
  · have h1 := h.2 p; have h2 := h.2 q
    unfold updN
    split <;> (constructor <;> omega)
end

/-- What Note answers, and what is counted then. -/
def noteE (F : Nat → Int) (sock fate : Int) : Int := if sock < 0 ∨ 8 ≤ sock then 8 else if fate < 0 ∨ 5 < fate then 1 else if fate ≠ 0 ∧ waitN F sock.toNat = 0 then 7 else 0
def noteF (F : Nat → Int) (sock fate : Int) : Nat → Int := if noteE F sock fate = 0 then updN F (sock.toNat * 6 + fate.toNat) (F (sock.toNat * 6 + fate.toNat) + 1) else F
theorem updN_same (F : Nat → Int) (q : Nat) (x : Int) : updN F q x q = x := if_pos rfl
theorem updN_ne (F : Nat → Int) {p q : Nat} (x : Int) (h : p ≠ q) : updN F q x p = F p := if_neg h
theorem waitN_add (F : Nat → Int) (k j i : Nat) (hj : j < 6) : waitN (updN F (k * 6 + j) (F (k * 6 + j) + 1)) i = if i = k then (if j = 0 then waitN F k + 1 else waitN F k - 1) else waitN F i := by
  by_cases e : i = k
  · subst e
    rw [if_pos rfl]
    unfold waitN
    rcases (by omega : j = 0 ∨ j = 1 ∨ j = 2 ∨ j = 3 ∨ j = 4 ∨ j = 5) with rfl | rfl | rfl | rfl | rfl | rfl <;> simp [updN] <;> omega
  · rw [if_neg e]
    unfold waitN
    rw [updN_ne, updN_ne, updN_ne, updN_ne, updN_ne, updN_ne] <;> omega
/-- No count is below nothing. -/
def Waits (F : Nat → Int) : Prop := ∀ k, 0 ≤ waitN F k
theorem Waits.note {F : Nat → Int} (h : Waits F) (sock fate : Int) : Waits (noteF F sock fate) := fun i => by
  unfold noteF
  split
  · rename_i he
    unfold noteE at he
    split at he
    · cases he
    · split at he
      · cases he
      · split at he
        · cases he
        · rw [waitN_add F _ _ i (by omega)]
          have h1 := h i; have h2 := h sock.toNat
          split
          · split <;> omega
          · exact h1
  · exact h i
theorem Waits.zero : Waits (fun _ => 0) := fun k => by simp [waitN]
end Go.Proofs.Ytcgpoplnfkhhbaa
