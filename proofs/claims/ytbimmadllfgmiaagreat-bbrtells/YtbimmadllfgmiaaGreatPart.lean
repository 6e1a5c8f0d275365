/-
  Words on memory: an object that lies inside a block, from a place on, others' cells ahead of it and behind it (a struct that is a field of another one). No program is spoken of. Conditions: none.
-/
import Derived.Test.YtbimmadllfgmiaaGreatObj
import Derived.Test.YtbimmadllfgmiaaGreatNum
namespace Go.Proofs.YtbimmadllfgmiaaGreat
open Go.RowKit
set_option maxRecDepth 100000

/-- What lies around an object in its block: the block's element type, the cells ahead, the cells behind. -/
structure Fr where
  t : TypeId
  P : List Value
  Q : List Value
/-- Block g holds the cells cs from o on, and what F says around them; none frozen. -/
def Part (F : Fr) (o : Nat) (w : World) (g : Nat) (cs : List Value) : Prop := F.P.length = o ∧ Whole w g F.t (F.P ++ (cs ++ F.Q)).toArray

section
variable {F : Fr} {o : Nat} {w w' : World} {g : Nat} {cs : List Value} {S : Nat → Prop}
theorem Part.lt (h : Part F o w g cs) : g < w.heap.size := h.2.lt
theorem Part.cell (h : Part F o w g cs) (i : Nat) (hi : i < cs.length := by exact Nat.le_of_ble_eq_true rfl) : w.cell? ⟨g, o + i, none⟩ = cs[i]? := by
  rw [h.2.cell (o + i), List.getElem?_toArray, List.getElem?_append_right (by have := h.1; omega), List.getElem?_append_left (by have := h.1; omega)]
  have := h.1
  rw [show o + i - F.P.length = i by omega]
theorem Part.cell0 (h : Part F o w g cs) (hi : 0 < cs.length := by exact Nat.le_of_ble_eq_true rfl) : w.cell? ⟨g, o, none⟩ = cs[0]? := h.cell 0 hi
theorem Part.free (h : Part F o w g cs) (i : Nat) : w.frozen? ⟨g, o + i, none⟩ = false := h.2.free _
theorem Part.free0 (h : Part F o w g cs) : w.frozen? ⟨g, o, none⟩ = false := h.2.free _
theorem Part.put (h : Part F o w g cs) (i : Nat) (u : Value) (hi : i < cs.length := by exact Nat.le_of_ble_eq_true rfl) : Part F o (w.setCell ⟨g, o + i, none⟩ u) g (cs.set i u) := by
  refine ⟨h.1, ?_⟩
  have h1 := h.2.put (o + i) u
  have h2 := h.1
  rw [List.setIfInBounds_toArray, List.set_append_right _ _ (by omega), show o + i - F.P.length = i by omega, List.set_append_left _ _ hi] at h1
  exact h1
theorem Part.put0 (h : Part F o w g cs) (u : Value) (hi : 0 < cs.length := by exact Nat.le_of_ble_eq_true rfl) : Part F o (w.setCell ⟨g, o, none⟩ u) g (cs.set 0 u) := h.put 0 u hi
theorem Part.keep (h : Part F o w g cs) (hk : Keep S w w') (hs : ¬ S g) : Part F o w' g cs := ⟨h.1, h.2.keep hk hs⟩
theorem Part.drew (h : Part F o w g cs) : Part F o w.drew g cs := h
theorem Part.drewN (h : Part F o w g cs) (n : Nat) : Part F o (w.drewN n) g cs := h
theorem Part.alloc (h : Part F o w g cs) (b : Obj) : Part F o (w.alloc b) g cs := ⟨h.1, h.2.alloc b⟩
theorem Part.far (h : Part F o w g cs) {p : Addr} (hp : g ≠ p.block) (u : Value) : Part F o (w.setCell p u) g cs := ⟨h.1, h.2.far hp u⟩
theorem Part.below {B : Nat} (h : Part F o w g cs) (hb : Below B w w') (hg : g < B) : Part F o w' g cs := ⟨h.1, h.2.below hb hg⟩
/-- A block of its own. -/
theorem Part.of_whole {t : TypeId} {a : Array Value} (h : Whole w g t a) : Part ⟨t, [], []⟩ 0 w g a.toList := ⟨rfl, by simpa using h⟩
theorem Part.whole {t : TypeId} (h : Part ⟨t, [], []⟩ 0 w g cs) : Whole w g t cs.toArray := by have := h.2; simpa using this
/-- An object in an object: the cells ahead of it, and those behind it, go around it. -/
def Fr.in_ (F : Fr) (A C : List Value) : Fr := ⟨F.t, F.P ++ A, C ++ F.Q⟩
theorem Part.sub {A B C : List Value} (h : Part F o w g cs) (e : cs = A ++ (B ++ C)) (k : Nat) (hk : A.length = k) : Part (F.in_ A C) (o + k) w g B := by
  subst e
  refine ⟨by simp [Fr.in_, h.1, hk], ?_⟩
  have := h.2
  simpa [Fr.in_, List.append_assoc] using this
theorem Part.sup {A B C : List Value} {k : Nat} (h : Part (F.in_ A C) (o + k) w g B) (hk : A.length = k) (e : cs = A ++ (B ++ C)) : Part F o w g cs := by
  subst e
  refine ⟨by have := h.1; simp [Fr.in_] at this; omega, ?_⟩
  have := h.2
  simpa [Fr.in_, List.append_assoc] using this
theorem Whole.cell0 {t : TypeId} {cs : Array Value} (h : Whole w g t cs) : w.cell? ⟨g, 0, none⟩ = cs[0]? := h.cell 0
theorem Whole.free0 {t : TypeId} {cs : Array Value} (h : Whole w g t cs) : w.frozen? ⟨g, 0, none⟩ = false := h.free 0
theorem Whole.put0 {t : TypeId} {cs : Array Value} (h : Whole w g t cs) (u : Value) : Whole (w.setCell ⟨g, 0, none⟩ u) g t (cs.setIfInBounds 0 u) := h.put 0 u
end
end Go.Proofs.YtbimmadllfgmiaaGreat
