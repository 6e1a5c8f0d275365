/-
  What comes in: a list of entries (two numbers each), as the walk reads them. Conditions: none.
-/
import Derived.Test.YtcgpoplnfkhhbaaObj
import Derived.Test.YtcgpoplnfkhhbaaChecked
import Derived.Lib.SmallJoins
import Derived.Deep.SlicePairs
import Derived.Deep.Slices
import Derived.OpenShut
namespace Go.Proofs.Ytcgpoplnfkhhbaa
open Go.ChangeShapes Go.WideShapes Go.ChangeAt Go.RowKit Go.Joins Go.Deep
set_option linter.unusedSimpArgs false

structure Ent where
  s : Int
  f : Int
/-- The slice that begins at 'a' holds the entries 'es'. -/
def RdE (w : World) (a : Option Addr) (es : List Ent) : Prop :=
  ∀ i e, es[i]? = some e → ∃ b off, a = some ⟨b, off, none⟩ ∧ b < w.heap.size ∧ w.cell? ⟨b, off + i * 2, none⟩ = some (.int .i64 e.s) ∧ w.cell? ⟨b, off + i * 2 + 1, none⟩ = some (.int .i64 e.f)
theorem RdE.below {w w' : World} {a : Option Addr} {es : List Ent} (h : RdE w a es) (hb : Below w.heap.size w w') : RdE w' a es := by
  intro i k hi
  obtain ⟨b, off, e, hlt, h1, h2⟩ := h i k hi
  exact ⟨b, off, e, Nat.lt_of_lt_of_le hlt hb.size, (hb.cell (p := ⟨b, _, none⟩) hlt).trans h1, (hb.cell (p := ⟨b, _, none⟩) hlt).trans h2⟩

theorem Try.cellsEnt : Try.prog.cellsOf 36 = 2 := by kernel_rfl
theorem Try.cellsI : Try.prog.cellsOf 3 = 1 := by kernel_rfl
theorem addr_plain {W : World} {x : Addr} {v : Value} (h : W.cell? x = some v) : ∃ b off, x = ⟨b, off, none⟩ := by
  obtain ⟨b, off, spot⟩ := x
  have hspot : spot = none := by simpa using World.cell?_spot h
  exact ⟨b, off, by rw [hspot]⟩
/-- A list out of a rule for its members. -/
theorem list_of {α : Type} (n : Nat) (R : Nat → α → Prop) (h : ∀ i, i < n → ∃ x, R i x) : ∃ l : List α, l.length = n ∧ ∀ i x, l[i]? = some x → R i x := by
  induction n with
  | zero => exact ⟨[], rfl, fun i x hx => by simp at hx⟩
  | succ n ih =>
    obtain ⟨l, hl, hR⟩ := ih (fun i hi => h i (by omega))
    obtain ⟨x, hx⟩ := h n (by omega)
    refine ⟨l ++ [x], by simp [hl], fun i y hy => ?_⟩
    by_cases e : i < n
    · rw [List.getElem?_append_left (by omega)] at hy; exact hR i y hy
    · rw [List.getElem?_append_right (by omega)] at hy
      have : i = n := by
        have := (List.getElem?_eq_some_iff.1 hy).1
        simp at this; omega
      subst this
      rw [hl] at hy
      simp at hy
      subst hy
      exact hx
section
variable {H : Type} {enc : TypeId × Value → H} {W : World} {d : DataW H} {p : List MemPlace}
theorem open_entries {a : Option Addr} {len cap : Nat} (h : DataW.Trod enc Try.prog W 0 (fun _ => true) true 22 (.slice a len cap) d p) : ∃ es : List Ent, es.length = len ∧ len ≤ 9223372036854775807 ∧ RdE W a es := by
  obtain ⟨fuel, hf⟩ := h
  rcases open_slice_pairs Try.underlying22 Try.underlying36 Try.cellsEnt rfl rfl Try.cellsI Try.cellsI hf with ⟨hcs, _⟩ | ⟨x, l, c, m, n, V0, V1, D0, D1, P0, P1, hcs, hb, hl, hm, hmm, _, hel⟩
  · simp [Value.cells] at hcs
    obtain ⟨rfl, rfl, rfl⟩ := hcs
    exact ⟨[], rfl, by omega, fun i k hi => by simp at hi⟩
  · simp [Value.cells] at hcs
    obtain ⟨rfl, rfl, rfl⟩ := hcs
    have hml : len ≤ m := by rw [hmm]; simp; omega
    have hR : ∀ i, i < len → ∃ k : Ent, W.cell? (x.add (i * 2)) = some (.int .i64 k.s) ∧ W.cell? (x.add (i * 2 + 1)) = some (.int .i64 k.f) := fun i hi => by
      obtain ⟨c0, c1, t0, t1⟩ := hel i (by omega)
      obtain ⟨a0, e0, _⟩ := DataW.trod_int Try.underlying3 t0
      obtain ⟨a1, e1, _⟩ := DataW.trod_int Try.underlying3 t1
      simp at e0 e1
      rw [e0] at c0; rw [e1] at c1
      exact ⟨⟨a0, a1⟩, c0, c1⟩
    obtain ⟨ks, hlen, hks⟩ := list_of len _ hR
    refine ⟨ks, hlen, by unfold maxLen at hm; omega, fun i k hi => ?_⟩
    have hi0 : 0 < ks.length := by have := (List.getElem?_eq_some_iff.1 hi).1; omega
    have h0 := (hks 0 ks[0] (List.getElem?_eq_getElem hi0)).1
    obtain ⟨b, off, rfl⟩ := addr_plain h0
    obtain ⟨h1, h2⟩ := hks i k hi
    rw [Go.WideShapes.add_plain] at h1 h2
    exact ⟨b, off, rfl, lt_of_cell h1, h1, by rw [Nat.add_assoc]; exact h2⟩
end
end Go.Proofs.Ytcgpoplnfkhhbaa
