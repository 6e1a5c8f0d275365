/-
  What comes in: a list of deeds (two numbers and a bool each), as the walk reads them. Conditions: none.
-/
import Derived.Test.YtcdhnokhklnkoaaWinSt
import Derived.Test.YtcdhnokhklnkoaaChecked
import Derived.Lib.SmallJoins
import Derived.Deep.SlicePairs
import Derived.Deep.Slices
import Derived.Deep.Strs
import Derived.OpenShut
namespace Go.Proofs.Ytcdhnokhklnkoaa
open Go.ChangeShapes Go.WideShapes Go.ChangeAt Go.RowKit Go.Joins Go.Deep
set_option linter.unusedSimpArgs false

structure Deed where
  t : Int
  v : Int
  r : Bool
  ht : Num t
  hv : Num v
/-- The slice that begins at 'a' holds the deeds 'es'. -/
def RdO (w : World) (a : Option Addr) (es : List Deed) : Prop :=
  ∀ i e, es[i]? = some e → ∃ b off, a = some ⟨b, off, none⟩ ∧ b < w.heap.size ∧ w.cell? ⟨b, off + i * 3, none⟩ = some (.int .u64 e.t) ∧ w.cell? ⟨b, off + i * 3 + 1, none⟩ = some (.int .u64 e.v) ∧ w.cell? ⟨b, off + i * 3 + 2, none⟩ = some (.bool e.r)
theorem RdO.below {w w' : World} {a : Option Addr} {es : List Deed} (h : RdO w a es) (hb : Below w.heap.size w w') : RdO w' a es := by
  intro i k hi
  obtain ⟨b, off, e, hlt, h1, h2, h3⟩ := h i k hi
  exact ⟨b, off, e, Nat.lt_of_lt_of_le hlt hb.size, (hb.cell (p := ⟨b, _, none⟩) hlt).trans h1, (hb.cell (p := ⟨b, _, none⟩) hlt).trans h2, (hb.cell (p := ⟨b, _, none⟩) hlt).trans h3⟩
theorem addr_plain {W : World} {x : Addr} {v : Value} (h : W.cell? x = some v) : ∃ b off, x = ⟨b, off, none⟩ := by
  obtain ⟨b, off, spot⟩ := x
  have hspot : spot = none := by simpa using World.cell?_spot h
  exact ⟨b, off, by rw [hspot]⟩
/-- A list out of a rule for its members. -/
theorem list_of {α : Type} (n : Nat) (R : Nat → α → Prop) (h : ∀ i, i < n → ∃ x, R i x) : ∃ l : List α, l.length = n ∧ ∀ i x, l[i]? = some x → R i x := by
  induction n with
  | zero => exact ⟨[], rfl, fun i x hx => by simp at hx⟩
  | succ n ih =>
    obtain ⟨l, hl, hR⟩ := ih (fun i hi => h i (by omega))
    obtain ⟨x, hx⟩ := h n (by omega)
    refine ⟨l ++ [x], by simp [hl], fun i y hy => ?_⟩
    by_cases e : i < n
    · rw [List.getElem?_append_left (by omega)] at hy; exact hR i y hy
    · rw [List.getElem?_append_right (by omega)] at hy
      have : i = n := by
        have := (List.getElem?_eq_some_iff.1 hy).1
        simp at this; omega
      subst this
      rw [hl] at hy
      simp at hy
      subst hy
      exact hx
section
variable {H : Type} {enc : TypeId × Value → H} {W : World} {d : DataW H} {p : List MemPlace}
theorem open_ops {a : Option Addr} {len cap : Nat} (h : DataW.Trod enc Try.prog W 0 (fun _ => true) true 23 (.slice a len cap) d p) : ∃ ds : List Deed, ds.length = len ∧ len ≤ 9223372036854775807 ∧ RdO W a ds := by
  obtain ⟨fuel, hf⟩ := h
  rcases open_slice Try.underlying23 hf with ⟨hcs, _⟩ | ⟨x, l, c, m, n, D, Pl, hcs, hb, hl, hm, hmm, _, hel⟩
  · simp [Value.cells] at hcs
    obtain ⟨rfl, rfl, rfl⟩ := hcs
    exact ⟨[], rfl, by omega, fun i k hi => by simp at hi⟩
  · simp [Value.cells] at hcs
    obtain ⟨rfl, rfl, rfl⟩ := hcs
    have hml : len ≤ m := by rw [hmm]; simp; omega
    have e3 : Try.prog.cellsOf 30 = 3 := by kernel_rfl
    have eu : Try.prog.cellsOf 22 = 1 := by kernel_rfl
    have eb : Try.prog.cellsOf 4 = 1 := by kernel_rfl
    have hR : ∀ i, i < len → ∃ v : Deed, W.cell? (x.add (i * 3)) = some (.int .u64 v.t) ∧ W.cell? (x.add (i * 3 + 1)) = some (.int .u64 v.v) ∧ W.cell? (x.add (i * 3 + 2)) = some (.bool v.r) := fun i hi => by
      obtain ⟨cs, hc, ht⟩ := hel i (by omega)
      rw [e3] at hc
      obtain ⟨y0, y1, y2, n1, _, hcl, t0, t1, t2⟩ := trod_struct3 Try.underlying30 ht
      obtain ⟨_, hlen, hat⟩ := World.cells?_some hc
      match cs, hlen with
      | [u0, u1, u2], _ =>
        simp only [eu, eb, List.drop_zero, List.take_succ_cons, List.take_zero, List.drop_succ_cons] at t0 t1 t2
        obtain ⟨q0, f0, _, g0⟩ := DataW.trod_int Try.underlying22 t0
        obtain ⟨q1, f1, _, g1⟩ := DataW.trod_int Try.underlying22 t1
        obtain ⟨q2, f2, _⟩ := DataW.trod_bool Try.underlying4 t2
        simp at f0 f1 f2
        subst f0 f1 f2
        refine ⟨⟨q0, q1, q2, bounds_u64 g0, bounds_u64 g1⟩, ?_, ?_, ?_⟩
        · have := hat 0 (by omega); simpa [Go.Deep.add_add] using this
        · have := hat 1 (by omega); simpa [Go.Deep.add_add] using this
        · have := hat 2 (by omega); simpa [Go.Deep.add_add] using this
    obtain ⟨ds, hlen, hds⟩ := list_of len _ hR
    refine ⟨ds, hlen, by unfold maxLen at hm; omega, fun i k hi => ?_⟩
    have hi0 : 0 < ds.length := by have := (List.getElem?_eq_some_iff.1 hi).1; omega
    have h0 := (hds 0 ds[0] (List.getElem?_eq_getElem hi0)).1
    obtain ⟨b, off, rfl⟩ := addr_plain h0
    obtain ⟨h1, h2, h3⟩ := hds i k hi
    rw [Go.WideShapes.add_plain] at h1 h2 h3
    exact ⟨b, off, rfl, lt_of_cell h1, h1, by rw [Nat.add_assoc]; exact h2, by rw [Nat.add_assoc]; exact h3⟩
end
end Go.Proofs.Ytcdhnokhklnkoaa
