/-
  What comes in: slices of structs, as the walk reads them. Conditions: none.
-/
import Derived.Test.YthkehdoolnjjeaaNum
import Derived.Test.YthkehdoolnjjeaaMem
import Derived.Test.YthkehdoolnjjeaaChecked
import Derived.Lib.SmallJoins
import Derived.Deep.SlicePairs
import Derived.Deep.Slices
import Derived.Deep.Strs
import Derived.OpenShut
namespace Go.Proofs.Ythkehdoolnjjeaa
open Go.ChangeShapes Go.WideShapes Go.ChangeAt Go.RowKit Go.Joins Go.Deep
set_option maxRecDepth 100000
section
variable {H : Type} {enc : TypeId × Value → H} {P : Program} {w : World} {base : Nat} {spare : TypeId → Bool} {held : Bool}
/-- One field of a struct. -/
theorem trod_field {t : TypeId} {fs : Array Field} {fuel : Nat} {cs : List Value} {x : DataW H × List MemPlace} (ht : P.underlying t = some (.struct fs)) (h : DataW.trod enc P w base spare held fuel t cs = some x) (i : Nat) (f : Field) (hf : fs[i]? = some f) :
    ∃ y n, DataW.trod enc P w base spare held n f.type ((cs.drop f.offset).take (P.cellsOf f.type)) = some y := by
  obtain ⟨xs, n, _, rfl, hl, hlen, hf'⟩ := DataW.trod_struct ht h
  have hi : i < fs.size := (Array.getElem?_eq_some_iff.1 hf).1
  exact ⟨xs[i]'(by omega), n, (hf' i f hf).trans (List.getElem?_eq_getElem (by omega))⟩
end
/-- The slice that begins at 'a' holds the elements l, sz cells each. -/
def RdL {α : Type} (sz : Nat) (cells : α → List Value) (w : World) (a : Option Addr) (l : List α) : Prop :=
  ∀ i v, l[i]? = some v → ∃ b off, a = some ⟨b, off, none⟩ ∧ b < w.heap.size ∧ ∀ j u, (cells v)[j]? = some u → w.cell? ⟨b, off + i * sz + j, none⟩ = some u
theorem RdL.below {α : Type} {sz : Nat} {cells : α → List Value} {w w' : World} {a : Option Addr} {l : List α} (h : RdL sz cells w a l) (hb : Below w.heap.size w w') : RdL sz cells w' a l := by
  intro i v hi
  obtain ⟨b, off, e, hlt, hc⟩ := h i v hi
  exact ⟨b, off, e, Nat.lt_of_lt_of_le hlt hb.size, fun j u hu => (hb.cell (p := ⟨b, _, none⟩) hlt).trans (hc j u hu)⟩
section
variable {H : Type} {enc : TypeId × Value → H} {W : World} {d : DataW H} {p : List MemPlace}
theorem open_rows {α : Type} (cells : α → List Value) {t e : TypeId} {sz : Nat} (hu : Try.prog.underlying t = some (.slice e)) (hsz : Try.prog.cellsOf e = sz) (hpos : ∀ v, (cells v).length = sz) (h0 : 0 < sz)
    (hopen : ∀ cs y n, cs.length = sz → DataW.trod enc Try.prog W 0 (fun _ => true) true n e cs = some y → ∃ v : α, cs = cells v)
    {a : Option Addr} {len cap : Nat} (h : DataW.Trod enc Try.prog W 0 (fun _ => true) true t (.slice a len cap) d p) : ∃ l : List α, l.length = len ∧ len ≤ 9223372036854775807 ∧ RdL sz cells W a l := by
  obtain ⟨fuel, hf⟩ := h
  rcases open_slice hu hf with ⟨hcs, _⟩ | ⟨x, l, c, m, n, D, Pl, hcs, hb, hl, hm, hmm, _, hel⟩
  · simp [Value.cells] at hcs
    obtain ⟨rfl, rfl, rfl⟩ := hcs
    exact ⟨[], rfl, by omega, fun i k hi => by simp at hi⟩
  · simp [Value.cells] at hcs
    obtain ⟨rfl, rfl, rfl⟩ := hcs
    have hml : len ≤ m := by rw [hmm]; simp; omega
    have hR : ∀ i, i < len → ∃ v : α, ∀ j u, (cells v)[j]? = some u → W.cell? (x.add (i * sz + j)) = some u := fun i hi => by
      obtain ⟨cs, hc, ht⟩ := hel i (by omega)
      rw [hsz] at hc
      obtain ⟨_, hlen, hat⟩ := World.cells?_some hc
      obtain ⟨v, rfl⟩ := hopen cs _ _ hlen ht
      refine ⟨v, fun j u hj => ?_⟩
      have hjl := (List.getElem?_eq_some_iff.1 hj).1
      have := hat j (by rw [← hlen]; exact hjl)
      rw [Go.Deep.add_add] at this
      rw [this]; exact hj
    obtain ⟨ds, hlen, hds⟩ := list_of len _ hR
    refine ⟨ds, hlen, by unfold maxLen at hm; omega, fun i k hi => ?_⟩
    have hi0 : 0 < ds.length := by have := (List.getElem?_eq_some_iff.1 hi).1; omega
    have hc0 : 0 < (cells ds[0]).length := by rw [hpos]; exact h0
    have h00 := hds 0 ds[0] (List.getElem?_eq_getElem hi0) 0 _ (List.getElem?_eq_getElem hc0)
    rw [Nat.zero_mul, Nat.zero_add, show x.add 0 = x by obtain ⟨b, off, spot⟩ := x; unfold Addr.add; cases spot <;> simp] at h00
    obtain ⟨b, off, rfl⟩ := addr_plain h00
    have hci : 0 < (cells k).length := by rw [hpos]; exact h0
    have h1 := hds i k hi 0 _ (List.getElem?_eq_getElem hci)
    rw [Go.WideShapes.add_plain] at h1
    exact ⟨b, off, rfl, lt_of_cell h1, fun j u hj => by have := hds i k hi j u hj; rw [Go.WideShapes.add_plain] at this; rw [Nat.add_assoc]; exact this⟩
end
end Go.Proofs.Ythkehdoolnjjeaa
