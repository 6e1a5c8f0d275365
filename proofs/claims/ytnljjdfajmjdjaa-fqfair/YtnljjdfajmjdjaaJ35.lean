/-
  What comes in: slices of structs, as the walk reads them. Conditions: none.
  What comes in: a segment, a config, as the walk reads them. Conditions: none.
-/
import Derived.Test.YtnljjdfajmjdjaaJ01
import Derived.Test.YtnljjdfajmjdjaaChecked
import Derived.Test.YtnljjdfajmjdjaaJ03
import Derived.Lib.SmallJoins
import Derived.Deep.SlicePairs
import Derived.Deep.Slices
import Derived.Deep.Strs
import Derived.OpenShut
namespace Go.Proofs.Ytnljjdfajmjdjaa
open Go.ChangeShapes Go.WideShapes Go.ChangeAt Go.RowKit Go.Joins Go.Deep
set_option maxRecDepth 100000
section
variable {H : Type} {enc : TypeId × Value → H} {P : Program} {w : World} {base : Nat} {spare : TypeId → Bool} {held : Bool}
/-- One field of a struct. -/
theorem trod_field {t : TypeId} {fs : Array Field} {fuel : Nat} {cs : List Value} {x : DataW H × List MemPlace} (ht : P.underlying t = some (.struct fs)) (h : DataW.trod enc P w base spare held fuel t cs = some x) (i : Nat) (f : Field) (hf : fs[i]? = some f) :
    ∃ y n, DataW.trod enc P w base spare held n f.type ((cs.drop f.offset).take (P.cellsOf f.type)) = some y := by
  obtain ⟨xs, n, _, rfl, hl, hlen, hf'⟩ := DataW.trod_struct ht h
  have hi : i < fs.size := (Array.getElem?_eq_some_iff.1 hf).1
  exact ⟨xs[i]'(by omega), n, (hf' i f hf).trans (List.getElem?_eq_getElem (by omega))⟩
end
/-- The slice that begins at 'a' holds the elements l, sz cells each. -/
def RdL {α : Type} (sz : Nat) (cells : α → List Value) (w : World) (a : Option Addr) (l : List α) : Prop :=
  ∀ i v, l[i]? = some v → ∃ b off, a = some ⟨b, off, none⟩ ∧ b < w.heap.size ∧ ∀ j u, (cells v)[j]? = some u → w.cell? ⟨b, off + i * sz + j, none⟩ = some u
theorem RdL.below {α : Type} {sz : Nat} {cells : α → List Value} {w w' : World} {a : Option Addr} {l : List α} (h : RdL sz cells w a l) (hb : Below w.heap.size w w') : RdL sz cells w' a l := by
  intro i v hi
  obtain ⟨b, off, e, hlt, hc⟩ := h i v hi
  exact ⟨b, off, e, Nat.lt_of_lt_of_le hlt hb.size, fun j u hu => (hb.cell (p := ⟨b, _, none⟩) hlt).trans (hc j u hu)⟩
section
variable {H : Type} {enc : TypeId × Value → H} {W : World} {d : DataW H} {p : List MemPlace}
theorem open_rows {α : Type} (cells : α → List Value) {t e : TypeId} {sz : Nat} (hu : Try.prog.underlying t = some (.slice e)) (hsz : Try.prog.cellsOf e = sz) (hpos : ∀ v, (cells v).length = sz) (h0 : 0 < sz)
    (hopen : ∀ cs y n, cs.length = sz → DataW.trod enc Try.prog W 0 (fun _ => true) true n e cs = some y → ∃ v : α, cs = cells v)
    {a : Option Addr} {len cap : Nat} (h : DataW.Trod enc Try.prog W 0 (fun _ => true) true t (.slice a len cap) d p) : ∃ l : List α, l.length = len ∧ len ≤ 9223372036854775807 ∧ RdL sz cells W a l := by
  obtain ⟨fuel, hf⟩ := h
  rcases open_slice hu hf with ⟨hcs, _⟩ | ⟨x, l, c, m, n, D, Pl, hcs, hb, hl, hm, hmm, _, hel⟩
  · simp [Value.cells] at hcs
    obtain ⟨rfl, rfl, rfl⟩ := hcs
    exact ⟨[], rfl, by omega, fun i k hi => by simp at hi⟩
  · simp [Value.cells] at hcs
    obtain ⟨rfl, rfl, rfl⟩ := hcs
    have hml : len ≤ m := by rw [hmm]; simp; omega
    have hR : ∀ i, i < len → ∃ v : α, ∀ j u, (cells v)[j]? = some u → W.cell? (x.add (i * sz + j)) = some u := fun i hi => by
      obtain ⟨cs, hc, ht⟩ := hel i (by omega)
      rw [hsz] at hc
      obtain ⟨_, hlen, hat⟩ := World.cells?_some hc
      obtain ⟨v, rfl⟩ := hopen cs _ _ hlen ht
      refine ⟨v, fun j u hj => ?_⟩
      have hjl := (List.getElem?_eq_some_iff.1 hj).1
      have := hat j (by rw [← hlen]; exact hjl)
      rw [Go.Deep.add_add] at this
      rw [this]; exact hj
    obtain ⟨ds, hlen, hds⟩ := list_of len _ hR
    refine ⟨ds, hlen, by unfold maxLen at hm; omega, fun i k hi => ?_⟩
    have hi0 : 0 < ds.length := by have := (List.getElem?_eq_some_iff.1 hi).1; omega
    have hc0 : 0 < (cells ds[0]).length := by rw [hpos]; exact h0
    have h00 := hds 0 ds[0] (List.getElem?_eq_getElem hi0) 0 _ (List.getElem?_eq_getElem hc0)
    rw [Nat.zero_mul, Nat.zero_add, show x.add 0 = x by obtain ⟨b, off, spot⟩ := x; unfold Addr.add; cases spot <;> simp] at h00
    obtain ⟨b, off, rfl⟩ := addr_plain h00
    have hci : 0 < (cells k).length := by rw [hpos]; exact h0
    have h1 := hds i k hi 0 _ (List.getElem?_eq_getElem hci)
    rw [Go.WideShapes.add_plain] at h1
    exact ⟨b, off, rfl, lt_of_cell h1, fun j u hj => by have := hds i k hi j u hj; rw [Go.WideShapes.add_plain] at this; rw [Nat.add_assoc]; exact this⟩
end
end Go.Proofs.Ytnljjdfajmjdjaa
namespace Go.Proofs.Ytnljjdfajmjdjaa
open Go.ChangeShapes Go.WideShapes Go.ChangeAt Go.RowKit Go.Joins Go.Deep
set_option maxRecDepth 100000
set_option linter.unusedSimpArgs false

section
variable {H : Type} {enc : TypeId × Value → H} {W : World} {d : DataW H} {p : List MemPlace}
set_option maxRecDepth 100000 in
theorem open_seg {r : Reach} {b0 : Nat} {v : Value} (hv : Value.okWide Try.prog W r b0 34 v) (h : DataW.Trod enc Try.prog W 0 (fun _ => true) true 34 v d p) : ∃ s : Sg, v = s.v ∧ U64 s.f ∧ U64 s.t := by
  have ei : Try.prog.cellsOf 3 = 1 := by kernel_rfl
  have eu : Try.prog.cellsOf 22 = 1 := by kernel_rfl
  have eb : Try.prog.cellsOf 4 = 1 := by kernel_rfl
  have ec : Try.prog.cellsOf 34 = 5 := by kernel_rfl
  obtain ⟨cs, rfl, hsz⟩ := okWide_struct Try.underlying34 hv
  rw [ec] at hsz
  obtain ⟨cs⟩ := cs
  have hl : cs.length = 5 := hsz
  obtain ⟨fuel, h⟩ := h
  match cs, hl with
  | [u0, u1, u2, u3, u4], _ =>
    replace h : DataW.trod enc Try.prog W 0 (fun _ => true) true fuel 34 [u0, u1, u2, u3, u4] = some (d, p) := h
    obtain ⟨_, _, t0⟩ := trod_field Try.underlying34 h 0 _ rfl
    obtain ⟨_, _, t1⟩ := trod_field Try.underlying34 h 1 _ rfl
    obtain ⟨_, _, t2⟩ := trod_field Try.underlying34 h 2 _ rfl
    obtain ⟨_, _, t3⟩ := trod_field Try.underlying34 h 3 _ rfl
    obtain ⟨_, _, t4⟩ := trod_field Try.underlying34 h 4 _ rfl
    simp only [List.getElem_toArray, List.getElem_cons_zero, List.getElem_cons_succ, ei, eu, eb, List.drop_zero, List.take_succ_cons, List.take_zero, List.drop_succ_cons] at t0 t1 t2 t3 t4
    obtain ⟨q0, f0, _, g0⟩ := DataW.trod_int Try.underlying3 t0
    obtain ⟨q1, f1, _, g1⟩ := DataW.trod_int Try.underlying22 t1
    obtain ⟨q2, f2, _, g2⟩ := DataW.trod_int Try.underlying3 t2
    obtain ⟨q3, f3, _, g3⟩ := DataW.trod_int Try.underlying22 t3
    obtain ⟨q4, f4, _⟩ := DataW.trod_bool Try.underlying4 t4
    simp at f0 f1 f2 f3 f4
    subst f0 f1 f2 f3 f4
    exact ⟨⟨q0, q1, q2, q3, q4⟩, rfl, bounds_u64 g1, bounds_u64 g3⟩
set_option maxRecDepth 100000 in
theorem open_conf {r : Reach} {b0 : Nat} {v : Value} (hv : Value.okWide Try.prog W r b0 24 v) (h : DataW.Trod enc Try.prog W 0 (fun _ => true) true 24 v d p) : ∃ s : Cf, v = s.v ∧ U64 s.h ∧ U64 s.r := by
  have ei : Try.prog.cellsOf 3 = 1 := by kernel_rfl
  have eu : Try.prog.cellsOf 22 = 1 := by kernel_rfl
  have eb : Try.prog.cellsOf 4 = 1 := by kernel_rfl
  have ec : Try.prog.cellsOf 24 = 9 := by kernel_rfl
  obtain ⟨cs, rfl, hsz⟩ := okWide_struct Try.underlying24 hv
  rw [ec] at hsz
  obtain ⟨cs⟩ := cs
  have hl : cs.length = 9 := hsz
  obtain ⟨fuel, h⟩ := h
  match cs, hl with
  | [u0, u1, u2, u3, u4, u5, u6, u7, u8], _ =>
    replace h : DataW.trod enc Try.prog W 0 (fun _ => true) true fuel 24 [u0, u1, u2, u3, u4, u5, u6, u7, u8] = some (d, p) := h
    obtain ⟨_, _, t0⟩ := trod_field Try.underlying24 h 0 _ rfl
    obtain ⟨_, _, t1⟩ := trod_field Try.underlying24 h 1 _ rfl
    obtain ⟨_, _, t2⟩ := trod_field Try.underlying24 h 2 _ rfl
    obtain ⟨_, _, t3⟩ := trod_field Try.underlying24 h 3 _ rfl
    obtain ⟨_, _, t4⟩ := trod_field Try.underlying24 h 4 _ rfl
    obtain ⟨_, _, t5⟩ := trod_field Try.underlying24 h 5 _ rfl
    obtain ⟨_, _, t6⟩ := trod_field Try.underlying24 h 6 _ rfl
    obtain ⟨_, _, t7⟩ := trod_field Try.underlying24 h 7 _ rfl
    obtain ⟨_, _, t8⟩ := trod_field Try.underlying24 h 8 _ rfl
    simp only [List.getElem_toArray, List.getElem_cons_zero, List.getElem_cons_succ, ei, eu, eb, List.drop_zero, List.take_succ_cons, List.take_zero, List.drop_succ_cons] at t0 t1 t2 t3 t4 t5 t6 t7 t8
    obtain ⟨q0, f0, _, g0⟩ := DataW.trod_int Try.underlying3 t0
    obtain ⟨q1, f1, _, g1⟩ := DataW.trod_int Try.underlying3 t1
    obtain ⟨q2, f2, _, g2⟩ := DataW.trod_int Try.underlying3 t2
    obtain ⟨q3, f3, _, g3⟩ := DataW.trod_int Try.underlying3 t3
    obtain ⟨q4, f4, _, g4⟩ := DataW.trod_int Try.underlying22 t4
    obtain ⟨q5, f5, _, g5⟩ := DataW.trod_int Try.underlying22 t5
    obtain ⟨q6, f6, _⟩ := DataW.trod_bool Try.underlying4 t6
    obtain ⟨q7, f7, _, g7⟩ := DataW.trod_int Try.underlying3 t7
    obtain ⟨q8, f8, _, g8⟩ := DataW.trod_int Try.underlying3 t8
    simp at f0 f1 f2 f3 f4 f5 f6 f7 f8
    subst f0 f1 f2 f3 f4 f5 f6 f7 f8
    exact ⟨⟨q0, q1, q2, q3, q4, q5, q6, q7, q8⟩, rfl, bounds_u64 g4, bounds_u64 g5⟩
end
end Go.Proofs.Ytnljjdfajmjdjaa
