/-
  What comes in: a list of things done to a buffer (canterlaw21.Op), as the walk reads them. Conditions: none.
-/
import Derived.Test.YthkehdoolnjjeaaOpenAny
namespace Go.Proofs.Ythkehdoolnjjeaa
open Go.ChangeShapes Go.WideShapes Go.ChangeAt Go.RowKit Go.Joins Go.Deep
set_option maxRecDepth 100000
set_option linter.unusedSimpArgs false

/-- One thing done: its kind, a number, how far. -/
structure WOp where
  k : Int
  n : Int
  u : Int
  hn : n ≤ 9223372036854775807
  hu : 0 ≤ u ∧ u ≤ 18446744073709551615
def cellsW (o : WOp) : List Value := [.int .i64 o.k, .int .i64 o.n, .int .u64 o.u]
section
variable {H : Type} {enc : TypeId × Value → H} {W : World} {d : DataW H} {p : List MemPlace}
set_option maxRecDepth 100000 in
theorem open_wop {n : Nat} {cs : List Value} {y : DataW H × List MemPlace} (hl : cs.length = 3) (h : DataW.trod enc Try.prog W 0 (fun _ => true) true n 31 cs = some y) : ∃ s : WOp, cs = cellsW s := by
  have ei : Try.prog.cellsOf 3 = 1 := by kernel_rfl
  have eu : Try.prog.cellsOf 26 = 1 := by kernel_rfl
  match cs, hl with
  | [u0, u1, u2], _ =>
    obtain ⟨_, _, t0⟩ := trod_field Try.underlying31 h 0 _ rfl
    obtain ⟨_, _, t1⟩ := trod_field Try.underlying31 h 1 _ rfl
    obtain ⟨_, _, t2⟩ := trod_field Try.underlying31 h 2 _ rfl
    simp only [List.getElem_toArray, List.getElem_cons_zero, List.getElem_cons_succ, ei, eu, List.drop_zero, List.take_succ_cons, List.take_zero, List.drop_succ_cons] at t0 t1 t2
    obtain ⟨q0, f0, _, _⟩ := DataW.trod_int Try.underlying3 t0
    obtain ⟨q1, f1, _, g1⟩ := DataW.trod_int Try.underlying3 t1
    obtain ⟨q2, f2, _, g2⟩ := DataW.trod_int Try.underlying26 t2
    simp at f0 f1 f2
    subst f0 f1 f2
    exact ⟨⟨q0, q1, q2, (bounds_i64 g1).2, bounds_u64 g2⟩, rfl⟩
set_option maxRecDepth 100000 in
theorem open_wops {a : Option Addr} {len cap : Nat} (h : DataW.Trod enc Try.prog W 0 (fun _ => true) true 22 (.slice a len cap) d p) : ∃ l : List WOp, l.length = len ∧ len ≤ 9223372036854775807 ∧ RdL 3 cellsW W a l :=
  open_rows cellsW Try.underlying22 (by kernel_rfl) (fun _ => rfl) (by decide) (fun cs y n hl h => open_wop hl h) h
end
end Go.Proofs.Ythkehdoolnjjeaa
