/-
  What comes in: a list of deeds with lists (canterlaw19.Op), and a list of bools, as the walk reads them. Conditions: none.
-/
import Derived.Test.YtcllgfkmjleckaaOpenAny
namespace Go.Proofs.Ytcllgfkmjleckaa
open Go.ChangeShapes Go.WideShapes Go.ChangeAt Go.RowKit Go.Joins Go.Deep
set_option linter.unusedSimpArgs false

/-- A deed: its kind, a socket, whether it is new. -/
structure LOp where
  k : Int
  s : Int
  f : Bool
def cellsL (o : LOp) : List Value := [.int .i64 o.k, .int .i64 o.s, .bool o.f]
def cellsB (b : Bool) : List Value := [.bool b]
section
variable {H : Type} {enc : TypeId × Value → H} {W : World} {d : DataW H} {p : List MemPlace}
set_option maxRecDepth 100000 in
theorem open_lop {n : Nat} {cs : List Value} {y : DataW H × List MemPlace} (hl : cs.length = 3) (h : DataW.trod enc Try.prog W 0 (fun _ => true) true n 31 cs = some y) : ∃ s : LOp, cs = cellsL s := by
  have eu : Try.prog.cellsOf 3 = 1 := by kernel_rfl
  have eb : Try.prog.cellsOf 4 = 1 := by kernel_rfl
  match cs, hl with
  | [u0, u1, u2], _ =>
    obtain ⟨_, _, t0⟩ := trod_field Try.underlying31 h 0 _ rfl
    obtain ⟨_, _, t1⟩ := trod_field Try.underlying31 h 1 _ rfl
    obtain ⟨_, _, t2⟩ := trod_field Try.underlying31 h 2 _ rfl
    simp only [List.getElem_toArray, List.getElem_cons_zero, List.getElem_cons_succ, eu, eb, List.drop_zero, List.take_succ_cons, List.take_zero, List.drop_succ_cons] at t0 t1 t2
    obtain ⟨q0, f0, _, _⟩ := DataW.trod_int Try.underlying3 t0
    obtain ⟨q1, f1, _, _⟩ := DataW.trod_int Try.underlying3 t1
    obtain ⟨q2, f2, _⟩ := DataW.trod_bool Try.underlying4 t2
    simp at f0 f1 f2
    subst f0 f1 f2
    exact ⟨⟨q0, q1, q2⟩, rfl⟩
set_option maxRecDepth 100000 in
theorem open_lops {a : Option Addr} {len cap : Nat} (h : DataW.Trod enc Try.prog W 0 (fun _ => true) true 22 (.slice a len cap) d p) : ∃ l : List LOp, l.length = len ∧ len ≤ 9223372036854775807 ∧ RdL 3 cellsL W a l :=
  open_rows cellsL Try.underlying22 (by kernel_rfl) (fun _ => rfl) (by decide) (fun cs y n hl h => open_lop hl h) h
theorem open_bits {a : Option Addr} {len cap : Nat} (h : DataW.Trod enc Try.prog W 0 (fun _ => true) true 37 (.slice a len cap) d p) : ∃ l : List Bool, l.length = len ∧ len ≤ 9223372036854775807 ∧ RdL 1 cellsB W a l := by
  refine open_rows cellsB Try.underlying37 (by kernel_rfl) (fun _ => rfl) (by decide) (fun cs y n hl h => ?_) h
  match cs, hl with
  | [u0], _ =>
    obtain ⟨q0, f0, _⟩ := DataW.trod_bool Try.underlying4 h
    simp at f0
    subst f0
    exact ⟨q0, rfl⟩
end
end Go.Proofs.Ytcllgfkmjleckaa
