/-
  What comes in: a list of updates of a probe (canterlaw15.Op), as the walk reads it. Conditions: none.
-/
import Derived.Test.YtnfikihpmbangaaOpenAny
namespace Go.Proofs.Ytnfikihpmbangaa
open Go.ChangeShapes Go.WideShapes Go.ChangeAt Go.RowKit Go.Joins Go.Deep
set_option linter.unusedSimpArgs false

/-- An update: now, the round trip, what is under way, the floor, start. -/
structure BOp where
  n : Int
  t : Int
  f : Int
  o : Int
  s : Bool
  hn : Num n
  ht : Num t
def cells5 (o : BOp) : List Value := [.int .u64 o.n, .int .u64 o.t, .int .u64 o.f, .int .u64 o.o, .bool o.s]
section
variable {H : Type} {enc : TypeId × Value → H} {W : World} {d : DataW H} {p : List MemPlace}
set_option maxRecDepth 100000 in
theorem open_bop {n : Nat} {cs : List Value} {y : DataW H × List MemPlace} (hl : cs.length = 5) (h : DataW.trod enc Try.prog W 0 (fun _ => true) true n 31 cs = some y) : ∃ s : BOp, cs = cells5 s := by
  have eu : Try.prog.cellsOf 26 = 1 := by kernel_rfl
  have eb : Try.prog.cellsOf 4 = 1 := by kernel_rfl
  match cs, hl with
  | [u0, u1, u2, u3, u4], _ =>
    obtain ⟨_, _, t0⟩ := trod_field Try.underlying31 h 0 _ rfl
    obtain ⟨_, _, t1⟩ := trod_field Try.underlying31 h 1 _ rfl
    obtain ⟨_, _, t2⟩ := trod_field Try.underlying31 h 2 _ rfl
    obtain ⟨_, _, t3⟩ := trod_field Try.underlying31 h 3 _ rfl
    obtain ⟨_, _, t4⟩ := trod_field Try.underlying31 h 4 _ rfl
    simp only [List.getElem_toArray, List.getElem_cons_zero, List.getElem_cons_succ, eu, eb, List.drop_zero, List.take_succ_cons, List.take_zero, List.drop_succ_cons] at t0 t1 t2 t3 t4
    obtain ⟨q0, f0, _, g0⟩ := DataW.trod_int Try.underlying26 t0
    obtain ⟨q1, f1, _, g1⟩ := DataW.trod_int Try.underlying26 t1
    obtain ⟨q2, f2, _, g2⟩ := DataW.trod_int Try.underlying26 t2
    obtain ⟨q3, f3, _, g3⟩ := DataW.trod_int Try.underlying26 t3
    obtain ⟨q4, f4, _⟩ := DataW.trod_bool Try.underlying4 t4
    simp at f0 f1 f2 f3 f4
    subst f0 f1 f2 f3 f4
    exact ⟨⟨q0, q1, q2, q3, q4, bounds_u64 g0, bounds_u64 g1⟩, rfl⟩
set_option maxRecDepth 100000 in
theorem open_bops {a : Option Addr} {len cap : Nat} (h : DataW.Trod enc Try.prog W 0 (fun _ => true) true 22 (.slice a len cap) d p) : ∃ l : List BOp, l.length = len ∧ len ≤ 9223372036854775807 ∧ RdL 5 cells5 W a l :=
  open_rows cells5 Try.underlying22 (by kernel_rfl) (fun _ => rfl) (by decide) (fun cs y n hl h => open_bop hl h) h
end
end Go.Proofs.Ytnfikihpmbangaa
