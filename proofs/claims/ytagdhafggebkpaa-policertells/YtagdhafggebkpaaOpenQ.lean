/-
  What comes in: a list of updates of a policer (canterlaw16.Op), as the walk reads it. Conditions: none.
-/
import Derived.Test.YtagdhafggebkpaaOpenAny
import Derived.Test.YtagdhafggebkpaaSplSt
namespace Go.Proofs.Ytagdhafggebkpaa
open Go.ChangeShapes Go.WideShapes Go.ChangeAt Go.RowKit Go.Joins Go.Deep
set_option linter.unusedSimpArgs false

/-- An update: start, and the sample. -/
structure QOp where
  s : Bool
  x : Spl
  fit : x.Fit
def cells10 (o : QOp) : List Value := [.bool o.s, .int .u64 o.x.n, .int .u64 o.x.d, .int .u64 o.x.p, .int .u64 o.x.i, .int .u64 o.x.r, .int .u64 o.x.a, .int .u64 o.x.o, .int .u64 o.x.f, .bool o.x.l]
section
variable {H : Type} {enc : TypeId × Value → H} {W : World} {d : DataW H} {p : List MemPlace}
set_option maxRecDepth 100000 in
theorem open_splq {n : Nat} {u0 u1 u2 u3 u4 u5 u6 u7 u8 : Value} {y : DataW H × List MemPlace} (h : DataW.trod enc Try.prog W 0 (fun _ => true) true n 32 [u0, u1, u2, u3, u4, u5, u6, u7, u8] = some y) :
    ∃ x : Spl, x.Fit ∧ u0 = .int .u64 x.n ∧ u1 = .int .u64 x.d ∧ u2 = .int .u64 x.p ∧ u3 = .int .u64 x.i ∧ u4 = .int .u64 x.r ∧ u5 = .int .u64 x.a ∧ u6 = .int .u64 x.o ∧ u7 = .int .u64 x.f ∧ u8 = .bool x.l := by
  have eu : Try.prog.cellsOf 26 = 1 := by kernel_rfl
  have eb : Try.prog.cellsOf 4 = 1 := by kernel_rfl
  obtain ⟨_, _, t0⟩ := trod_field Try.underlying32 h 0 _ rfl
  obtain ⟨_, _, t1⟩ := trod_field Try.underlying32 h 1 _ rfl
  obtain ⟨_, _, t2⟩ := trod_field Try.underlying32 h 2 _ rfl
  obtain ⟨_, _, t3⟩ := trod_field Try.underlying32 h 3 _ rfl
  obtain ⟨_, _, t4⟩ := trod_field Try.underlying32 h 4 _ rfl
  obtain ⟨_, _, t5⟩ := trod_field Try.underlying32 h 5 _ rfl
  obtain ⟨_, _, t6⟩ := trod_field Try.underlying32 h 6 _ rfl
  obtain ⟨_, _, t7⟩ := trod_field Try.underlying32 h 7 _ rfl
  obtain ⟨_, _, t8⟩ := trod_field Try.underlying32 h 8 _ rfl
  simp only [List.getElem_toArray, List.getElem_cons_zero, List.getElem_cons_succ, eu, eb, List.drop_zero, List.take_succ_cons, List.take_zero, List.drop_succ_cons] at t0 t1 t2 t3 t4 t5 t6 t7 t8
  obtain ⟨q0, f0, _, g0⟩ := DataW.trod_int Try.underlying26 t0
  obtain ⟨q1, f1, _, g1⟩ := DataW.trod_int Try.underlying26 t1
  obtain ⟨q2, f2, _, g2⟩ := DataW.trod_int Try.underlying26 t2
  obtain ⟨q3, f3, _, g3⟩ := DataW.trod_int Try.underlying26 t3
  obtain ⟨q4, f4, _, g4⟩ := DataW.trod_int Try.underlying26 t4
  obtain ⟨q5, f5, _, g5⟩ := DataW.trod_int Try.underlying26 t5
  obtain ⟨q6, f6, _, g6⟩ := DataW.trod_int Try.underlying26 t6
  obtain ⟨q7, f7, _, g7⟩ := DataW.trod_int Try.underlying26 t7
  obtain ⟨q8, f8, _⟩ := DataW.trod_bool Try.underlying4 t8
  simp at f0 f1 f2 f3 f4 f5 f6 f7 f8
  exact ⟨⟨q0, q1, q2, q3, q4, q5, q6, q7, q8⟩, ⟨bounds_u64 g0, bounds_u64 g1, bounds_u64 g2, bounds_u64 g3, bounds_u64 g4, bounds_u64 g5, bounds_u64 g6, bounds_u64 g7⟩, f0, f1, f2, f3, f4, f5, f6, f7, f8⟩
set_option maxRecDepth 100000 in
theorem open_qop {n : Nat} {cs : List Value} {y : DataW H × List MemPlace} (hl : cs.length = 10) (h : DataW.trod enc Try.prog W 0 (fun _ => true) true n 34 cs = some y) : ∃ s : QOp, cs = cells10 s := by
  have es : Try.prog.cellsOf 32 = 9 := by kernel_rfl
  have eb : Try.prog.cellsOf 4 = 1 := by kernel_rfl
  match cs, hl with
  | [u0, u1, u2, u3, u4, u5, u6, u7, u8, u9], _ =>
    obtain ⟨_, _, t0⟩ := trod_field Try.underlying34 h 0 _ rfl
    obtain ⟨_, _, t1⟩ := trod_field Try.underlying34 h 1 _ rfl
    simp only [List.getElem_toArray, List.getElem_cons_zero, List.getElem_cons_succ, es, eb, List.drop_zero, List.take_succ_cons, List.take_zero, List.drop_succ_cons] at t0 t1
    obtain ⟨q0, f0, _⟩ := DataW.trod_bool Try.underlying4 t0
    obtain ⟨x, hx, rfl, rfl, rfl, rfl, rfl, rfl, rfl, rfl, rfl⟩ := open_splq t1
    simp at f0
    subst f0
    exact ⟨⟨q0, x, hx⟩, rfl⟩
set_option maxRecDepth 100000 in
theorem open_qops {a : Option Addr} {len cap : Nat} (h : DataW.Trod enc Try.prog W 0 (fun _ => true) true 22 (.slice a len cap) d p) : ∃ l : List QOp, l.length = len ∧ len ≤ 9223372036854775807 ∧ RdL 10 cells10 W a l :=
  open_rows cells10 Try.underlying22 (by kernel_rfl) (fun _ => rfl) (by decide) (fun cs y n hl h => open_qop hl h) h
end
end Go.Proofs.Ytagdhafggebkpaa
