/-
  What comes in: a list of samples (api.Sample), as the walk reads them. Conditions: none.
-/
import Derived.Test.YtbimmadllfgmiaaGreatOpenAny
import Derived.Test.YtbimmadllfgmiaaGreatSplSt
namespace Go.Proofs.YtbimmadllfgmiaaGreat
open Go.ChangeShapes Go.WideShapes Go.ChangeAt Go.RowKit Go.Joins Go.Deep
set_option maxRecDepth 100000
set_option linter.unusedSimpArgs false

/-- A sample whose numbers are of their kind. -/
structure SplF where
  x : Spl
  fit : x.Fit
def cells9 (s : SplF) : List Value := [.int .u64 s.x.n, .int .u64 s.x.d, .int .u64 s.x.p, .int .u64 s.x.i, .int .u64 s.x.r, .int .u64 s.x.a, .int .u64 s.x.o, .int .u64 s.x.f, .bool s.x.l]
section
variable {H : Type} {enc : TypeId × Value → H} {W : World} {d : DataW H} {p : List MemPlace}
set_option maxRecDepth 100000 in
theorem open_spl {n : Nat} {cs : List Value} {y : DataW H × List MemPlace} (hl : cs.length = 9) (h : DataW.trod enc Tryz.prog W 0 (fun _ => true) true n 34 cs = some y) : ∃ s : SplF, cs = cells9 s := by
  have eu : Tryz.prog.cellsOf 22 = 1 := by kernel_rfl
  have eb : Tryz.prog.cellsOf 4 = 1 := by kernel_rfl
  match cs, hl with
  | [u0, u1, u2, u3, u4, u5, u6, u7, u8], _ =>
    obtain ⟨_, _, t0⟩ := trod_field Tryz.underlying34 h 0 _ rfl
    obtain ⟨_, _, t1⟩ := trod_field Tryz.underlying34 h 1 _ rfl
    obtain ⟨_, _, t2⟩ := trod_field Tryz.underlying34 h 2 _ rfl
    obtain ⟨_, _, t3⟩ := trod_field Tryz.underlying34 h 3 _ rfl
    obtain ⟨_, _, t4⟩ := trod_field Tryz.underlying34 h 4 _ rfl
    obtain ⟨_, _, t5⟩ := trod_field Tryz.underlying34 h 5 _ rfl
    obtain ⟨_, _, t6⟩ := trod_field Tryz.underlying34 h 6 _ rfl
    obtain ⟨_, _, t7⟩ := trod_field Tryz.underlying34 h 7 _ rfl
    obtain ⟨_, _, t8⟩ := trod_field Tryz.underlying34 h 8 _ rfl
    simp only [List.getElem_toArray, List.getElem_cons_zero, List.getElem_cons_succ, eu, eb, List.drop_zero, List.take_succ_cons, List.take_zero, List.drop_succ_cons] at t0 t1 t2 t3 t4 t5 t6 t7 t8
    obtain ⟨q0, f0, _, g0⟩ := DataW.trod_int Tryz.underlying22 t0
    obtain ⟨q1, f1, _, g1⟩ := DataW.trod_int Tryz.underlying22 t1
    obtain ⟨q2, f2, _, g2⟩ := DataW.trod_int Tryz.underlying22 t2
    obtain ⟨q3, f3, _, g3⟩ := DataW.trod_int Tryz.underlying22 t3
    obtain ⟨q4, f4, _, g4⟩ := DataW.trod_int Tryz.underlying22 t4
    obtain ⟨q5, f5, _, g5⟩ := DataW.trod_int Tryz.underlying22 t5
    obtain ⟨q6, f6, _, g6⟩ := DataW.trod_int Tryz.underlying22 t6
    obtain ⟨q7, f7, _, g7⟩ := DataW.trod_int Tryz.underlying22 t7
    obtain ⟨q8, f8, _⟩ := DataW.trod_bool Tryz.underlying4 t8
    simp at f0 f1 f2 f3 f4 f5 f6 f7 f8
    subst f0 f1 f2 f3 f4 f5 f6 f7 f8
    exact ⟨⟨⟨q0, q1, q2, q3, q4, q5, q6, q7, q8⟩, ⟨bounds_u64 g0, bounds_u64 g1, bounds_u64 g2, bounds_u64 g3, bounds_u64 g4, bounds_u64 g5, bounds_u64 g6, bounds_u64 g7⟩⟩, rfl⟩
set_option maxRecDepth 100000 in
theorem open_spls {a : Option Addr} {len cap : Nat} (h : DataW.Trod enc Tryz.prog W 0 (fun _ => true) true 23 (.slice a len cap) d p) : ∃ l : List SplF, l.length = len ∧ len ≤ 9223372036854775807 ∧ RdL 9 cells9 W a l :=
  open_rows cells9 Tryz.underlying23 (by kernel_rfl) (fun _ => rfl) (by decide) (fun cs y n hl h => open_spl hl h) h
end
end Go.Proofs.YtbimmadllfgmiaaGreat
