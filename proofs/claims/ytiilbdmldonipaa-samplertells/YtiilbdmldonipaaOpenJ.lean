/-
  What comes in: a list of deeds on a sampler (canterlaw10.Op), as the walk reads them. Conditions: none.
-/
import Derived.Test.YtiilbdmldonipaaOpenAny
import Derived.Test.YtiilbdmldonipaaSamSt
namespace Go.Proofs.Ytiilbdmldonipaa
open Go.ChangeShapes Go.WideShapes Go.ChangeAt Go.RowKit Go.Joins Go.Deep
set_option linter.unusedSimpArgs false

structure Job where
  k : Int
  a : Int
  n : Int
  z : Int
  f : Int
  s : Snt
  r : Bool
  hn : Num n
  hz : Num z
  hf : Num f
  hs : s.Fit
def cells11 (j : Job) : List Value := [.int .i64 j.k, .int .i64 j.a, .int .u64 j.n, .int .u64 j.z, .int .u64 j.f, .int .u64 j.s.t, .int .u64 j.s.d, .int .u64 j.s.u, .int .u64 j.s.f, .bool j.s.l, .bool j.r]
section
variable {H : Type} {enc : TypeId × Value → H} {W : World} {d : DataW H} {p : List MemPlace}
theorem open_snt {n : Nat} {cs : List Value} {y : DataW H × List MemPlace} (hl : cs.length = 5) (h : DataW.trod enc Try.prog W 0 (fun _ => true) true n 32 cs = some y) : ∃ x : Snt, x.Fit ∧ cs = [.int .u64 x.t, .int .u64 x.d, .int .u64 x.u, .int .u64 x.f, .bool x.l] := by
  have eu : Try.prog.cellsOf 26 = 1 := by kernel_rfl
  have eb : Try.prog.cellsOf 4 = 1 := by kernel_rfl
  match cs, hl with
  | [u0, u1, u2, u3, u4], _ =>
    obtain ⟨_, _, t0⟩ := trod_field Try.underlying32 h 0 _ rfl
    obtain ⟨_, _, t1⟩ := trod_field Try.underlying32 h 1 _ rfl
    obtain ⟨_, _, t2⟩ := trod_field Try.underlying32 h 2 _ rfl
    obtain ⟨_, _, t3⟩ := trod_field Try.underlying32 h 3 _ rfl
    obtain ⟨_, _, t4⟩ := trod_field Try.underlying32 h 4 _ rfl
    simp only [List.getElem_toArray, List.getElem_cons_zero, List.getElem_cons_succ, eu, eb, List.drop_zero, List.take_succ_cons, List.take_zero, List.drop_succ_cons] at t0 t1 t2 t3 t4
    obtain ⟨q0, f0, _, g0⟩ := DataW.trod_int Try.underlying26 t0
    obtain ⟨q1, f1, _, g1⟩ := DataW.trod_int Try.underlying26 t1
    obtain ⟨q2, f2, _, g2⟩ := DataW.trod_int Try.underlying26 t2
    obtain ⟨q3, f3, _, g3⟩ := DataW.trod_int Try.underlying26 t3
    obtain ⟨q4, f4, _⟩ := DataW.trod_bool Try.underlying4 t4
    simp at f0 f1 f2 f3 f4
    subst f0 f1 f2 f3 f4
    exact ⟨⟨q0, q1, q2, q3, q4⟩, ⟨bounds_u64 g0, bounds_u64 g1, bounds_u64 g2, bounds_u64 g3⟩, rfl⟩
theorem open_jobs {a : Option Addr} {len cap : Nat} (h : DataW.Trod enc Try.prog W 0 (fun _ => true) true 22 (.slice a len cap) d p) : ∃ l : List Job, l.length = len ∧ len ≤ 9223372036854775807 ∧ RdL 11 cells11 W a l := by
  refine open_rows cells11 Try.underlying22 (by kernel_rfl) (fun _ => rfl) (by decide) (fun cs y n hl h => ?_) h
  have eu : Try.prog.cellsOf 26 = 1 := by kernel_rfl
  have eb : Try.prog.cellsOf 4 = 1 := by kernel_rfl
  have ei : Try.prog.cellsOf 3 = 1 := by kernel_rfl
  have es : Try.prog.cellsOf 32 = 5 := by kernel_rfl
  match cs, hl with
  | [u0, u1, u2, u3, u4, u5, u6, u7, u8, u9, u10], _ =>
    obtain ⟨_, _, t0⟩ := trod_field Try.underlying34 h 0 _ rfl
    obtain ⟨_, _, t1⟩ := trod_field Try.underlying34 h 1 _ rfl
    obtain ⟨_, _, t2⟩ := trod_field Try.underlying34 h 2 _ rfl
    obtain ⟨_, _, t3⟩ := trod_field Try.underlying34 h 3 _ rfl
    obtain ⟨_, _, t4⟩ := trod_field Try.underlying34 h 4 _ rfl
    obtain ⟨_, _, t5⟩ := trod_field Try.underlying34 h 5 _ rfl
    obtain ⟨_, _, t6⟩ := trod_field Try.underlying34 h 6 _ rfl
    simp only [List.getElem_toArray, List.getElem_cons_zero, List.getElem_cons_succ, eu, eb, ei, es, List.drop_zero, List.take_succ_cons, List.take_zero, List.drop_succ_cons] at t0 t1 t2 t3 t4 t5 t6
    obtain ⟨q0, f0, _, g0⟩ := DataW.trod_int Try.underlying3 t0
    obtain ⟨q1, f1, _, g1⟩ := DataW.trod_int Try.underlying3 t1
    obtain ⟨q2, f2, _, g2⟩ := DataW.trod_int Try.underlying26 t2
    obtain ⟨q3, f3, _, g3⟩ := DataW.trod_int Try.underlying26 t3
    obtain ⟨q4, f4, _, g4⟩ := DataW.trod_int Try.underlying26 t4
    obtain ⟨x, hx, f5⟩ := open_snt rfl t5
    obtain ⟨q6, f6, _⟩ := DataW.trod_bool Try.underlying4 t6
    simp at f0 f1 f2 f3 f4 f5 f6
    obtain ⟨rfl, rfl, rfl, rfl, rfl⟩ := f5
    subst f0 f1 f2 f3 f4 f6
    exact ⟨⟨q0, q1, q2, q3, q4, x, q6, bounds_u64 g2, bounds_u64 g3, bounds_u64 g4, hx⟩, rfl⟩
end
end Go.Proofs.Ytiilbdmldonipaa
