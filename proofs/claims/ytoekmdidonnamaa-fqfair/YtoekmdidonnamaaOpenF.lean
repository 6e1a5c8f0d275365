/-
  What comes in: a list of things done to a queue (canterlaw20.Op), each with rates of its own, as the walk reads them. Conditions: none.
-/
import Derived.Test.YtoekmdidonnamaaOpenAny
import Derived.Test.YtoekmdidonnamaaSegC
namespace Go.Proofs.Ytoekmdidonnamaa
open Go.ChangeShapes Go.WideShapes Go.ChangeAt Go.RowKit Go.Joins Go.Deep
set_option maxRecDepth 100000
set_option linter.unusedSimpArgs false

/-- One thing done: its rates lie in W. -/
structure FOp (W : World) where
  k : Int
  g : Int
  s : Sg
  a : Option Addr
  cap : Nat
  rs : List Int
  c : Cf
  raw : Bool
  hg : U64 g
  hs : U64 s.f ∧ U64 s.t
  hr : Rd .u64 W a rs
  hb : ∀ r ∈ rs, U64 r
  hc : U64 c.h ∧ U64 c.r
def cells18 {W : World} (o : FOp W) : List Value := [.int .i64 o.k, .int .u64 o.g, .int .i64 o.s.s, .int .u64 o.s.f, .int .i64 o.s.l, .int .u64 o.s.t, .bool o.s.a, .slice o.a o.rs.length o.cap, .int .i64 o.c.q, .int .i64 o.c.f, .int .i64 o.c.l, .int .i64 o.c.w, .int .u64 o.c.h, .int .u64 o.c.r, .bool o.c.d, .int .i64 o.c.k, .int .i64 o.c.m, .bool o.raw]
/-- A number of 64 bits. -/
structure OneU where
  x : Int
  h : U64 x
section
variable {H : Type} {enc : TypeId × Value → H} {W : World} {d : DataW H} {p : List MemPlace}
theorem open_u64s {n : Nat} {u : Value} {y : DataW H × List MemPlace} (h : DataW.trod enc Try.prog W 0 (fun _ => true) true n 35 [u] = some y) : ∃ a cap, ∃ rs : List Int, u = .slice a rs.length cap ∧ Rd .u64 W a rs ∧ ∀ r ∈ rs, U64 r := by
  obtain ⟨a, len, cap, e⟩ := slice_form Try.underlying35 h
  simp at e
  subst e
  have hT : DataW.Trod enc Try.prog W 0 (fun _ => true) true 35 (.slice a len cap) y.1 y.2 := ⟨n, h⟩
  obtain ⟨l, hl, _, hr⟩ := open_rows (fun v : OneU => [Value.int .u64 v.x]) Try.underlying35 (by kernel_rfl) (fun _ => rfl) (by decide) (fun cs z n hl h => by
    match cs, hl with
    | [v], _ =>
      obtain ⟨q, f, _, g⟩ := DataW.trod_int Try.underlying22 h
      simp at f
      subst f
      exact ⟨⟨q, bounds_u64 g⟩, rfl⟩) hT
  refine ⟨a, cap, l.map OneU.x, by rw [List.length_map, hl], fun i hi => ?_, fun r hr' => ?_⟩
  · rw [List.length_map] at hi
    obtain ⟨b, off, e, hlt, hc⟩ := hr i l[i] (List.getElem?_eq_getElem hi)
    refine ⟨b, off, e, hlt, ?_⟩
    have := hc 0 _ rfl
    rw [Nat.mul_one, Nat.add_zero] at this
    rw [this]
    simp [hi]
  · obtain ⟨v, _, rfl⟩ := List.mem_map.1 hr'
    exact v.h
set_option maxRecDepth 100000 in
theorem open_segq {n : Nat} {u0 u1 u2 u3 u4 : Value} {y : DataW H × List MemPlace} (h : DataW.trod enc Try.prog W 0 (fun _ => true) true n 34 [u0, u1, u2, u3, u4] = some y) : ∃ s : Sg, [u0, u1, u2, u3, u4] = [.int .i64 s.s, .int .u64 s.f, .int .i64 s.l, .int .u64 s.t, .bool s.a] ∧ U64 s.f ∧ U64 s.t := by
  have ei : Try.prog.cellsOf 3 = 1 := by kernel_rfl
  have eu : Try.prog.cellsOf 22 = 1 := by kernel_rfl
  have eb : Try.prog.cellsOf 4 = 1 := by kernel_rfl
  obtain ⟨_, _, t0⟩ := trod_field Try.underlying34 h 0 _ rfl
  obtain ⟨_, _, t1⟩ := trod_field Try.underlying34 h 1 _ rfl
  obtain ⟨_, _, t2⟩ := trod_field Try.underlying34 h 2 _ rfl
  obtain ⟨_, _, t3⟩ := trod_field Try.underlying34 h 3 _ rfl
  obtain ⟨_, _, t4⟩ := trod_field Try.underlying34 h 4 _ rfl
  simp only [List.getElem_toArray, List.getElem_cons_zero, List.getElem_cons_succ, ei, eu, eb, List.drop_zero, List.take_succ_cons, List.take_zero, List.drop_succ_cons] at t0 t1 t2 t3 t4
  obtain ⟨q0, f0, _, g0⟩ := DataW.trod_int Try.underlying3 t0
  obtain ⟨q1, f1, _, g1⟩ := DataW.trod_int Try.underlying22 t1
  obtain ⟨q2, f2, _, g2⟩ := DataW.trod_int Try.underlying3 t2
  obtain ⟨q3, f3, _, g3⟩ := DataW.trod_int Try.underlying22 t3
  obtain ⟨q4, f4, _⟩ := DataW.trod_bool Try.underlying4 t4
  simp at f0 f1 f2 f3 f4
  subst f0 f1 f2 f3 f4
  exact ⟨⟨q0, q1, q2, q3, q4⟩, rfl, bounds_u64 g1, bounds_u64 g3⟩
set_option maxRecDepth 100000 in
theorem open_confq {n : Nat} {u0 u1 u2 u3 u4 u5 u6 u7 u8 : Value} {y : DataW H × List MemPlace} (h : DataW.trod enc Try.prog W 0 (fun _ => true) true n 24 [u0, u1, u2, u3, u4, u5, u6, u7, u8] = some y) : ∃ s : Cf, [u0, u1, u2, u3, u4, u5, u6, u7, u8] = [.int .i64 s.q, .int .i64 s.f, .int .i64 s.l, .int .i64 s.w, .int .u64 s.h, .int .u64 s.r, .bool s.d, .int .i64 s.k, .int .i64 s.m] ∧ U64 s.h ∧ U64 s.r := by
  have ei : Try.prog.cellsOf 3 = 1 := by kernel_rfl
  have eu : Try.prog.cellsOf 22 = 1 := by kernel_rfl
  have eb : Try.prog.cellsOf 4 = 1 := by kernel_rfl
  obtain ⟨_, _, t0⟩ := trod_field Try.underlying24 h 0 _ rfl
  obtain ⟨_, _, t1⟩ := trod_field Try.underlying24 h 1 _ rfl
  obtain ⟨_, _, t2⟩ := trod_field Try.underlying24 h 2 _ rfl
  obtain ⟨_, _, t3⟩ := trod_field Try.underlying24 h 3 _ rfl
  obtain ⟨_, _, t4⟩ := trod_field Try.underlying24 h 4 _ rfl
  obtain ⟨_, _, t5⟩ := trod_field Try.underlying24 h 5 _ rfl
  obtain ⟨_, _, t6⟩ := trod_field Try.underlying24 h 6 _ rfl
  obtain ⟨_, _, t7⟩ := trod_field Try.underlying24 h 7 _ rfl
  obtain ⟨_, _, t8⟩ := trod_field Try.underlying24 h 8 _ rfl
  simp only [List.getElem_toArray, List.getElem_cons_zero, List.getElem_cons_succ, ei, eu, eb, List.drop_zero, List.take_succ_cons, List.take_zero, List.drop_succ_cons] at t0 t1 t2 t3 t4 t5 t6 t7 t8
  obtain ⟨q0, f0, _, g0⟩ := DataW.trod_int Try.underlying3 t0
  obtain ⟨q1, f1, _, g1⟩ := DataW.trod_int Try.underlying3 t1
  obtain ⟨q2, f2, _, g2⟩ := DataW.trod_int Try.underlying3 t2
  obtain ⟨q3, f3, _, g3⟩ := DataW.trod_int Try.underlying3 t3
  obtain ⟨q4, f4, _, g4⟩ := DataW.trod_int Try.underlying22 t4
  obtain ⟨q5, f5, _, g5⟩ := DataW.trod_int Try.underlying22 t5
  obtain ⟨q6, f6, _⟩ := DataW.trod_bool Try.underlying4 t6
  obtain ⟨q7, f7, _, g7⟩ := DataW.trod_int Try.underlying3 t7
  obtain ⟨q8, f8, _, g8⟩ := DataW.trod_int Try.underlying3 t8
  simp at f0 f1 f2 f3 f4 f5 f6 f7 f8
  subst f0 f1 f2 f3 f4 f5 f6 f7 f8
  exact ⟨⟨q0, q1, q2, q3, q4, q5, q6, q7, q8⟩, rfl, bounds_u64 g4, bounds_u64 g5⟩
set_option maxRecDepth 100000 in
theorem open_fop {n : Nat} {cs : List Value} {y : DataW H × List MemPlace} (hl : cs.length = 18) (h : DataW.trod enc Try.prog W 0 (fun _ => true) true n 37 cs = some y) : ∃ o : FOp W, cs = cells18 o := by
  have ei : Try.prog.cellsOf 3 = 1 := by kernel_rfl
  have eu : Try.prog.cellsOf 22 = 1 := by kernel_rfl
  have eb : Try.prog.cellsOf 4 = 1 := by kernel_rfl
  have es : Try.prog.cellsOf 34 = 5 := by kernel_rfl
  have er : Try.prog.cellsOf 35 = 1 := by kernel_rfl
  have ec : Try.prog.cellsOf 24 = 9 := by kernel_rfl
  match cs, hl with
  | [u0, u1, u2, u3, u4, u5, u6, u7, u8, u9, u10, u11, u12, u13, u14, u15, u16, u17], _ =>
    obtain ⟨_, _, t0⟩ := trod_field Try.underlying37 h 0 _ rfl
    obtain ⟨_, _, t1⟩ := trod_field Try.underlying37 h 1 _ rfl
    obtain ⟨_, _, t2⟩ := trod_field Try.underlying37 h 2 _ rfl
    obtain ⟨_, _, t3⟩ := trod_field Try.underlying37 h 3 _ rfl
    obtain ⟨_, _, t4⟩ := trod_field Try.underlying37 h 4 _ rfl
    obtain ⟨_, _, t5⟩ := trod_field Try.underlying37 h 5 _ rfl
    simp only [List.getElem_toArray, List.getElem_cons_zero, List.getElem_cons_succ, ei, eu, eb, es, er, ec, List.drop_zero, List.take_succ_cons, List.take_zero, List.drop_succ_cons] at t0 t1 t2 t3 t4 t5
    obtain ⟨q0, f0, _, _⟩ := DataW.trod_int Try.underlying3 t0
    obtain ⟨q1, f1, _, g1⟩ := DataW.trod_int Try.underlying22 t1
    obtain ⟨s, fs, hs⟩ := open_segq t2
    obtain ⟨a, cap, rs, fr, hr, hb⟩ := open_u64s t3
    obtain ⟨c, fc, hc⟩ := open_confq t4
    obtain ⟨q5, f5, _⟩ := DataW.trod_bool Try.underlying4 t5
    simp only [List.cons.injEq, and_true] at f0 f1 fs fc f5
    obtain ⟨rfl, rfl, rfl, rfl, rfl⟩ := fs
    obtain ⟨rfl, rfl, rfl, rfl, rfl, rfl, rfl, rfl, rfl⟩ := fc
    subst f0 f1 fr f5
    exact ⟨⟨q0, q1, s, a, cap, rs, c, q5, bounds_u64 g1, hs, hr, hb, hc⟩, rfl⟩
set_option maxRecDepth 100000 in
theorem open_fops {a : Option Addr} {len cap : Nat} (h : DataW.Trod enc Try.prog W 0 (fun _ => true) true 25 (.slice a len cap) d p) : ∃ l : List (FOp W), l.length = len ∧ len ≤ 9223372036854775807 ∧ RdL 18 cells18 W a l :=
  open_rows cells18 Try.underlying25 (by kernel_rfl) (fun _ => rfl) (by decide) (fun cs y n hl h => open_fop hl h) h
end
end Go.Proofs.Ytoekmdidonnamaa
