/-
  What comes in: a segment, a config, as the walk reads them. Conditions: none.
-/
import Derived.Test.YtnljjdfajmjdjaaGreatJ44
import Derived.Test.YtnljjdfajmjdjaaGreatJ03
namespace Go.Proofs.YtnljjdfajmjdjaaGreat
open Go.ChangeShapes Go.WideShapes Go.ChangeAt Go.RowKit Go.Joins Go.Deep
set_option maxRecDepth 100000
set_option linter.unusedSimpArgs false

section
variable {H : Type} {enc : TypeId × Value → H} {W : World} {d : DataW H} {p : List MemPlace}
set_option maxRecDepth 100000 in
theorem open_seg {r : Reach} {b0 : Nat} {v : Value} (hv : Value.okWide Tryz.prog W r b0 44 v) (h : DataW.Trod enc Tryz.prog W 0 (fun _ => true) true 44 v d p) : ∃ s : Sg, v = s.v ∧ U64 s.f ∧ U64 s.t := by
  have ei : Tryz.prog.cellsOf 3 = 1 := by kernel_rfl
  have eu : Tryz.prog.cellsOf 22 = 1 := by kernel_rfl
  have eb : Tryz.prog.cellsOf 4 = 1 := by kernel_rfl
  have ec : Tryz.prog.cellsOf 44 = 5 := by kernel_rfl
  obtain ⟨cs, rfl, hsz⟩ := okWide_struct Tryz.underlying44 hv
  rw [ec] at hsz
  obtain ⟨cs⟩ := cs
  have hl : cs.length = 5 := hsz
  obtain ⟨fuel, h⟩ := h
  match cs, hl with
  | [u0, u1, u2, u3, u4], _ =>
    replace h : DataW.trod enc Tryz.prog W 0 (fun _ => true) true fuel 44 [u0, u1, u2, u3, u4] = some (d, p) := h
    obtain ⟨_, _, t0⟩ := trod_field Tryz.underlying44 h 0 _ rfl
    obtain ⟨_, _, t1⟩ := trod_field Tryz.underlying44 h 1 _ rfl
    obtain ⟨_, _, t2⟩ := trod_field Tryz.underlying44 h 2 _ rfl
    obtain ⟨_, _, t3⟩ := trod_field Tryz.underlying44 h 3 _ rfl
    obtain ⟨_, _, t4⟩ := trod_field Tryz.underlying44 h 4 _ rfl
    simp only [List.getElem_toArray, List.getElem_cons_zero, List.getElem_cons_succ, ei, eu, eb, List.drop_zero, List.take_succ_cons, List.take_zero, List.drop_succ_cons] at t0 t1 t2 t3 t4
    obtain ⟨q0, f0, _, g0⟩ := DataW.trod_int Tryz.underlying3 t0
    obtain ⟨q1, f1, _, g1⟩ := DataW.trod_int Tryz.underlying22 t1
    obtain ⟨q2, f2, _, g2⟩ := DataW.trod_int Tryz.underlying3 t2
    obtain ⟨q3, f3, _, g3⟩ := DataW.trod_int Tryz.underlying22 t3
    obtain ⟨q4, f4, _⟩ := DataW.trod_bool Tryz.underlying4 t4
    simp at f0 f1 f2 f3 f4
    subst f0 f1 f2 f3 f4
    exact ⟨⟨q0, q1, q2, q3, q4⟩, rfl, bounds_u64 g1, bounds_u64 g3⟩
set_option maxRecDepth 100000 in
theorem open_conf {r : Reach} {b0 : Nat} {v : Value} (hv : Value.okWide Tryz.prog W r b0 24 v) (h : DataW.Trod enc Tryz.prog W 0 (fun _ => true) true 24 v d p) : ∃ s : Cf, v = s.v ∧ U64 s.h ∧ U64 s.r := by
  have ei : Tryz.prog.cellsOf 3 = 1 := by kernel_rfl
  have eu : Tryz.prog.cellsOf 22 = 1 := by kernel_rfl
  have eb : Tryz.prog.cellsOf 4 = 1 := by kernel_rfl
  have ec : Tryz.prog.cellsOf 24 = 9 := by kernel_rfl
  obtain ⟨cs, rfl, hsz⟩ := okWide_struct Tryz.underlying24 hv
  rw [ec] at hsz
  obtain ⟨cs⟩ := cs
  have hl : cs.length = 9 := hsz
  obtain ⟨fuel, h⟩ := h
  match cs, hl with
  | [u0, u1, u2, u3, u4, u5, u6, u7, u8], _ =>
    replace h : DataW.trod enc Tryz.prog W 0 (fun _ => true) true fuel 24 [u0, u1, u2, u3, u4, u5, u6, u7, u8] = some (d, p) := h
    obtain ⟨_, _, t0⟩ := trod_field Tryz.underlying24 h 0 _ rfl
    obtain ⟨_, _, t1⟩ := trod_field Tryz.underlying24 h 1 _ rfl
    obtain ⟨_, _, t2⟩ := trod_field Tryz.underlying24 h 2 _ rfl
    obtain ⟨_, _, t3⟩ := trod_field Tryz.underlying24 h 3 _ rfl
    obtain ⟨_, _, t4⟩ := trod_field Tryz.underlying24 h 4 _ rfl
    obtain ⟨_, _, t5⟩ := trod_field Tryz.underlying24 h 5 _ rfl
    obtain ⟨_, _, t6⟩ := trod_field Tryz.underlying24 h 6 _ rfl
    obtain ⟨_, _, t7⟩ := trod_field Tryz.underlying24 h 7 _ rfl
    obtain ⟨_, _, t8⟩ := trod_field Tryz.underlying24 h 8 _ rfl
    simp only [List.getElem_toArray, List.getElem_cons_zero, List.getElem_cons_succ, ei, eu, eb, List.drop_zero, List.take_succ_cons, List.take_zero, List.drop_succ_cons] at t0 t1 t2 t3 t4 t5 t6 t7 t8
    obtain ⟨q0, f0, _, g0⟩ := DataW.trod_int Tryz.underlying3 t0
    obtain ⟨q1, f1, _, g1⟩ := DataW.trod_int Tryz.underlying3 t1
    obtain ⟨q2, f2, _, g2⟩ := DataW.trod_int Tryz.underlying3 t2
    obtain ⟨q3, f3, _, g3⟩ := DataW.trod_int Tryz.underlying3 t3
    obtain ⟨q4, f4, _, g4⟩ := DataW.trod_int Tryz.underlying22 t4
    obtain ⟨q5, f5, _, g5⟩ := DataW.trod_int Tryz.underlying22 t5
    obtain ⟨q6, f6, _⟩ := DataW.trod_bool Tryz.underlying4 t6
    obtain ⟨q7, f7, _, g7⟩ := DataW.trod_int Tryz.underlying3 t7
    obtain ⟨q8, f8, _, g8⟩ := DataW.trod_int Tryz.underlying3 t8
    simp at f0 f1 f2 f3 f4 f5 f6 f7 f8
    subst f0 f1 f2 f3 f4 f5 f6 f7 f8
    exact ⟨⟨q0, q1, q2, q3, q4, q5, q6, q7, q8⟩, rfl, bounds_u64 g4, bounds_u64 g5⟩
end
end Go.Proofs.YtnljjdfajmjdjaaGreat
