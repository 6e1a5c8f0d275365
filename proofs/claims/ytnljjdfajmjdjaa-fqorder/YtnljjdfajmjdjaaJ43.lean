/-
  canterplay: a segment that may be, whatever comes. Conditions: none.
  What comes in: a list of things done to a queue (canterlaw20.Op), each with rates of its own, as the walk reads them. Conditions: none.
  The plain definitions Add, Sub, Mul of package canterref01 answer the same mathematics as package sat. Conditions: the numbers are of their kind.
  What the walks of layer 20's laws over lists of things done share: the config's box, one thing done in a box of 18 cells, rates that came in lie apart from the queue. Conditions: none.
-/
import Derived.Test.YtnljjdfajmjdjaaJ31
import Derived.Test.YtnljjdfajmjdjaaJ35
import Derived.Test.YtnljjdfajmjdjaaJ03
import Derived.Test.YtnljjdfajmjdjaaJ19
import Derived.Test.YtnljjdfajmjdjaaJ40
namespace Go.Proofs.Ytnljjdfajmjdjaa
open Go.RowKit
set_option maxRecDepth 100000
set_option linter.unusedSimpArgs false
set_option linter.unusedVariables false

set_option maxRecDepth 100000 in
set_option maxHeartbeats 1000000 in
theorem plays_any (s : Sg) (w : World) : Calls Try.prog 19 #[s.v] w fun e w' => ∃ z l : Int, e = .returned (Sg.v ⟨z, s.f, l, s.t, s.a⟩) ∧ (0 ≤ z ∧ z < 8) ∧ (1 ≤ l ∧ l ≤ 65536) ∧ Keep (fun _ => False) w w' := by
  obtain ⟨z, f, l, t, a⟩ := s
  obtain ⟨n1, s1, p1, p2, p3, p4, p5, p6⟩ := mod_num z 8 (by decide) (by decide)
  obtain ⟨n2, s2, q1, q2, q3, q4, q5, q6⟩ := mod_num l 65536 (by decide) (by decide)
  have HZ := Lib.hid (show 0 ≤ n1 ∧ n1 < 8 from ⟨p5, p6⟩); have HL := Lib.hid (show 1 ≤ s2 ∧ s2 ≤ 65536 from ⟨by omega, by omega⟩)
  have K := Lib.hid (((Keep.refl (fun _ => False) w).alloc (.cells #[.int .i64 n1, .int .u64 f, .int .i64 s2, .int .u64 t, .bool a] 34)).alloc (.cells #[.int .i64 n1, .int .u64 f, .int .i64 s2, .int .u64 t, .bool a] 34))
  clear p3 p4 p5 p6 q4 q5 q6
  dsimp only [Sg.v]
  go_enter Try.func19, Try.ntmps19
  go_upto_region 3 with fail
  simp only [p1, p2, q1, q2, q3]
  clear p1 p2 q1 q2 q3
  trace_state
  go_wp2
  refine bodyPost_ret (v := .agg #[.int .i64 n1, .int .u64 f, .int .i64 s2, .int .u64 t, .bool a]) (by rw [results_cell1 rfl]; go_simp) rfl ?_
  exact ⟨n1, s2, rfl, HZ.out, HL.out, K.out⟩
end Go.Proofs.Ytnljjdfajmjdjaa
namespace Go.Proofs.Ytnljjdfajmjdjaa
open Go.ChangeShapes Go.WideShapes Go.ChangeAt Go.RowKit Go.Joins Go.Deep
set_option maxRecDepth 100000
set_option linter.unusedSimpArgs false

/-- One thing done: its rates lie in W. -/
structure FOp (W : World) where
  k : Int
  g : Int
  s : Sg
  a : Option Addr
  cap : Nat
  rs : List Int
  c : Cf
  raw : Bool
  hg : U64 g
  hs : U64 s.f ∧ U64 s.t
  hz : a = none → rs.length = 0 ∧ cap = 0
  hr : Rd .u64 W a rs
  hb : ∀ r ∈ rs, U64 r
  hc : U64 c.h ∧ U64 c.r
def cells18 {W : World} (o : FOp W) : List Value := [.int .i64 o.k, .int .u64 o.g, .int .i64 o.s.s, .int .u64 o.s.f, .int .i64 o.s.l, .int .u64 o.s.t, .bool o.s.a, .slice o.a o.rs.length o.cap, .int .i64 o.c.q, .int .i64 o.c.f, .int .i64 o.c.l, .int .i64 o.c.w, .int .u64 o.c.h, .int .u64 o.c.r, .bool o.c.d, .int .i64 o.c.k, .int .i64 o.c.m, .bool o.raw]
/-- A number of 64 bits. -/
structure OneU where
  x : Int
  h : U64 x
section
variable {H : Type} {enc : TypeId × Value → H} {W : World} {d : DataW H} {p : List MemPlace}
theorem open_u64s {n : Nat} {u : Value} {y : DataW H × List MemPlace} (h : DataW.trod enc Try.prog W 0 (fun _ => true) true n 35 [u] = some y) : ∃ a cap, ∃ rs : List Int, u = .slice a rs.length cap ∧ (a = none → rs.length = 0 ∧ cap = 0) ∧ Rd .u64 W a rs ∧ ∀ r ∈ rs, U64 r := by
  obtain ⟨a, len, cap, e⟩ := slice_form Try.underlying35 h
  simp at e
  subst e
  have hz : a = none → len = 0 ∧ cap = 0 := by
    rcases open_slice Try.underlying35 h with ⟨hcs, _⟩ | ⟨x, l, c, m, n, D, Pl, hcs, _⟩
    · simp at hcs
      exact fun _ => ⟨hcs.2.1, hcs.2.2⟩
    · simp at hcs
      intro e
      rw [hcs.1] at e
      cases e
  have hT : DataW.Trod enc Try.prog W 0 (fun _ => true) true 35 (.slice a len cap) y.1 y.2 := ⟨n, h⟩
  obtain ⟨l, hl, _, hr⟩ := open_rows (fun v : OneU => [Value.int .u64 v.x]) Try.underlying35 (by kernel_rfl) (fun _ => rfl) (by decide) (fun cs z n hl h => by
    match cs, hl with
    | [v], _ =>
      obtain ⟨q, f, _, g⟩ := DataW.trod_int Try.underlying22 h
      simp at f
      subst f
      exact ⟨⟨q, bounds_u64 g⟩, rfl⟩) hT
  refine ⟨a, cap, l.map OneU.x, by rw [List.length_map, hl], fun e => by rw [List.length_map, hl]; exact hz e, fun i hi => ?_, fun r hr' => ?_⟩
  · rw [List.length_map] at hi
    obtain ⟨b, off, e, hlt, hc⟩ := hr i l[i] (List.getElem?_eq_getElem hi)
    refine ⟨b, off, e, hlt, ?_⟩
    have := hc 0 _ rfl
    rw [Nat.mul_one, Nat.add_zero] at this
    rw [this]
    simp [hi]
  · obtain ⟨v, _, rfl⟩ := List.mem_map.1 hr'
    exact v.h
set_option maxRecDepth 100000 in
theorem open_segq {n : Nat} {u0 u1 u2 u3 u4 : Value} {y : DataW H × List MemPlace} (h : DataW.trod enc Try.prog W 0 (fun _ => true) true n 34 [u0, u1, u2, u3, u4] = some y) : ∃ s : Sg, [u0, u1, u2, u3, u4] = [.int .i64 s.s, .int .u64 s.f, .int .i64 s.l, .int .u64 s.t, .bool s.a] ∧ U64 s.f ∧ U64 s.t := by
  have ei : Try.prog.cellsOf 3 = 1 := by kernel_rfl
  have eu : Try.prog.cellsOf 22 = 1 := by kernel_rfl
  have eb : Try.prog.cellsOf 4 = 1 := by kernel_rfl
  obtain ⟨_, _, t0⟩ := trod_field Try.underlying34 h 0 _ rfl
  obtain ⟨_, _, t1⟩ := trod_field Try.underlying34 h 1 _ rfl
  obtain ⟨_, _, t2⟩ := trod_field Try.underlying34 h 2 _ rfl
  obtain ⟨_, _, t3⟩ := trod_field Try.underlying34 h 3 _ rfl
  obtain ⟨_, _, t4⟩ := trod_field Try.underlying34 h 4 _ rfl
  simp only [List.getElem_toArray, List.getElem_cons_zero, List.getElem_cons_succ, ei, eu, eb, List.drop_zero, List.take_succ_cons, List.take_zero, List.drop_succ_cons] at t0 t1 t2 t3 t4
  obtain ⟨q0, f0, _, g0⟩ := DataW.trod_int Try.underlying3 t0
  obtain ⟨q1, f1, _, g1⟩ := DataW.trod_int Try.underlying22 t1
  obtain ⟨q2, f2, _, g2⟩ := DataW.trod_int Try.underlying3 t2
  obtain ⟨q3, f3, _, g3⟩ := DataW.trod_int Try.underlying22 t3
  obtain ⟨q4, f4, _⟩ := DataW.trod_bool Try.underlying4 t4
  simp at f0 f1 f2 f3 f4
  subst f0 f1 f2 f3 f4
  exact ⟨⟨q0, q1, q2, q3, q4⟩, rfl, bounds_u64 g1, bounds_u64 g3⟩
set_option maxRecDepth 100000 in
theorem open_confq {n : Nat} {u0 u1 u2 u3 u4 u5 u6 u7 u8 : Value} {y : DataW H × List MemPlace} (h : DataW.trod enc Try.prog W 0 (fun _ => true) true n 24 [u0, u1, u2, u3, u4, u5, u6, u7, u8] = some y) : ∃ s : Cf, [u0, u1, u2, u3, u4, u5, u6, u7, u8] = [.int .i64 s.q, .int .i64 s.f, .int .i64 s.l, .int .i64 s.w, .int .u64 s.h, .int .u64 s.r, .bool s.d, .int .i64 s.k, .int .i64 s.m] ∧ U64 s.h ∧ U64 s.r := by
  have ei : Try.prog.cellsOf 3 = 1 := by kernel_rfl
  have eu : Try.prog.cellsOf 22 = 1 := by kernel_rfl
  have eb : Try.prog.cellsOf 4 = 1 := by kernel_rfl
  obtain ⟨_, _, t0⟩ := trod_field Try.underlying24 h 0 _ rfl
  obtain ⟨_, _, t1⟩ := trod_field Try.underlying24 h 1 _ rfl
  obtain ⟨_, _, t2⟩ := trod_field Try.underlying24 h 2 _ rfl
  obtain ⟨_, _, t3⟩ := trod_field Try.underlying24 h 3 _ rfl
  obtain ⟨_, _, t4⟩ := trod_field Try.underlying24 h 4 _ rfl
  obtain ⟨_, _, t5⟩ := trod_field Try.underlying24 h 5 _ rfl
  obtain ⟨_, _, t6⟩ := trod_field Try.underlying24 h 6 _ rfl
  obtain ⟨_, _, t7⟩ := trod_field Try.underlying24 h 7 _ rfl
  obtain ⟨_, _, t8⟩ := trod_field Try.underlying24 h 8 _ rfl
  simp only [List.getElem_toArray, List.getElem_cons_zero, List.getElem_cons_succ, ei, eu, eb, List.drop_zero, List.take_succ_cons, List.take_zero, List.drop_succ_cons] at t0 t1 t2 t3 t4 t5 t6 t7 t8
  obtain ⟨q0, f0, _, g0⟩ := DataW.trod_int Try.underlying3 t0
  obtain ⟨q1, f1, _, g1⟩ := DataW.trod_int Try.underlying3 t1
  obtain ⟨q2, f2, _, g2⟩ := DataW.trod_int Try.underlying3 t2
  obtain ⟨q3, f3, _, g3⟩ := DataW.trod_int Try.underlying3 t3
  obtain ⟨q4, f4, _, g4⟩ := DataW.trod_int Try.underlying22 t4
  obtain ⟨q5, f5, _, g5⟩ := DataW.trod_int Try.underlying22 t5
  obtain ⟨q6, f6, _⟩ := DataW.trod_bool Try.underlying4 t6
  obtain ⟨q7, f7, _, g7⟩ := DataW.trod_int Try.underlying3 t7
  obtain ⟨q8, f8, _, g8⟩ := DataW.trod_int Try.underlying3 t8
  simp at f0 f1 f2 f3 f4 f5 f6 f7 f8
  subst f0 f1 f2 f3 f4 f5 f6 f7 f8
  exact ⟨⟨q0, q1, q2, q3, q4, q5, q6, q7, q8⟩, rfl, bounds_u64 g4, bounds_u64 g5⟩
set_option maxRecDepth 100000 in
theorem open_fop {n : Nat} {cs : List Value} {y : DataW H × List MemPlace} (hl : cs.length = 18) (h : DataW.trod enc Try.prog W 0 (fun _ => true) true n 37 cs = some y) : ∃ o : FOp W, cs = cells18 o := by
  have ei : Try.prog.cellsOf 3 = 1 := by kernel_rfl
  have eu : Try.prog.cellsOf 22 = 1 := by kernel_rfl
  have eb : Try.prog.cellsOf 4 = 1 := by kernel_rfl
  have es : Try.prog.cellsOf 34 = 5 := by kernel_rfl
  have er : Try.prog.cellsOf 35 = 1 := by kernel_rfl
  have ec : Try.prog.cellsOf 24 = 9 := by kernel_rfl
  match cs, hl with
  | [u0, u1, u2, u3, u4, u5, u6, u7, u8, u9, u10, u11, u12, u13, u14, u15, u16, u17], _ =>
    obtain ⟨_, _, t0⟩ := trod_field Try.underlying37 h 0 _ rfl
    obtain ⟨_, _, t1⟩ := trod_field Try.underlying37 h 1 _ rfl
    obtain ⟨_, _, t2⟩ := trod_field Try.underlying37 h 2 _ rfl
    obtain ⟨_, _, t3⟩ := trod_field Try.underlying37 h 3 _ rfl
    obtain ⟨_, _, t4⟩ := trod_field Try.underlying37 h 4 _ rfl
    obtain ⟨_, _, t5⟩ := trod_field Try.underlying37 h 5 _ rfl
    simp only [List.getElem_toArray, List.getElem_cons_zero, List.getElem_cons_succ, ei, eu, eb, es, er, ec, List.drop_zero, List.take_succ_cons, List.take_zero, List.drop_succ_cons] at t0 t1 t2 t3 t4 t5
    obtain ⟨q0, f0, _, _⟩ := DataW.trod_int Try.underlying3 t0
    obtain ⟨q1, f1, _, g1⟩ := DataW.trod_int Try.underlying22 t1
    obtain ⟨s, fs, hs⟩ := open_segq t2
    obtain ⟨a, cap, rs, fr, hz, hr, hb⟩ := open_u64s t3
    obtain ⟨c, fc, hc⟩ := open_confq t4
    obtain ⟨q5, f5, _⟩ := DataW.trod_bool Try.underlying4 t5
    simp only [List.cons.injEq, and_true] at f0 f1 fs fc f5
    obtain ⟨rfl, rfl, rfl, rfl, rfl⟩ := fs
    obtain ⟨rfl, rfl, rfl, rfl, rfl, rfl, rfl, rfl, rfl⟩ := fc
    subst f0 f1 fr f5
    exact ⟨⟨q0, q1, s, a, cap, rs, c, q5, bounds_u64 g1, hs, hz, hr, hb, hc⟩, rfl⟩
set_option maxRecDepth 100000 in
theorem open_fops {a : Option Addr} {len cap : Nat} (h : DataW.Trod enc Try.prog W 0 (fun _ => true) true 25 (.slice a len cap) d p) : ∃ l : List (FOp W), l.length = len ∧ len ≤ 9223372036854775807 ∧ RdL 18 cells18 W a l :=
  open_rows cells18 Try.underlying25 (by kernel_rfl) (fun _ => rfl) (by decide) (fun cs y n hl h => open_fop hl h) h
end
end Go.Proofs.Ytnljjdfajmjdjaa
namespace Go.Proofs.Ytnljjdfajmjdjaa
open Go.RowKit
set_option maxRecDepth 100000

set_option maxHeartbeats 400000 in
theorem radd_any (a b : Int) (ha0 : 0 ≤ a) (ha : a ≤ 18446744073709551615) (hb0 : 0 ≤ b) (hb : b ≤ 18446744073709551615) (w : World) :
    Calls Try.prog 17 #[.int .u64 a, .int .u64 b] w fun e w' => e = .returned (.int .u64 (satAdd a b)) ∧ w = w' := by
  by_cases h : a + b ≤ 18446744073709551615
  · have Hf := Lib.hid (satAdd_le h)
    have h2 : a ≤ 18446744073709551615 - b := by omega
    go_enter Try.func17, Try.ntmps17
    go_wp2
    go_ret
    exact ⟨ret_int Hf.out.symm, rfl⟩
  · have h : 18446744073709551615 < a + b := by omega
    have h2 : 18446744073709551615 - b < a := by omega
    have Hf := Lib.hid (satAdd_gt h)
    go_enter Try.func17, Try.ntmps17
    go_wp2
    go_ret
    exact ⟨ret_int Hf.out.symm, rfl⟩
end Go.Proofs.Ytnljjdfajmjdjaa
namespace Go.Proofs.Ytnljjdfajmjdjaa
open Go.RowKit
set_option maxRecDepth 100000
set_option linter.unusedSimpArgs false
set_option linter.unusedVariables false

theorem Room.apart_rs {wB w : World} {L : List Thing} {g : Nat} {own : Nat → Prop} {x : Qm} (h : Room wB w (fqT g own x :: L)) {k : IntKind} {a : Option Addr} {rs : List Int} (hr : Rd k wB a rs) : rs ≠ [] → ∀ b off, a = some ⟨b, off, none⟩ → ¬ own b := fun hne b off e ho => by
  have h1 := h.lo (fqT g own x) (List.mem_cons_self ..) b ho
  obtain ⟨b', off', e', hlt, _⟩ := hr 0 (List.length_pos_iff.2 hne)
  rw [e] at e'
  cases e'
  omega
def confT (B : Nat) (c : Cf) : Thing := blkT B 24 (confL c).toArray
theorem one_conf (p : Cf) : (confL p).toArray.all (·.oneCell') = true := all_oneCell_toArray (fun u hu => by
  simp only [confL, List.mem_cons, List.not_mem_nil, or_false] at hu
  rcases hu with rfl | rfl | rfl | rfl | rfl | rfl | rfl | rfl | rfl <;> rfl)
theorem there_conf {W : World} {B : Nat} {c : Cf} (h : Whole W B 24 (confL c).toArray) : W.there B 0 9 := fun j hj => by
  rw [Nat.zero_add]
  exact ⟨by rw [h.cell, List.getElem?_toArray, conf_get c hj]; rfl, h.free j⟩
theorem whole_conf {W : World} {B : Nat} {c p : Cf} (h : Whole W B 24 (confL c).toArray) : Whole (W.setCells B 0 (confL p)) B 24 (confL p).toArray := by
  have h1 := h.puts (confL p) 0
  rwa [show Lib.lay (confL c).toArray 0 (confL p) = (confL p).toArray from lay_full (confL c).toArray (confL p).toArray rfl] at h1
def Nine (W : World) (B : Nat) (c : Cf) : Prop := W.cell? ⟨B, 0, none⟩ = some (.int .i64 c.q) ∧ W.cell? ⟨B, 1, none⟩ = some (.int .i64 c.f) ∧ W.cell? ⟨B, 2, none⟩ = some (.int .i64 c.l) ∧ W.cell? ⟨B, 3, none⟩ = some (.int .i64 c.w) ∧ W.cell? ⟨B, 4, none⟩ = some (.int .u64 c.h) ∧ W.cell? ⟨B, 5, none⟩ = some (.int .u64 c.r) ∧ W.cell? ⟨B, 6, none⟩ = some (.bool c.d) ∧ W.cell? ⟨B, 7, none⟩ = some (.int .i64 c.k) ∧ W.cell? ⟨B, 8, none⟩ = some (.int .i64 c.m)
theorem nine_of {W : World} {B : Nat} {c : Cf} (h : Whole W B 24 (confL c).toArray) : Nine W B c := by
  have e : ∀ j, j < 9 → W.cell? ⟨B, j, none⟩ = some (cfV c j) := fun j hj => (h.cell j).trans (by rw [List.getElem?_toArray]; exact conf_get c hj)
  exact ⟨e 0 (by omega), e 1 (by omega), e 2 (by omega), e 3 (by omega), e 4 (by omega), e 5 (by omega), e 6 (by omega), e 7 (by omega), e 8 (by omega)⟩
theorem Try.size37 : (Try.prog.info? 37).map (·.size) = some 18 := by kernel_rfl
theorem one_op {W : World} (o : FOp W) : (cells18 o).toArray.all (·.oneCell') = true := all_oneCell_toArray (fun u hu => by
  simp only [cells18, List.mem_cons, List.not_mem_nil, or_false] at hu
  rcases hu with rfl | rfl | rfl | rfl | rfl | rfl | rfl | rfl | rfl | rfl | rfl | rfl | rfl | rfl | rfl | rfl | rfl | rfl <;> rfl)
end Go.Proofs.Ytnljjdfajmjdjaa
