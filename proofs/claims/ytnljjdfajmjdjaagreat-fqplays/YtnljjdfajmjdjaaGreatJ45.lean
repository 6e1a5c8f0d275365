/-
  What comes in: a list of things done to a queue (canterlaw20.Op), each with rates of its own, as the walk reads them. Conditions: none.
  What the walks of layer 20's laws over lists of things done share: the config's box, one thing done in a box of 18 cells, rates that came in lie apart from the queue. Conditions: none.
  The document's queue (canterref20.Queue) as a thing of a room: each call on it; a new one. Conditions: it is the room's first thing.
  canterhelp.Plain of segments, canterhelp.Flow: two that are alike are told to be alike. Conditions: they lie in memory as slices do.
-/
import Derived.Test.YtnljjdfajmjdjaaGreatJ44
import Derived.Test.YtnljjdfajmjdjaaGreatJ03
import Derived.Test.YtnljjdfajmjdjaaGreatJ41
import Derived.Test.YtnljjdfajmjdjaaGreatJ43
import Derived.Test.YtnljjdfajmjdjaaGreatJ01
import Derived.Test.YtnljjdfajmjdjaaGreatJ07
import Derived.Test.YtnljjdfajmjdjaaGreatChecked
import Derived.WalkSpells
import Derived.WalkLawsBesides
import Derived.LoopTactic
import Derived.OwnWalk
import Derived.Deep.QuietTactic
import Derived.BigQuiet
import Derived.Deep.DeepCutAuto
namespace Go.Proofs.YtnljjdfajmjdjaaGreat
open Go.ChangeShapes Go.WideShapes Go.ChangeAt Go.RowKit Go.Joins Go.Deep
set_option maxRecDepth 100000
set_option linter.unusedSimpArgs false

/-- One thing done: its rates lie in W. -/
structure FOp (W : World) where
  k : Int
  g : Int
  s : Sg
  a : Option Addr
  cap : Nat
  rs : List Int
  c : Cf
  raw : Bool
  hg : U64 g
  hs : U64 s.f ∧ U64 s.t
  hz : a = none → rs.length = 0 ∧ cap = 0
  hr : Rd .u64 W a rs
  hb : ∀ r ∈ rs, U64 r
  hc : U64 c.h ∧ U64 c.r
def cells18 {W : World} (o : FOp W) : List Value := [.int .i64 o.k, .int .u64 o.g, .int .i64 o.s.s, .int .u64 o.s.f, .int .i64 o.s.l, .int .u64 o.s.t, .bool o.s.a, .slice o.a o.rs.length o.cap, .int .i64 o.c.q, .int .i64 o.c.f, .int .i64 o.c.l, .int .i64 o.c.w, .int .u64 o.c.h, .int .u64 o.c.r, .bool o.c.d, .int .i64 o.c.k, .int .i64 o.c.m, .bool o.raw]
/-- A number of 64 bits. -/
structure OneU where
  x : Int
  h : U64 x
section
variable {H : Type} {enc : TypeId × Value → H} {W : World} {d : DataW H} {p : List MemPlace}
theorem open_u64s {n : Nat} {u : Value} {y : DataW H × List MemPlace} (h : DataW.trod enc Tryz.prog W 0 (fun _ => true) true n 45 [u] = some y) : ∃ a cap, ∃ rs : List Int, u = .slice a rs.length cap ∧ (a = none → rs.length = 0 ∧ cap = 0) ∧ Rd .u64 W a rs ∧ ∀ r ∈ rs, U64 r := by
  obtain ⟨a, len, cap, e⟩ := slice_form Tryz.underlying45 h
  simp at e
  subst e
  have hz : a = none → len = 0 ∧ cap = 0 := by
    rcases open_slice Tryz.underlying45 h with ⟨hcs, _⟩ | ⟨x, l, c, m, n, D, Pl, hcs, _⟩
    · simp at hcs
      exact fun _ => ⟨hcs.2.1, hcs.2.2⟩
    · simp at hcs
      intro e
      rw [hcs.1] at e
      cases e
  have hT : DataW.Trod enc Tryz.prog W 0 (fun _ => true) true 45 (.slice a len cap) y.1 y.2 := ⟨n, h⟩
  obtain ⟨l, hl, _, hr⟩ := open_rows (fun v : OneU => [Value.int .u64 v.x]) Tryz.underlying45 (by kernel_rfl) (fun _ => rfl) (by decide) (fun cs z n hl h => by
    match cs, hl with
    | [v], _ =>
      obtain ⟨q, f, _, g⟩ := DataW.trod_int Tryz.underlying22 h
      simp at f
      subst f
      exact ⟨⟨q, bounds_u64 g⟩, rfl⟩) hT
  refine ⟨a, cap, l.map OneU.x, by rw [List.length_map, hl], fun e => by rw [List.length_map, hl]; exact hz e, fun i hi => ?_, fun r hr' => ?_⟩
  · rw [List.length_map] at hi
    obtain ⟨b, off, e, hlt, hc⟩ := hr i l[i] (List.getElem?_eq_getElem hi)
    refine ⟨b, off, e, hlt, ?_⟩
    have := hc 0 _ rfl
    rw [Nat.mul_one, Nat.add_zero] at this
    rw [this]
    simp [hi]
  · obtain ⟨v, _, rfl⟩ := List.mem_map.1 hr'
    exact v.h
set_option maxRecDepth 100000 in
theorem open_segq {n : Nat} {u0 u1 u2 u3 u4 : Value} {y : DataW H × List MemPlace} (h : DataW.trod enc Tryz.prog W 0 (fun _ => true) true n 44 [u0, u1, u2, u3, u4] = some y) : ∃ s : Sg, [u0, u1, u2, u3, u4] = [.int .i64 s.s, .int .u64 s.f, .int .i64 s.l, .int .u64 s.t, .bool s.a] ∧ U64 s.f ∧ U64 s.t := by
  have ei : Tryz.prog.cellsOf 3 = 1 := by kernel_rfl
  have eu : Tryz.prog.cellsOf 22 = 1 := by kernel_rfl
  have eb : Tryz.prog.cellsOf 4 = 1 := by kernel_rfl
  obtain ⟨_, _, t0⟩ := trod_field Tryz.underlying44 h 0 _ rfl
  obtain ⟨_, _, t1⟩ := trod_field Tryz.underlying44 h 1 _ rfl
  obtain ⟨_, _, t2⟩ := trod_field Tryz.underlying44 h 2 _ rfl
  obtain ⟨_, _, t3⟩ := trod_field Tryz.underlying44 h 3 _ rfl
  obtain ⟨_, _, t4⟩ := trod_field Tryz.underlying44 h 4 _ rfl
  simp only [List.getElem_toArray, List.getElem_cons_zero, List.getElem_cons_succ, ei, eu, eb, List.drop_zero, List.take_succ_cons, List.take_zero, List.drop_succ_cons] at t0 t1 t2 t3 t4
  obtain ⟨q0, f0, _, g0⟩ := DataW.trod_int Tryz.underlying3 t0
  obtain ⟨q1, f1, _, g1⟩ := DataW.trod_int Tryz.underlying22 t1
  obtain ⟨q2, f2, _, g2⟩ := DataW.trod_int Tryz.underlying3 t2
  obtain ⟨q3, f3, _, g3⟩ := DataW.trod_int Tryz.underlying22 t3
  obtain ⟨q4, f4, _⟩ := DataW.trod_bool Tryz.underlying4 t4
  simp at f0 f1 f2 f3 f4
  subst f0 f1 f2 f3 f4
  exact ⟨⟨q0, q1, q2, q3, q4⟩, rfl, bounds_u64 g1, bounds_u64 g3⟩
set_option maxRecDepth 100000 in
theorem open_confq {n : Nat} {u0 u1 u2 u3 u4 u5 u6 u7 u8 : Value} {y : DataW H × List MemPlace} (h : DataW.trod enc Tryz.prog W 0 (fun _ => true) true n 24 [u0, u1, u2, u3, u4, u5, u6, u7, u8] = some y) : ∃ s : Cf, [u0, u1, u2, u3, u4, u5, u6, u7, u8] = [.int .i64 s.q, .int .i64 s.f, .int .i64 s.l, .int .i64 s.w, .int .u64 s.h, .int .u64 s.r, .bool s.d, .int .i64 s.k, .int .i64 s.m] ∧ U64 s.h ∧ U64 s.r := by
  have ei : Tryz.prog.cellsOf 3 = 1 := by kernel_rfl
  have eu : Tryz.prog.cellsOf 22 = 1 := by kernel_rfl
  have eb : Tryz.prog.cellsOf 4 = 1 := by kernel_rfl
  obtain ⟨_, _, t0⟩ := trod_field Tryz.underlying24 h 0 _ rfl
  obtain ⟨_, _, t1⟩ := trod_field Tryz.underlying24 h 1 _ rfl
  obtain ⟨_, _, t2⟩ := trod_field Tryz.underlying24 h 2 _ rfl
  obtain ⟨_, _, t3⟩ := trod_field Tryz.underlying24 h 3 _ rfl
  obtain ⟨_, _, t4⟩ := trod_field Tryz.underlying24 h 4 _ rfl
  obtain ⟨_, _, t5⟩ := trod_field Tryz.underlying24 h 5 _ rfl
  obtain ⟨_, _, t6⟩ := trod_field Tryz.underlying24 h 6 _ rfl
  obtain ⟨_, _, t7⟩ := trod_field Tryz.underlying24 h 7 _ rfl
  obtain ⟨_, _, t8⟩ := trod_field Tryz.underlying24 h 8 _ rfl
  simp only [List.getElem_toArray, List.getElem_cons_zero, List.getElem_cons_succ, ei, eu, eb, List.drop_zero, List.take_succ_cons, List.take_zero, List.drop_succ_cons] at t0 t1 t2 t3 t4 t5 t6 t7 t8
  obtain ⟨q0, f0, _, g0⟩ := DataW.trod_int Tryz.underlying3 t0
  obtain ⟨q1, f1, _, g1⟩ := DataW.trod_int Tryz.underlying3 t1
  obtain ⟨q2, f2, _, g2⟩ := DataW.trod_int Tryz.underlying3 t2
  obtain ⟨q3, f3, _, g3⟩ := DataW.trod_int Tryz.underlying3 t3
  obtain ⟨q4, f4, _, g4⟩ := DataW.trod_int Tryz.underlying22 t4
  obtain ⟨q5, f5, _, g5⟩ := DataW.trod_int Tryz.underlying22 t5
  obtain ⟨q6, f6, _⟩ := DataW.trod_bool Tryz.underlying4 t6
  obtain ⟨q7, f7, _, g7⟩ := DataW.trod_int Tryz.underlying3 t7
  obtain ⟨q8, f8, _, g8⟩ := DataW.trod_int Tryz.underlying3 t8
  simp at f0 f1 f2 f3 f4 f5 f6 f7 f8
  subst f0 f1 f2 f3 f4 f5 f6 f7 f8
  exact ⟨⟨q0, q1, q2, q3, q4, q5, q6, q7, q8⟩, rfl, bounds_u64 g4, bounds_u64 g5⟩
set_option maxRecDepth 100000 in
theorem open_fop {n : Nat} {cs : List Value} {y : DataW H × List MemPlace} (hl : cs.length = 18) (h : DataW.trod enc Tryz.prog W 0 (fun _ => true) true n 47 cs = some y) : ∃ o : FOp W, cs = cells18 o := by
  have ei : Tryz.prog.cellsOf 3 = 1 := by kernel_rfl
  have eu : Tryz.prog.cellsOf 22 = 1 := by kernel_rfl
  have eb : Tryz.prog.cellsOf 4 = 1 := by kernel_rfl
  have es : Tryz.prog.cellsOf 44 = 5 := by kernel_rfl
  have er : Tryz.prog.cellsOf 45 = 1 := by kernel_rfl
  have ec : Tryz.prog.cellsOf 24 = 9 := by kernel_rfl
  match cs, hl with
  | [u0, u1, u2, u3, u4, u5, u6, u7, u8, u9, u10, u11, u12, u13, u14, u15, u16, u17], _ =>
    obtain ⟨_, _, t0⟩ := trod_field Tryz.underlying47 h 0 _ rfl
    obtain ⟨_, _, t1⟩ := trod_field Tryz.underlying47 h 1 _ rfl
    obtain ⟨_, _, t2⟩ := trod_field Tryz.underlying47 h 2 _ rfl
    obtain ⟨_, _, t3⟩ := trod_field Tryz.underlying47 h 3 _ rfl
    obtain ⟨_, _, t4⟩ := trod_field Tryz.underlying47 h 4 _ rfl
    obtain ⟨_, _, t5⟩ := trod_field Tryz.underlying47 h 5 _ rfl
    simp only [List.getElem_toArray, List.getElem_cons_zero, List.getElem_cons_succ, ei, eu, eb, es, er, ec, List.drop_zero, List.take_succ_cons, List.take_zero, List.drop_succ_cons] at t0 t1 t2 t3 t4 t5
    obtain ⟨q0, f0, _, _⟩ := DataW.trod_int Tryz.underlying3 t0
    obtain ⟨q1, f1, _, g1⟩ := DataW.trod_int Tryz.underlying22 t1
    obtain ⟨s, fs, hs⟩ := open_segq t2
    obtain ⟨a, cap, rs, fr, hz, hr, hb⟩ := open_u64s t3
    obtain ⟨c, fc, hc⟩ := open_confq t4
    obtain ⟨q5, f5, _⟩ := DataW.trod_bool Tryz.underlying4 t5
    simp only [List.cons.injEq, and_true] at f0 f1 fs fc f5
    obtain ⟨rfl, rfl, rfl, rfl, rfl⟩ := fs
    obtain ⟨rfl, rfl, rfl, rfl, rfl, rfl, rfl, rfl, rfl⟩ := fc
    subst f0 f1 fr f5
    exact ⟨⟨q0, q1, s, a, cap, rs, c, q5, bounds_u64 g1, hs, hz, hr, hb, hc⟩, rfl⟩
set_option maxRecDepth 100000 in
theorem open_fops {a : Option Addr} {len cap : Nat} (h : DataW.Trod enc Tryz.prog W 0 (fun _ => true) true 25 (.slice a len cap) d p) : ∃ l : List (FOp W), l.length = len ∧ len ≤ 9223372036854775807 ∧ RdL 18 cells18 W a l :=
  open_rows cells18 Tryz.underlying25 (by kernel_rfl) (fun _ => rfl) (by decide) (fun cs y n hl h => open_fop hl h) h
end
end Go.Proofs.YtnljjdfajmjdjaaGreat
namespace Go.Proofs.YtnljjdfajmjdjaaGreat
open Go.RowKit
set_option maxRecDepth 100000
set_option linter.unusedSimpArgs false
set_option linter.unusedVariables false

theorem Room.apart_rs {wB w : World} {L : List Thing} {g : Nat} {own : Nat → Prop} {x : Qm} (h : Room wB w (fqT g own x :: L)) {k : IntKind} {a : Option Addr} {rs : List Int} (hr : Rd k wB a rs) : rs ≠ [] → ∀ b off, a = some ⟨b, off, none⟩ → ¬ own b := fun hne b off e ho => by
  have h1 := h.lo (fqT g own x) (List.mem_cons_self ..) b ho
  obtain ⟨b', off', e', hlt, _⟩ := hr 0 (List.length_pos_iff.2 hne)
  rw [e] at e'
  cases e'
  omega
def confT (B : Nat) (c : Cf) : Thing := blkT B 24 (confL c).toArray
theorem one_conf (p : Cf) : (confL p).toArray.all (·.oneCell') = true := all_oneCell_toArray (fun u hu => by
  simp only [confL, List.mem_cons, List.not_mem_nil, or_false] at hu
  rcases hu with rfl | rfl | rfl | rfl | rfl | rfl | rfl | rfl | rfl <;> rfl)
theorem there_conf {W : World} {B : Nat} {c : Cf} (h : Whole W B 24 (confL c).toArray) : W.there B 0 9 := fun j hj => by
  rw [Nat.zero_add]
  exact ⟨by rw [h.cell, List.getElem?_toArray, conf_get c hj]; rfl, h.free j⟩
theorem whole_conf {W : World} {B : Nat} {c p : Cf} (h : Whole W B 24 (confL c).toArray) : Whole (W.setCells B 0 (confL p)) B 24 (confL p).toArray := by
  have h1 := h.puts (confL p) 0
  rwa [show Lib.lay (confL c).toArray 0 (confL p) = (confL p).toArray from lay_full (confL c).toArray (confL p).toArray rfl] at h1
def Nine (W : World) (B : Nat) (c : Cf) : Prop := W.cell? ⟨B, 0, none⟩ = some (.int .i64 c.q) ∧ W.cell? ⟨B, 1, none⟩ = some (.int .i64 c.f) ∧ W.cell? ⟨B, 2, none⟩ = some (.int .i64 c.l) ∧ W.cell? ⟨B, 3, none⟩ = some (.int .i64 c.w) ∧ W.cell? ⟨B, 4, none⟩ = some (.int .u64 c.h) ∧ W.cell? ⟨B, 5, none⟩ = some (.int .u64 c.r) ∧ W.cell? ⟨B, 6, none⟩ = some (.bool c.d) ∧ W.cell? ⟨B, 7, none⟩ = some (.int .i64 c.k) ∧ W.cell? ⟨B, 8, none⟩ = some (.int .i64 c.m)
theorem nine_of {W : World} {B : Nat} {c : Cf} (h : Whole W B 24 (confL c).toArray) : Nine W B c := by
  have e : ∀ j, j < 9 → W.cell? ⟨B, j, none⟩ = some (cfV c j) := fun j hj => (h.cell j).trans (by rw [List.getElem?_toArray]; exact conf_get c hj)
  exact ⟨e 0 (by omega), e 1 (by omega), e 2 (by omega), e 3 (by omega), e 4 (by omega), e 5 (by omega), e 6 (by omega), e 7 (by omega), e 8 (by omega)⟩
theorem Tryz.size37 : (Tryz.prog.info? 47).map (·.size) = some 18 := by kernel_rfl
theorem one_op {W : World} (o : FOp W) : (cells18 o).toArray.all (·.oneCell') = true := all_oneCell_toArray (fun u hu => by
  simp only [cells18, List.mem_cons, List.not_mem_nil, or_false] at hu
  rcases hu with rfl | rfl | rfl | rfl | rfl | rfl | rfl | rfl | rfl | rfl | rfl | rfl | rfl | rfl | rfl | rfl | rfl | rfl <;> rfl)
end Go.Proofs.YtnljjdfajmjdjaaGreat
namespace Go.Proofs.YtnljjdfajmjdjaaGreat
open Go.RowKit
set_option maxRecDepth 100000
set_option linter.unusedSimpArgs false
set_option linter.unusedVariables false

def rqT (g : Nat) (own : Nat → Prop) (x : Qm) : Thing :=
  ⟨fun w => ∃ cs v n o, RQ w g cs v n o x ∧ x.Ok ∧ ∀ k, own k ↔ RQown g v n o k, own,
   fun {w w' S} h hk hs => by
     obtain ⟨cs, v, n, o, hq, hx, ho⟩ := h
     exact ⟨cs, v, n, o, hq.keep hk (fun k e e2 => hs k ((ho k).2 e2) e), hx, ho⟩,
   fun {w k} h e => by
     obtain ⟨cs, v, n, o, hq, _, ho⟩ := h
     exact hq.lt ((ho k).1 e)⟩
/-! ### A new one; a new config -/
/-- The cells of a new one. -/
def rq0 (c : Cf) : Array Value := #[.int .i64 c.q, .int .i64 c.f, .int .i64 c.l, .int .i64 c.w, .int .u64 c.h, .int .u64 c.r, .bool c.d, .int .i64 c.k, .int .i64 c.m, .int .i64 0, .int .i64 0, .int .i64 0, .int .u64 0, .int .u64 0, .slice none 0 0, .int .i64 0, .int .i64 0, .int .i64 0, .int .u64 0, .int .u64 0, .slice none 0 0, .int .i64 0, .int .i64 0, .int .i64 0, .int .u64 0, .int .u64 0, .slice none 0 0, .int .i64 0, .int .i64 0, .int .i64 0, .int .u64 0, .int .u64 0, .slice none 0 0, .int .i64 0, .int .i64 0, .int .i64 0, .int .u64 0, .int .u64 0, .slice none 0 0, .int .i64 0, .int .i64 0, .int .i64 0, .int .u64 0, .int .u64 0, .slice none 0 0, .int .i64 0, .int .i64 0, .int .i64 0, .int .u64 0, .int .u64 0, .slice none 0 0, .int .i64 0, .int .i64 0, .int .i64 0, .int .u64 0, .int .u64 0, .slice none 0 0, .bool false, .bool false, .bool false, .bool false, .bool false, .bool false, .bool false, .bool false, .slice none 0 0, .slice none 0 0]
theorem rq_new (w : World) (c : Cf) : RQ (w.alloc (.cells (rq0 c) 41)) w.heap.size (rq0 c) (fun _ => nilV) nilV nilV (newQ c) where
  c := ⟨rfl, fun j hj => match j, hj with
    | 0, _ => rfl
    | 1, _ => rfl
    | 2, _ => rfl
    | 3, _ => rfl
    | 4, _ => rfl
    | 5, _ => rfl
    | 6, _ => rfl
    | 7, _ => rfl
    | 8, _ => rfl, fun i hi j hj => match i, hi with
    | 0, _ => match j, hj with
      | 0, _ => rfl
      | 1, _ => rfl
      | 2, _ => rfl
      | 3, _ => rfl
      | 4, _ => rfl
      | 5, _ => rfl
    | 1, _ => match j, hj with
      | 0, _ => rfl
      | 1, _ => rfl
      | 2, _ => rfl
      | 3, _ => rfl
      | 4, _ => rfl
      | 5, _ => rfl
    | 2, _ => match j, hj with
      | 0, _ => rfl
      | 1, _ => rfl
      | 2, _ => rfl
      | 3, _ => rfl
      | 4, _ => rfl
      | 5, _ => rfl
    | 3, _ => match j, hj with
      | 0, _ => rfl
      | 1, _ => rfl
      | 2, _ => rfl
      | 3, _ => rfl
      | 4, _ => rfl
      | 5, _ => rfl
    | 4, _ => match j, hj with
      | 0, _ => rfl
      | 1, _ => rfl
      | 2, _ => rfl
      | 3, _ => rfl
      | 4, _ => rfl
      | 5, _ => rfl
    | 5, _ => match j, hj with
      | 0, _ => rfl
      | 1, _ => rfl
      | 2, _ => rfl
      | 3, _ => rfl
      | 4, _ => rfl
      | 5, _ => rfl
    | 6, _ => match j, hj with
      | 0, _ => rfl
      | 1, _ => rfl
      | 2, _ => rfl
      | 3, _ => rfl
      | 4, _ => rfl
      | 5, _ => rfl
    | 7, _ => match j, hj with
      | 0, _ => rfl
      | 1, _ => rfl
      | 2, _ => rfl
      | 3, _ => rfl
      | 4, _ => rfl
      | 5, _ => rfl, fun i hi => match i, hi with
    | 0, _ => rfl
    | 1, _ => rfl
    | 2, _ => rfl
    | 3, _ => rfl
    | 4, _ => rfl
    | 5, _ => rfl
    | 6, _ => rfl
    | 7, _ => rfl⟩
  l := ⟨Whole.new _ _ _, rfl, rfl, Owns.nil _ _, Owns.nil _ _, fun k e => (by cases e), by decide⟩
  q := fun i hi => sgs_nil _ _
  ap := fun i j _ _ _ k e => (by cases e)
  ne := by decide
  ni := by decide
theorem conf_len (c : Cf) : (confL c).length = 9 := rfl
theorem RQat.conf {w : World} {g : Nat} {cs : Array Value} {v : Nat → Value} {n o : Value} {x : Qm} (h : RQ w g cs v n o x) (c : Cf) : RQ (w.setCells g 0 (confL c)) g (Lib.lay cs 0 (confL c)) v n o { x with c := c } := by
  have hs := h.c.size
  have hat : ∀ j, (Lib.lay cs 0 (confL c))[j]? = if 0 ≤ j ∧ j < 0 + 9 then (confL c)[j - 0]? else cs[j]? := fun j => lay_at _ _ _ _ (by rw [conf_len]; omega)
  have hne : ∀ j, 9 ≤ j → (Lib.lay cs 0 (confL c))[j]? = cs[j]? := fun j hj => by rw [hat, if_neg (by omega)]
  have hkeep := Keep.setCells (S := fun k => k = g) rfl (confL c) 0 (Keep.refl _ w)
  refine h.turn (S := fun k => k = g) (h.l.whole.puts _ _) ⟨(Lib.lay_size _ _ _).trans hs, fun j hj => ?_, fun i hi j hj => ?_, fun i hi => ?_⟩ (hne _ (by omega)) (hne _ (by omega)) hkeep (fun k e => .inl e) (fun i hi => ?_) h.ap rfl rfl
  · rw [hat, if_pos (by omega)]
    exact conf_get c hj
  · rw [hne _ (by omega)]; exact h.c.f i hi j hj
  · rw [hne _ (by omega)]; exact h.c.t i hi
  · exact (sgsT 44 (v i) (x.F i).q).keep (h.q i hi) hkeep (fun k e e2 => h.vg hi (by rw [e, e2]))
section
variable {wB w : World} {L : List Thing} {g : Nat} {own : Nat → Prop} {x : Qm}
theorem Room.rqnew (h : Room wB w L) (c : Cf) (hc : c.Ok) : ∃ own, Room wB (w.alloc (.cells (rq0 c) 41)) (rqT w.heap.size own (newQ c) :: L) :=
  ⟨RQown w.heap.size (fun _ => nilV) nilV nilV, h.add (t := rqT w.heap.size _ (newQ c)) ⟨_, _, _, _, rq_new w c, new_ok hc, fun _ => Iff.rfl⟩ ((Keep.refl _ w).alloc _) (fun k e => by
    rcases e with e | e | e | ⟨_, _, e⟩
    · omega
    · cases e
    · cases e
    · cases e)⟩
theorem Room.rqok (h : Room wB w (rqT g own x :: L)) : x.Ok := by
  obtain ⟨cs, v, n, o, hq, hx, ho⟩ := h.get0
  exact hx
theorem Room.rqthere (h : Room wB w (rqT g own x :: L)) : w.there g 0 9 := by
  obtain ⟨cs, v, n, o, hq, hx, ho⟩ := h.get0
  intro j hj
  rw [Nat.zero_add]
  exact ⟨by rw [hq.cf hj]; rfl, hq.fr _⟩
theorem Room.rqset (h : Room wB w (rqT g own x :: L)) (c : Cf) (hc : c.Ok) : Room wB (w.setCells g 0 (confL c)) (rqT g own { x with c := c } :: L) := by
  obtain ⟨cs, v, n, o, hq, hx, ho⟩ := h.get0
  exact h.step0 (t' := rqT g own { x with c := c }) ⟨_, v, n, o, hq.conf c, set_ok hx hc, ho⟩ ((Keep.setCells (S := fun k => k = g) rfl (confL c) 0 (Keep.refl _ w)).mono fun k e => (ho k).2 (.inl e)) fun k e => .inl e
theorem Room.rqto {w' : World} {v : Nat → Value} {n o : Value} {y : Qm} (h : Room wB w (rqT g own x :: L)) (ho : ∀ k, own k ↔ RQown g v n o k) (t : RQto w g v n o y w') (hy : y.Ok) : ∃ own', Room wB w' (rqT g own' y :: L) := by
  obtain ⟨cs', v', n', o', hq, hk, hn⟩ := t
  exact ⟨RQown g v' n' o', h.step0 (t' := rqT g _ y) ⟨cs', v', n', o', hq, hy, fun _ => Iff.rfl⟩ (hk.mono fun k e => (ho k).2 e) fun k e => (hn k e).imp (fun e => (ho k).2 e) id⟩
theorem Room.rqenq (h : Room wB w (rqT g own x :: L)) (s : Sg) (now : Int) (hn : U64 now) (hf : U64 s.f) (hst : U64 s.t) :
    Calls Tryz.prog 20 #[.pointer (some ⟨g, 0, none⟩), s.v, .int .u64 now] w fun e w' => e = .returned (.tuple #[.int .i64 (enqV x s now), .int .i64 (enqE s)]) ∧ ∃ own', Room wB w' (rqT g own' (enqQ x s now) :: L) := by
  obtain ⟨cs, v, n, o, hq, hx, ho⟩ := h.get0
  by_cases he : enqE s = 0
  · refine (hq.enq_ok hx s now hn hf hst he).mono ?_
    rintro e w' ⟨rfl, t⟩
    have hy := enq_ok hx (s := s) hn hf hst
    unfold enqQ at hy
    rw [if_pos he] at hy
    refine ⟨by unfold enqV; rw [if_pos he, he], ?_⟩
    unfold enqQ
    rw [if_pos he]
    exact h.rqto ho t hy
  · refine (hq.enq_bad s now he).mono ?_
    rintro e w' ⟨rfl, hk⟩
    refine ⟨by unfold enqV; rw [if_neg he], own, ?_⟩
    unfold enqQ
    rw [if_neg he]
    exact h.kept hk
theorem Room.rqlen (h : Room wB w (rqT g own x :: L)) : Calls Tryz.prog 55 #[.pointer (some ⟨g, 0, none⟩)] w fun e w' => e = .returned (.int .i64 (lenQ x : Int)) ∧ Room wB w' (rqT g own x :: L) := by
  obtain ⟨cs, v, n, o, hq, hx, ho⟩ := h.get0
  refine (hq.len hx.len).mono ?_
  rintro e w' ⟨rfl, rfl⟩
  exact ⟨rfl, h⟩
theorem Room.rqdog (h : Room wB w (rqT g own x :: L)) : Calls Tryz.prog 58 #[.pointer (some ⟨g, 0, none⟩)] w fun e w' => e = .returned (.tuple #[.int .u64 (dogV x), .bool (dogB x)]) ∧ Room wB w' (rqT g own x :: L) := by
  obtain ⟨cs, v, n, o, hq, hx, ho⟩ := h.get0
  have hd := dog_opt x
  rw [hd.1, hd.2]
  exact (hq.dog hx).mono fun e w' ⟨he, hk⟩ => ⟨he, h.kept hk⟩
theorem Room.rqflow_no (h : Room wB w (rqT g own x :: L)) (z : Int) (hz : ¬ ((0 ≤ z ∧ z < 8) ∧ x.T z.toNat = true)) : Calls Tryz.prog 59 #[.pointer (some ⟨g, 0, none⟩), .int .i64 z] w fun e w' => e = .returned (.tuple #[Fl.v (.slice none 0 0) Fl.zero, .bool false]) ∧ Room wB w' (rqT g own x :: L) := by
  obtain ⟨cs, v, n, o, hq, hx, ho⟩ := h.get0
  exact (hq.flow_no z hz).mono fun e w' ⟨he, hk⟩ => ⟨he, h.kept hk⟩
theorem Room.rqflow_yes (h : Room wB w (rqT g own x :: L)) {i : Nat} (hi : i < 8) (ht : x.T i = true) : Calls Tryz.prog 59 #[.pointer (some ⟨g, 0, none⟩), .int .i64 (i : Int)] w fun e w' => ∃ V, e = .returned (.tuple #[Fl.v V (x.F i), .bool true]) ∧ Room wB w' (rqT g own x :: sgsT 44 V (x.F i).q :: L) := by
  obtain ⟨cs, v, n, o, hq, hx, ho⟩ := h.get0
  refine (hq.flow_yes hx hi ht).mono ?_
  rintro e w' ⟨V, rfl, hV, hn, hk⟩
  exact ⟨V, rfl, (h.add (t := sgsT 44 V (x.F i).q) hV hk hn).perm (List.Perm.swap _ _ _)⟩
theorem Room.rqclose_no (h : Room wB w (rqT g own x :: L)) (z : Int) (hz : ¬ ((0 ≤ z ∧ z < 8) ∧ x.T z.toNat = true)) : Calls Tryz.prog 17 #[.pointer (some ⟨g, 0, none⟩), .int .i64 z] w fun e w' => e = .returned (.slice none 0 0) ∧ Room wB w' (rqT g own x :: L) := by
  obtain ⟨cs, v, n, o, hq, hx, ho⟩ := h.get0
  refine (hq.close_no z hz).mono ?_
  rintro e w' ⟨rfl, rfl⟩
  exact ⟨rfl, h⟩
theorem Room.rqclose_yes (h : Room wB w (rqT g own x :: L)) {i : Nat} (hi : i < 8) (ht : x.T i = true) : Calls Tryz.prog 17 #[.pointer (some ⟨g, 0, none⟩), .int .i64 (i : Int)] w fun e w' => ∃ V own', e = .returned V ∧ Room wB w' (sgsT 44 V (x.F i).q :: rqT g own' (clsQ x (i : Int)) :: L) := by
  obtain ⟨cs, v, n, o, hq, hx, ho⟩ := h.get0
  refine (hq.close_yes hx.ls hi ht).mono ?_
  rintro e w' ⟨rfl, hV, cs', n', o', hq', hk, hn⟩
  have hown : ∀ j, (v i).ownBlock = some j → own j := fun j e => (ho j).2 (.inr (.inr (.inr ⟨i, hi, e⟩)))
  have h2 := h.step0 (t' := rqT g (RQown g (upF v i nilV) n' o') (clsQ x (i : Int))) ⟨cs', _, n', o', hq', cls_ok hx _, fun _ => Iff.rfl⟩ (hk.mono fun k e => (ho k).2 e) fun k e => (hn k e).imp (fun e => (ho k).2 e) id
  have hd := List.pairwise_cons.1 h.dis
  refine ⟨v i, _, rfl, ⟨fun s hs => ?_, fun s hs k hk' => ?_, List.pairwise_cons.2 ⟨fun s hs k hk' hk2 => ?_, h2.dis⟩, h2.bel⟩⟩
  · rcases List.mem_cons.1 hs with rfl | hs
    · exact hV
    · exact h2.all s hs
  · rcases List.mem_cons.1 hs with rfl | hs
    · exact h.lo _ (List.mem_cons_self ..) k (hown k hk')
    · exact h2.lo s hs k hk'
  · rcases List.mem_cons.1 hs with rfl | hs
    · have hk3 : (v i).ownBlock = some k := hk'
      rcases hk2 with e | e | e | ⟨j, hj, e⟩
      · exact row_ne hV hq'.l.whole hq'.ne (by rw [hk3, e])
      · exact row_apart hV hq'.l.o1 hq'.ni hk3 e
      · exact row_apart hV hq'.l.o2 hq'.ni hk3 e
      · by_cases ej : j = i
        · subst ej; rw [upF_at] at e; cases e
        · rw [upF_ne _ _ ej] at e; exact hq.ap i j hi hj (fun h => ej h.symm) k hk3 e
    · exact hd.1 s hs k (hown k hk') hk2
end
/-! ### May -/
end Go.Proofs.YtnljjdfajmjdjaaGreat
namespace Go.Proofs.YtnljjdfajmjdjaaGreat
open Go.RowKit
set_option maxRecDepth 100000
set_option linter.unusedSimpArgs false
set_option linter.unusedVariables false

theorem Tryz.eqSeg (a b c d : Int) (e : Bool) (w : World) : (binOp .eql 44 (.agg #[.int .i64 a, .int .u64 b, .int .i64 c, .int .u64 d, .bool e]) (.agg #[.int .i64 a, .int .u64 b, .int .i64 c, .int .u64 d, .bool e])).run Tryz.prog w = .ok (.bool true) w := by
  go_simp
  try simp
set_option maxHeartbeats 1000000 in
theorem eq_sg (s : Sg) (w : World) :
    Calls Tryz.prog 45 #[s.v, s.v] w fun e w' => e = .returned (.bool true) ∧ Keep (fun _ => False) w w' := by
  obtain ⟨z, f, l, t, a⟩ := s
  dsimp only [Sg.v]
  have heq := Tryz.eqSeg
  have K := Lib.hid (((Keep.refl (fun _ => False) w).alloc (.cells #[.int .i64 z, .int .u64 f, .int .i64 l, .int .u64 t, .bool a] 44)).alloc (.cells #[.int .i64 z, .int .u64 f, .int .i64 l, .int .u64 t, .bool a] 44))
  go_enter Tryz.func45, Tryz.ntmps45
  go_wp2
  go_ret
  exact ⟨rfl, K.out⟩
def Ten (W : World) (g1 g2 i : Nat) (z f l t : Int) (a : Bool) : Prop := W.cell? ⟨g1, i * 5, none⟩ = some (.int .i64 z) ∧ W.cell? ⟨g1, i * 5 + 1, none⟩ = some (.int .u64 f) ∧ W.cell? ⟨g1, i * 5 + 2, none⟩ = some (.int .i64 l) ∧ W.cell? ⟨g1, i * 5 + 3, none⟩ = some (.int .u64 t) ∧ W.cell? ⟨g1, i * 5 + 4, none⟩ = some (.bool a) ∧
  W.cell? ⟨g2, i * 5, none⟩ = some (.int .i64 z) ∧ W.cell? ⟨g2, i * 5 + 1, none⟩ = some (.int .u64 f) ∧ W.cell? ⟨g2, i * 5 + 2, none⟩ = some (.int .i64 l) ∧ W.cell? ⟨g2, i * 5 + 3, none⟩ = some (.int .u64 t) ∧ W.cell? ⟨g2, i * 5 + 4, none⟩ = some (.bool a)
set_option maxHeartbeats 2000000 in
theorem same_sg (V1 V2 : Value) (q : List Sg) (w : World) (hlen : q.length ≤ 512) (h1 : (sgsT 44 V1 q).at_ w) (h2 : (sgsT 44 V2 q).at_ w) :
    Calls Tryz.prog 44 #[V1, V2, .func (.func 45) #[] #[]] w fun e w' => e = .returned (.bool true) ∧ Keep (fun _ => False) w w' := by
  obtain ⟨a1, c1, rfl⟩ := sgs_shape h1
  obtain ⟨a2, c2, rfl⟩ := sgs_shape h2
  have H1 := Lib.hid h1; have H2 := Lib.hid h2
  clear h1 h2
  go_enter Tryz.func44, Tryz.ntmps44
  go_wp2
  go_loopw [7] (fun i wr => ∃ k : Nat, k ≤ q.length ∧ i = .int .i64 k ∧ Keep (fun _ => False) w wr) (fun i _ => q.length - (intOf i).toNat)
  case atStart => exact ⟨0, Nat.zero_le _, rfl, Keep.refl _ _⟩
  case round =>
    obtain ⟨k, hk, rfl, hkp⟩ := hrel
    have HK := Lib.hid hkp
    clear hkp
    by_cases hlt : k < q.length
    · have hi1 : (k : Int) < (q.length : Int) := by omega
      have HT : Hid (∀ wx : World, Keep (fun _ => False) w wx → ∃ g1 g2, a1 = some ⟨g1, 0, none⟩ ∧ a2 = some ⟨g2, 0, none⟩ ∧ Ten wx g1 g2 k q[k].s q[k].f q[k].l q[k].t q[k].a) := Lib.hid (fun wx hx => by
        obtain ⟨g1, e1, u0, u1, u2, u3, u4⟩ := sgs_get (i := k) (x := q[k]) (Thing.keep _ H1.out hx (fun _ _ => id)) rfl (List.getElem?_eq_getElem hlt)
        obtain ⟨g2, e2, v0, v1, v2, v3, v4⟩ := sgs_get (i := k) (x := q[k]) (Thing.keep _ H2.out hx (fun _ _ => id)) rfl (List.getElem?_eq_getElem hlt)
        exact ⟨g1, g2, e1, e2, u0, u1, u2, u3, u4, v0, v1, v2, v3, v4⟩)
      clear H1 H2
      generalize q[k] = s at *
      obtain ⟨g1, g2, rfl, rfl, ht⟩ := HT.out wr HK.out
      have HT2 : Hid (∀ wx : World, Keep (fun _ => False) w wx → Ten wx g1 g2 k s.s s.f s.l s.t s.a) := Lib.hid (fun wx hx => by
        obtain ⟨g1', g2', e1, e2, h⟩ := HT.out wx hx
        cases e1; cases e2
        exact h)
      clear HT
      obtain ⟨z, f, l, t, a⟩ := s
      dsimp only at *
      clear ht
      go_upto_region 6 with fail
      have K0 := Lib.hid (HK.out.drew)
      clear HK
      refine wp_region_sch (fun W => Ten W g1 g2 k z f l t a) [(true, 0), (true, 1), (true, 2), (true, 3), (true, 4), (true, 5), (true, 6), (true, 7), (true, 8), (false, 9), (true, 10)] (by kernel_rfl) (by kernel_rfl) (by kernel_rfl) (by kernel_rfl) (HT2.out _ K0.out) ?_
      generalize World.drew wr = w2 at *
      (repeat (refine wpSch_yes (v := ?_) rfl (fun _ _ _ h => h) (by rfl) ?_ ?_; rotate_left; (next => (intro w hSw; (try dsimp only at hSw); obtain ⟨a0, a1, a2, a3, a4, b0, b1, b2, b3, b4⟩ := hSw; go_simp; (try with_reducible rfl))); (try simp only [Act.put, List.setIfInBounds_toArray, List.set_cons_zero, List.set_cons_succ])))
      refine wpSch_call rfl (by rfl) (fun K hK => ?_); go_simp
      refine (eq_sg ⟨z, f, l, t, a⟩ w2).mono ?_
      rintro e w3 ⟨rfl, k3⟩
      have K3 := Lib.hid (K0.out.trans k3)
      clear k3
      refine hK.out _ _ (HT2.out _ K3.out) (fun hHeld => ?_)
      clear hK K hHeld
      (try simp only [Act.put, List.setIfInBounds_toArray, List.set_cons_zero, List.set_cons_succ])
      (repeat (refine wpSch_yes (v := ?_) rfl (fun _ _ _ h => h) (by rfl) ?_ ?_; rotate_left; (next => (intro w hSw; (try dsimp only at hSw); obtain ⟨a0, a1, a2, a3, a4, b0, b1, b2, b3, b4⟩ := hSw; go_simp; (try with_reducible rfl))); (try simp only [Act.put, List.setIfInBounds_toArray, List.set_cons_zero, List.set_cons_succ])))
      refine wpSch_nil ?_
      go_wp2
      go_roundw
      case rel => exact ⟨k + 1, by omega, by go_num, K3.out⟩
      case measure => simp [intOf]; omega
    · clear H1 H2
      go_wp2
      go_ret
      exact ⟨rfl, HK.out⟩
theorem plain_sg (V1 V2 : Value) (q : List Sg) (w : World) (hlen : q.length ≤ 512) (h1 : (sgsT 44 V1 q).at_ w) (h2 : (sgsT 44 V2 q).at_ w) :
    Calls Tryz.prog 15 #[V1, V2] w fun e w' => e = .returned (.bool true) ∧ Keep (fun _ => False) w w' := by
  have H1 := Lib.hid h1; have H2 := Lib.hid h2
  clear h1 h2
  go_enter Tryz.func15, Tryz.ntmps15
  go_wp2_with fail
  refine (same_sg V1 V2 q w hlen H1.out H2.out).mono ?_
  rintro e w' ⟨rfl, hk⟩
  have HK := Lib.hid hk; clear hk
  go_wp2
  go_ret
  exact ⟨rfl, HK.out⟩
set_option maxHeartbeats 2000000 in
theorem flow_same (V1 V2 : Value) (f : Fl) (w : World) (hlen : f.q.length ≤ 512) (h1 : (sgsT 44 V1 f.q).at_ w) (h2 : (sgsT 44 V2 f.q).at_ w) :
    Calls Tryz.prog 60 #[Fl.v V1 f, Fl.v V2 f] w fun e w' => e = .returned (.bool true) ∧ Keep (fun _ => False) w w' := by
  obtain ⟨a1, c1, rfl⟩ := sgs_shape h1
  obtain ⟨a2, c2, rfl⟩ := sgs_shape h2
  obtain ⟨w1, hw1⟩ : ∃ w1, w1 = (w.alloc (.cells #[.int .i64 f.s, .int .i64 f.c, .int .i64 f.p, .int .u64 f.n, .int .u64 f.u, .slice a1 f.q.length c1] 34)).alloc (.cells #[.int .i64 f.s, .int .i64 f.c, .int .i64 f.p, .int .u64 f.n, .int .u64 f.u, .slice a2 f.q.length c2] 34) := ⟨_, rfl⟩
  have k1 : Keep (fun _ => False) w w1 := by rw [hw1]; exact ((Keep.refl (fun _ => False) w).alloc _).alloc _
  have K1 := Lib.hid k1
  have H1 := Lib.hid (Thing.keep _ h1 k1 (fun _ _ => id)); have H2 := Lib.hid (Thing.keep _ h2 k1 (fun _ _ => id))
  clear h1 h2 k1
  obtain ⟨s, c, p, n, u, q⟩ := f
  dsimp only [Fl.v] at *
  have e1 : (s == s) = true := by simp
  have e2 : (c == c) = true := by simp
  have e3 : (p == p) = true := by simp
  have e4 : (n == n) = true := by simp
  have e5 : (u == u) = true := by simp
  go_enter Tryz.func60, Tryz.ntmps60
  go_wp2_with fail
  try rw [← hw1]
  clear hw1
  refine (plain_sg _ _ q w1 hlen H1.out H2.out).mono ?_
  rintro e w2 ⟨rfl, k2⟩
  have K2 := Lib.hid (K1.out.trans k2)
  clear k2
  go_wp2
  go_ret
  exact ⟨rfl, K2.out⟩
end Go.Proofs.YtnljjdfajmjdjaaGreat
