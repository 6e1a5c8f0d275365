/-
  What a sampler holds, and what its calls make of it: the plain mathematics. No program is spoken of. Conditions: none.
-/
import Derived.Test.YtiilbdmldonipaaSat
import Derived.Test.YtiilbdmldonipaaNum
import Derived.Test.YtiilbdmldonipaaObj
namespace Go.Proofs.Ytiilbdmldonipaa
open Go.RowKit

/-- What stands with a segment that was sent: at, delivered, delivered at, first at; limited. -/
structure Snt where
  t : Int
  d : Int
  u : Int
  f : Int
  l : Bool
structure Snt.Fit (x : Snt) : Prop where
  t : Num x.t
  d : Num x.d
  u : Num x.u
  f : Num x.f
abbrev Snt.c (x : Snt) : Array Value := #[.int .u64 x.t, .int .u64 x.d, .int .u64 x.u, .int .u64 x.f, .bool x.l]
abbrev Snt.v (x : Snt) : Value := .agg #[.int .u64 x.t, .int .u64 x.d, .int .u64 x.u, .int .u64 x.f, .bool x.l]

/-- A sample: now, delivered, prior, interval, round trip, acknowledged, lost, under way; limited. -/
structure Spl where
  n : Int
  d : Int
  p : Int
  i : Int
  r : Int
  a : Int
  o : Int
  f : Int
  l : Bool
abbrev Spl.c (x : Spl) : Array Value := #[.int .u64 x.n, .int .u64 x.d, .int .u64 x.p, .int .u64 x.i, .int .u64 x.r, .int .u64 x.a, .int .u64 x.o, .int .u64 x.f, .bool x.l]
abbrev Spl.v (x : Spl) : Value := .agg #[.int .u64 x.n, .int .u64 x.d, .int .u64 x.p, .int .u64 x.i, .int .u64 x.r, .int .u64 x.a, .int .u64 x.o, .int .u64 x.f, .bool x.l]

/-- delivered, delivered at, first at, mark, acknowledged; whether some was; of the newest: prior, prior at, limited, sending time, round trip. -/
structure Smp where
  d : Int
  u : Int
  f : Int
  m : Int
  a : Int
  s : Bool
  p : Int
  q : Int
  l : Bool
  e : Int
  r : Int
structure Smp.Fit (x : Smp) : Prop where
  d : Num x.d
  u : Num x.u
  f : Num x.f
  m : Num x.m
  a : Num x.a
  p : Num x.p
  q : Num x.q
  e : Num x.e
  r : Num x.r
  none : x.s = false → x.a = 0

def topI (a b : Int) : Int := if a ≤ b then b else a
def newS : Smp := ⟨0, 0, 0, 0, 0, false, 0, 0, false, 0, 0⟩
def sentS (x : Smp) (now fl : Int) : Smp := if fl = 0 then ⟨x.d, now, now, x.m, x.a, x.s, x.p, x.q, x.l, x.e, x.r⟩ else x
def sentV (x : Smp) (now fl : Int) : Snt := if fl = 0 then ⟨now, x.d, now, now, x.m != 0⟩ else ⟨now, x.d, x.u, x.f, x.m != 0⟩
def markS (x : Smp) (size : Int) : Int := if x.m < satAdd x.d size then 0 else x.m
def ackS (x : Smp) (now size : Int) (y : Snt) : Smp :=
  if x.s = false ∨ x.p ≤ y.d then ⟨satAdd x.d size, now, y.t, markS x size, satAdd x.a size, true, y.d, y.u, y.l, satSub y.t y.f, satSub now y.t⟩
  else ⟨satAdd x.d size, now, x.f, markS x size, satAdd x.a size, x.s, x.p, x.q, x.l, x.e, x.r⟩
def takeV (x : Smp) (now lost fl : Int) : Spl :=
  if x.s = true then ⟨now, x.d, x.p, topI x.e (satSub now x.q), x.r, x.a, lost, fl, x.l⟩ else ⟨now, x.d, 0, 0, 0, 0, lost, fl, false⟩
def takeS (x : Smp) : Smp := ⟨x.d, x.u, x.f, x.m, 0, false, x.p, x.q, x.l, x.e, x.r⟩
/-- .. as the document's own has it. -/
def takeR (x : Smp) : Smp := ⟨x.d, x.u, x.f, x.m, 0, false, 0, 0, false, 0, 0⟩
def limS (x : Smp) (fl : Int) : Smp := ⟨x.d, x.u, x.f, topI (satAdd x.d fl) 1, x.a, x.s, x.p, x.q, x.l, x.e, x.r⟩

theorem num0 : Num 0 := ⟨by omega, by omega⟩
theorem num_add {a b : Int} (h : Num a) (h' : Num b) : Num (satAdd a b) := by
  unfold satAdd; obtain ⟨_, _⟩ := h; obtain ⟨_, _⟩ := h'; split <;> constructor <;> omega
theorem num_sub {a b : Int} (h : Num a) (h' : Num b) : Num (satSub a b) := by
  unfold satSub; obtain ⟨_, _⟩ := h; obtain ⟨_, _⟩ := h'; split <;> constructor <;> omega
theorem num_top {a b : Int} (h : Num a) (h' : Num b) : Num (topI a b) := by unfold topI; split <;> assumption
theorem fit_newS : newS.Fit := ⟨num0, num0, num0, num0, num0, num0, num0, num0, num0, fun _ => rfl⟩
section
variable {x : Smp} {now fl size lost : Int} {y : Snt}
theorem Smp.Fit.sent (h : x.Fit) (hn : Num now) : (sentS x now fl).Fit := by
  unfold sentS; split
  · exact ⟨h.d, hn, hn, h.m, h.a, h.p, h.q, h.e, h.r, h.none⟩
  · exact h
theorem Smp.Fit.sentV (h : x.Fit) (hn : Num now) : (sentV x now fl).Fit := by
  unfold Go.Proofs.Ytiilbdmldonipaa.sentV; split
  · exact ⟨hn, h.d, hn, hn⟩
  · exact ⟨hn, h.d, h.u, h.f⟩
theorem Smp.Fit.mark (h : x.Fit) : Num (markS x size) := by unfold markS; split; exact num0; exact h.m
theorem Smp.Fit.ack (h : x.Fit) (hn : Num now) (hs : Num size) (hy : y.Fit) : (ackS x now size y).Fit := by
  unfold ackS; split
  · exact ⟨num_add h.d hs, hn, hy.t, h.mark, num_add h.a hs, hy.d, hy.u, num_sub hy.t hy.f, num_sub hn hy.t, fun e => by cases e⟩
  · rename_i hc
    exact ⟨num_add h.d hs, hn, h.f, h.mark, num_add h.a hs, h.p, h.q, h.e, h.r, fun e => absurd (.inl e) hc⟩
theorem Smp.Fit.take (h : x.Fit) : (takeS x).Fit := ⟨h.d, h.u, h.f, h.m, num0, h.p, h.q, h.e, h.r, fun _ => rfl⟩
theorem Smp.Fit.takeR (h : x.Fit) : (takeR x).Fit := ⟨h.d, h.u, h.f, h.m, num0, num0, num0, num0, num0, fun _ => rfl⟩
theorem Smp.Fit.lim (h : x.Fit) (hf : Num fl) : (limS x fl).Fit := ⟨h.d, h.u, h.f, num_top (num_add h.d hf) ⟨by omega, by omega⟩, h.a, h.p, h.q, h.e, h.r, h.none⟩
theorem takeV_a (h : x.Fit) : (takeV x now lost fl).a = x.a := by
  unfold takeV; cases hs : x.s
  · exact (h.none hs).symm
  · rfl
end

/-- Two that answer alike: what is known of the newest counts only where some was acknowledged. -/
structure Like (x y : Smp) : Prop where
  d : x.d = y.d
  u : x.u = y.u
  f : x.f = y.f
  m : x.m = y.m
  a : x.a = y.a
  s : x.s = y.s
  rest : x.s = true → x.p = y.p ∧ x.q = y.q ∧ x.l = y.l ∧ x.e = y.e ∧ x.r = y.r
section
variable {x z : Smp} {now fl size lost : Int} {y : Snt}
theorem Like.refl (x : Smp) : Like x x := ⟨rfl, rfl, rfl, rfl, rfl, rfl, fun _ => ⟨rfl, rfl, rfl, rfl, rfl⟩⟩
theorem Like.sent (h : Like x z) : Like (sentS x now fl) (sentS z now fl) := by
  unfold sentS; split
  · exact ⟨h.d, rfl, rfl, h.m, h.a, h.s, h.rest⟩
  · exact h
theorem Like.sentV (h : Like x z) : sentV x now fl = sentV z now fl := by
  unfold Go.Proofs.Ytiilbdmldonipaa.sentV; rw [h.d, h.u, h.f, h.m]
theorem Like.ack (h : Like x z) : Like (ackS x now size y) (ackS z now size y) := by
  have hm : markS x size = markS z size := by unfold markS; rw [h.m, h.d]
  have hc : (x.s = false ∨ x.p ≤ y.d) ↔ (z.s = false ∨ z.p ≤ y.d) := by
    rw [← h.s]
    cases hs : x.s
    · simp
    · rw [(h.rest hs).1]
  unfold ackS
  by_cases c : x.s = false ∨ x.p ≤ y.d
  · rw [if_pos c, if_pos (hc.1 c), h.d, h.a, hm]
    exact Like.refl _
  · rw [if_neg c, if_neg (fun k => c (hc.2 k)), h.d, h.a, hm]
    exact ⟨rfl, rfl, h.f, rfl, rfl, h.s, h.rest⟩
theorem Like.take (h : Like x z) : Like (takeS x) (takeR z) := ⟨h.d, h.u, h.f, h.m, rfl, rfl, fun e => by cases e⟩
theorem Like.takeV (h : Like x z) : takeV x now lost fl = takeV z now lost fl := by
  unfold Go.Proofs.Ytiilbdmldonipaa.takeV
  rw [← h.s]
  cases hs : x.s
  · rw [if_neg (by decide), if_neg (by decide), h.d]
  · obtain ⟨h1, h2, h3, h4, h5⟩ := h.rest hs
    rw [if_pos rfl, if_pos rfl, h.d, h.a, h1, h2, h3, h4, h5]
theorem Like.lim (h : Like x z) : Like (limS x fl) (limS z fl) := ⟨h.d, h.u, h.f, by show topI _ _ = topI _ _; rw [h.d], h.a, h.s, h.rest⟩
end
end Go.Proofs.Ytiilbdmldonipaa
