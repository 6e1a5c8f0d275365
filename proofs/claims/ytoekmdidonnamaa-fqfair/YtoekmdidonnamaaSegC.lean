/-
  Segments, flows and a config as cells; a slice of segments in a row of its own. Conditions: none.
-/
import Derived.Test.YtoekmdidonnamaaQmInv
import Derived.Test.YtoekmdidonnamaaRoom
namespace Go.Proofs.Ytoekmdidonnamaa
open Go.RowKit
set_option maxRecDepth 100000

def Sg.cells (x : Sg) : List Value := [.int .i64 x.s, .int .u64 x.f, .int .i64 x.l, .int .u64 x.t, .bool x.a]
abbrev Sg.v (x : Sg) : Value := .agg #[.int .i64 x.s, .int .u64 x.f, .int .i64 x.l, .int .u64 x.t, .bool x.a]
theorem one_sg (c : Sg) : ∀ u ∈ c.cells, u.oneCell' = true := fun u hu => by
  simp only [Sg.cells, List.mem_cons, List.not_mem_nil, or_false] at hu
  rcases hu with rfl | rfl | rfl | rfl | rfl <;> rfl
def flatG : List Sg → List Value
  | [] => []
  | c :: cs => c.cells ++ flatG cs
theorem flatG_len : ∀ cs, (flatG cs).length = cs.length * 5
  | [] => rfl
  | c :: cs => by rw [flatG, List.length_append, flatG_len cs]; simp [Sg.cells]; omega
theorem flatG_app (cs : List Sg) (c : Sg) : flatG cs ++ c.cells = flatG (cs ++ [c]) := by
  induction cs with
  | nil => rfl
  | cons a cs ih => rw [flatG, List.append_assoc, ih]; rfl
theorem flatG_add (cs ds : List Sg) : flatG (cs ++ ds) = flatG cs ++ flatG ds := by
  induction cs with
  | nil => rfl
  | cons a cs ih => show a.cells ++ flatG (cs ++ ds) = _; rw [ih, flatG, List.append_assoc]
theorem flatG_get : ∀ (cs : List Sg) (i j : Nat) (c : Sg), cs[i]? = some c → j < 5 → (flatG cs)[i * 5 + j]? = c.cells[j]?
  | [], i, j, c, h, _ => by simp at h
  | a :: cs, 0, j, c, h, hj => by simp at h; subst h; rw [flatG, List.getElem?_append_left (by simp [Sg.cells]; omega)]; simp
  | a :: cs, i + 1, j, c, h, hj => by
    simp at h
    have := flatG_get cs i j c h hj
    rw [flatG, List.getElem?_append_right (by simp [Sg.cells]; omega), ← this]
    congr 1
    simp [Sg.cells]; omega
/-- v holds the segments l, in a row of its own, or is nil. E: the type of a segment. -/
def sgsT (E : TypeId) (v : Value) (l : List Sg) : Thing := rowT v E 5 l.length (flatG l)
section
variable {w w' : World} {E : TypeId} {v : Value} {l : List Sg}
theorem sgs_nil (w : World) (E : TypeId) : (sgsT E (.slice none 0 0) []).at_ w := World.ownsRow_nil _ _ _ _
theorem sgs_shape (h : (sgsT E v l).at_ w) : ∃ a cap, v = .slice a l.length cap := by
  rcases (show w.ownsRow 0 E 5 v l.length (flatG l) from h).2 with ⟨rfl, h0⟩ | ⟨g, cap, cur, rfl, _⟩
  · exact ⟨none, 0, by rw [h0]⟩
  · exact ⟨_, cap, rfl⟩
theorem sgs_get {a : Option Addr} {n cap i : Nat} {x : Sg} (h : (sgsT E (.slice a n cap) l).at_ w) (hn : n = l.length) (hx : l[i]? = some x) :
    ∃ r, a = some ⟨r, 0, none⟩ ∧ w.cell? ⟨r, i * 5, none⟩ = some (.int .i64 x.s) ∧ w.cell? ⟨r, i * 5 + 1, none⟩ = some (.int .u64 x.f) ∧ w.cell? ⟨r, i * 5 + 2, none⟩ = some (.int .i64 x.l) ∧ w.cell? ⟨r, i * 5 + 3, none⟩ = some (.int .u64 x.t) ∧ w.cell? ⟨r, i * 5 + 4, none⟩ = some (.bool x.a) := by
  have h' : w.ownsRow 0 E 5 (.slice a n cap) l.length (flatG l) := h
  have hi := (List.getElem?_eq_some_iff.1 hx).1
  rcases h'.2 with ⟨e, h0⟩ | ⟨g, cap', cur, e, _⟩
  · omega
  · cases e
    have hc : ∀ j, j < 5 → w.cell? ⟨g, i * 5 + j, none⟩ = x.cells[j]? := fun j hj => by
      rw [World.ownsRow.cellAt h' (i * 5 + j) (by omega), flatG_get l i j x hx hj]
    exact ⟨g, rfl, hc 0 (by omega), hc 1 (by omega), hc 2 (by omega), hc 3 (by omega), hc 4 (by omega)⟩
/-- Another one appended. -/
theorem sgs_more {v' : Value} {x : Sg} (h : w'.ownsRow 0 E 5 v' (l.length + 1) (flatG l ++ x.cells)) : (sgsT E v' (l ++ [x])).at_ w' := by
  show w'.ownsRow 0 E 5 v' (l ++ [x]).length (flatG (l ++ [x]))
  rw [List.length_append, List.length_singleton, ← flatG_app]
  exact h
end

/-! ### A flow, a config -/
def flV (v : Value) (f : Fl) : Nat → Value
  | 0 => .int .i64 f.s
  | 1 => .int .i64 f.c
  | 2 => .int .i64 f.p
  | 3 => .int .u64 f.n
  | 4 => .int .u64 f.u
  | _ => v
/-- A flow as a value; v: its slice. -/
abbrev Fl.v (v : Value) (f : Fl) : Value := .agg #[.int .i64 f.s, .int .i64 f.c, .int .i64 f.p, .int .u64 f.n, .int .u64 f.u, v]
def cfV (c : Cf) : Nat → Value
  | 0 => .int .i64 c.q
  | 1 => .int .i64 c.f
  | 2 => .int .i64 c.l
  | 3 => .int .i64 c.w
  | 4 => .int .u64 c.h
  | 5 => .int .u64 c.r
  | 6 => .bool c.d
  | 7 => .int .i64 c.k
  | _ => .int .i64 c.m
abbrev Cf.v (c : Cf) : Value := .agg #[.int .i64 c.q, .int .i64 c.f, .int .i64 c.l, .int .i64 c.w, .int .u64 c.h, .int .u64 c.r, .bool c.d, .int .i64 c.k, .int .i64 c.m]
end Go.Proofs.Ytoekmdidonnamaa
