/-
  A model and the sample that it is told, side by side in memory, through a call of package bbr. No program is spoken of. Conditions: none.
-/
import Derived.Test.YtbimmadllfgmiaaGreatBbr
import Derived.Test.YtbimmadllfgmiaaGreatSchedL
set_option linter.unusedVariables false
namespace Go.Proofs.YtbimmadllfgmiaaGreat
open Go.RowKit
set_option maxRecDepth 100000

/-- Since w0: the model x in block g, the sample s in block B. -/
structure SM (Fm : Fr) (oo : Nat) (w0 : World) (g B : Nat) (x : Mdl) (s : Spl) (W : World) : Prop where
  m : MdlAt Fm oo W g x
  b : Whole W B 34 s.c
  ne : g ≠ B
  k : Keep (fun k => k = g) w0 W
section
variable {Fm : Fr} {oo : Nat} {w0 w w' : World} {g B : Nat} {x y : Mdl} {s : Spl}
theorem SM.begin (h : MdlAt Fm oo w g x) : SM Fm oo w g w.heap.size x s (w.alloc (.cells s.c 34)) := ⟨h.alloc _, Whole.new _ _ _, Nat.ne_of_lt h.lt, (Keep.refl _ _).alloc _⟩
theorem SM.call (h : SM Fm oo w0 g B x s w) (m : MdlAt Fm oo w' g y) (k : Keep (fun k => k = g) w w') : SM Fm oo w0 g B y s w' := ⟨m, h.b.keep k (fun e => h.ne e.symm), h.ne, h.k.trans k⟩
theorem SM.quiet (h : SM Fm oo w0 g B x s w) (k : Keep (fun _ => False) w w') : SM Fm oo w0 g B x s w' := ⟨h.m.kept k, h.b.keep k id, h.ne, h.k.trans (k.mono fun _ e => e.elim)⟩
theorem SM.drew (h : SM Fm oo w0 g B x s w) : SM Fm oo w0 g B x s w.drew := h.quiet (Keep.refl _ _).drew
theorem SM.drewN (h : SM Fm oo w0 g B x s w) (n : Nat) : SM Fm oo w0 g B x s (w.drewN n) := h.quiet ((Keep.refl _ _).drewN n)
theorem SM.put (h : SM Fm oo w0 g B x s w) (i : Nat) (u : Value) (hi : i < (mdlL x).length := by exact Nat.le_of_ble_eq_true rfl) (e : (mdlL x).set i u = mdlL y) : SM Fm oo w0 g B y s (w.setCell ⟨g, oo + i, none⟩ u) :=
  ⟨by have := Part.put h.m i u hi; rw [e] at this; exact this, h.b.far (p := ⟨g, oo + i, none⟩) (fun e => h.ne e.symm) u, h.ne, h.k.setCell (p := ⟨g, oo + i, none⟩) (.inl rfl) u⟩
theorem SM.spl (h : SM Fm oo w0 g B x s w) : w.cell? ⟨B, 0, none⟩ = some (.int .u64 s.n) ∧ w.cell? ⟨B, 1, none⟩ = some (.int .u64 s.d) ∧ w.cell? ⟨B, 2, none⟩ = some (.int .u64 s.p) ∧ w.cell? ⟨B, 3, none⟩ = some (.int .u64 s.i) ∧ w.cell? ⟨B, 4, none⟩ = some (.int .u64 s.r) ∧ w.cell? ⟨B, 5, none⟩ = some (.int .u64 s.a) ∧ w.cell? ⟨B, 6, none⟩ = some (.int .u64 s.o) ∧ w.cell? ⟨B, 7, none⟩ = some (.int .u64 s.f) ∧ w.cell? ⟨B, 8, none⟩ = some (.bool s.l) :=
  ⟨h.b.cell 0, h.b.cell 1, h.b.cell 2, h.b.cell 3, h.b.cell 4, h.b.cell 5, h.b.cell 6, h.b.cell 7, h.b.cell 8⟩
theorem MdlAt.own (h : MdlAt Fm oo w g x) : w.cell? ⟨g, oo + 27, none⟩ = some (.int .u64 x.s) ∧ w.cell? ⟨g, oo + 28, none⟩ = some (.int .i64 x.m) ∧ w.cell? ⟨g, oo + 29, none⟩ = some (.int .u64 x.t) ∧ w.cell? ⟨g, oo + 30, none⟩ = some (.int .u64 x.w) ∧ w.cell? ⟨g, oo + 31, none⟩ = some (.int .u64 x.k) ∧ w.cell? ⟨g, oo + 32, none⟩ = some (.bool x.v) ∧ w.cell? ⟨g, oo + 33, none⟩ = some (.int .u64 x.u) ∧ w.cell? ⟨g, oo + 34, none⟩ = some (.bool x.n) :=
  ⟨Part.cell h 27, Part.cell h 28, Part.cell h 29, Part.cell h 30, Part.cell h 31, Part.cell h 32, Part.cell h 33, Part.cell h 34⟩
end
end Go.Proofs.YtbimmadllfgmiaaGreat
