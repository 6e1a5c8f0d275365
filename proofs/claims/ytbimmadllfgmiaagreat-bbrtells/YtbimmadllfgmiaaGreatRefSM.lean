/-
  The document's own model and the sample that it is told, side by side in memory. No program is spoken of. Conditions: none.
-/
import Derived.Test.YtbimmadllfgmiaaGreatRefMdl
import Derived.Test.YtbimmadllfgmiaaGreatBbrLoo
set_option linter.unusedVariables false
namespace Go.Proofs.YtbimmadllfgmiaaGreat
open Go.RowKit
set_option maxRecDepth 100000
/-- Since w0: the document's model x in blocks g and k, the sample s in block B. -/
structure RS (w0 : World) (g k B : Nat) (x : Mdl) (G : Int) (s : Spl) (W : World) : Prop where
  m : RM W g k x G
  b : Whole W B 34 s.c
  neg : g ≠ B
  nek : k ≠ B
  kp : Keep (own2 g k) w0 W
section
variable {w0 w w' : World} {g k B : Nat} {x y : Mdl} {G H : Int} {s : Spl}
theorem RS.begin (h : RM w g k x G) : RS w g k w.heap.size x G s (w.alloc (.cells s.c 34)) := ⟨h.kept ((Keep.refl _ _).alloc _), Whole.new _ _ _, Nat.ne_of_lt h.lt, Nat.ne_of_lt h.m.lt, (Keep.refl _ _).alloc _⟩
theorem RS.call (h : RS w0 g k B x G s w) (m : RM w' g k y H) (kk : Keep (own2 g k) w w') : RS w0 g k B y H s w' := ⟨m, h.b.keep kk (fun e => by rcases e with e | e; exact h.neg e.symm; exact h.nek e.symm), h.neg, h.nek, h.kp.trans kk⟩
theorem RS.callg (h : RS w0 g k B x G s w) (m : RM w' g k y H) (kk : Keep (fun i => i = g) w w') : RS w0 g k B y H s w' := h.call m (kk.mono fun _ e => .inl e)
theorem RS.callk (h : RS w0 g k B x G s w) (m : RM w' g k y H) (kk : Keep (fun i => i = k) w w') : RS w0 g k B y H s w' := h.call m (kk.mono fun _ e => .inr e)
theorem RS.quiet (h : RS w0 g k B x G s w) (kk : Keep (fun _ => False) w w') : RS w0 g k B x G s w' := ⟨h.m.kept kk, h.b.keep kk id, h.neg, h.nek, h.kp.trans (kk.mono fun _ e => e.elim)⟩
theorem RS.drew (h : RS w0 g k B x G s w) : RS w0 g k B x G s w.drew := h.quiet (Keep.refl _ _).drew
theorem RS.put (h : RS w0 g k B x G s w) (i : Nat) (u : Value) (hi : i < 31) (e : ∀ z, (rmL x k G z).set i u = rmL y k H z) (hb : y.b = x.b) (hq : y.q = x.q) (ho : y.o = x.o) : RS w0 g k B y H s (w.setCell ⟨g, i, none⟩ u) :=
  ⟨h.m.put i u hi e hb hq ho, h.b.far (p := ⟨g, i, none⟩) (fun e => h.neg e.symm) u, h.neg, h.nek, h.kp.setCell (p := ⟨g, i, none⟩) (.inl (.inl rfl)) u⟩
end
end Go.Proofs.YtbimmadllfgmiaaGreat
