/-
  What comes in: a list of uint64, as the walk reads it. Conditions: none.
-/
import Derived.Test.YtbimmadllfgmiaaGreatOpenAny
namespace Go.Proofs.YtbimmadllfgmiaaGreat
open Go.ChangeShapes Go.WideShapes Go.ChangeAt Go.RowKit Go.Joins Go.Deep
set_option maxRecDepth 100000
set_option linter.unusedSimpArgs false
/-- A number of 64 bits. -/
structure NumU where
  x : Int
  num : Num x
def cellsU (u : NumU) : List Value := [.int .u64 u.x]
section
variable {H : Type} {enc : TypeId × Value → H} {W : World} {d : DataW H} {p : List MemPlace}
theorem open_uints {a : Option Addr} {len cap : Nat} (h : DataW.Trod enc Tryz.prog W 0 (fun _ => true) true 24 (.slice a len cap) d p) : ∃ l : List NumU, l.length = len ∧ len ≤ 9223372036854775807 ∧ RdL 1 cellsU W a l := by
  refine open_rows cellsU Tryz.underlying24 (by kernel_rfl) (fun _ => rfl) (by decide) (fun cs y n hl h => ?_) h
  match cs, hl with
  | [u0], _ =>
    obtain ⟨q0, f0, _, g0⟩ := DataW.trod_int Tryz.underlying22 h
    simp at f0
    subst f0
    exact ⟨⟨q0, bounds_u64 g0⟩, rfl⟩
end
end Go.Proofs.YtbimmadllfgmiaaGreat
