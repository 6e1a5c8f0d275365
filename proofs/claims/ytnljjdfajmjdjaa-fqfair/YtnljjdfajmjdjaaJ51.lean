/-
  What comes in: a list of ints, as the walk reads it. Conditions: none.
-/
import Derived.Test.YtnljjdfajmjdjaaJ35
import Derived.Test.YtnljjdfajmjdjaaJ01
namespace Go.Proofs.Ytnljjdfajmjdjaa
open Go.ChangeShapes Go.WideShapes Go.ChangeAt Go.RowKit Go.Joins Go.Deep
set_option maxRecDepth 100000
set_option linter.unusedSimpArgs false

section
variable {H : Type} {enc : TypeId × Value → H} {W : World} {d : DataW H} {p : List MemPlace}
theorem open_ints {a : Option Addr} {len cap : Nat} (h : DataW.Trod enc Try.prog W 0 (fun _ => true) true 55 (.slice a len cap) d p) : ∃ l : List Int, l.length = len ∧ len ≤ 9223372036854775807 ∧ Rd .i64 W a l := by
  obtain ⟨l, hl, hm, hr⟩ := open_rows (fun v : Int => [Value.int .i64 v]) Try.underlying55 (by kernel_rfl) (fun _ => rfl) (by decide) (fun cs z n hl h => by
    match cs, hl with
    | [v], _ =>
      obtain ⟨q, f, _, g⟩ := DataW.trod_int Try.underlying3 h
      simp at f
      subst f
      exact ⟨q, rfl⟩) h
  refine ⟨l, hl, hm, fun i hi => ?_⟩
  obtain ⟨b, off, e, hlt, hc⟩ := hr i l[i] (List.getElem?_eq_getElem hi)
  refine ⟨b, off, e, hlt, ?_⟩
  have := hc 0 _ rfl
  rw [Nat.mul_one, Nat.add_zero] at this
  rw [this]
  simp [hi]
end
end Go.Proofs.Ytnljjdfajmjdjaa
