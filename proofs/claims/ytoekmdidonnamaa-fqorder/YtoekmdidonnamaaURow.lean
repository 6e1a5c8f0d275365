/-
  A slice of numbers of the call's own, as a thing among others in memory. Conditions: none.
-/
import Derived.Test.YtoekmdidonnamaaRoom
import Derived.Test.YtoekmdidonnamaaChecked
import Derived.ProofKit
import Derived.OpenShut
namespace Go.Proofs.Ytoekmdidonnamaa
open Go.ChangeShapes Go.WideShapes Go.ChangeAt Go.RowKit
set_option maxRecDepth 100000

theorem Try.infoUR : (Try.prog.info? 22).map (fun i => (i.zero, i.size, i.bytes)) = some (some (.int .u64 0), 1, 8) := by kernel_rfl
theorem Try.partsUR : ∃ i : TypeInfo, Try.prog.info? 22 = some i ∧ i.zero = some (.int .u64 0) ∧ i.size = 1 ∧ i.bytes = 8 := by
  have h := Try.infoUR
  cases hi : Try.prog.info? 22 with
  | none => rw [hi] at h; cases h
  | some i =>
    rw [hi] at h
    simp at h
    exact ⟨i, rfl, h.1, h.2.1, h.2.2⟩
def uvs (l : List Int) : List Value := l.map fun i => .int .u64 i
theorem uvs_len (l : List Int) : (uvs l).length = l.length := List.length_map _
theorem uvs_app (l : List Int) (i : Int) : uvs l ++ [.int .u64 i] = uvs (l ++ [i]) := by simp [uvs]
theorem uvs_one (l : List Int) : ∀ u ∈ uvs l, u.oneCell' = true := fun u hu => by simp only [uvs, List.mem_map] at hu; obtain ⟨b, _, rfl⟩ := hu; rfl
/-- v holds what is listed in l, in a row of its own, or is nil. -/
def uvsT (v : Value) (l : List Int) : Thing := rowT v 22 1 l.length (uvs l)
section
variable {w : World} {v : Value} {l : List Int}
theorem uvs_nil (w : World) : (uvsT (.slice none 0 0) []).at_ w := World.ownsRow_nil _ _ _ _
theorem uvs_shape (h : (uvsT v l).at_ w) : ∃ a cap, v = .slice a l.length cap := by
  rcases (show w.ownsRow 0 22 1 v l.length (uvs l) from h).2 with ⟨rfl, h0⟩ | ⟨g, cap, cur, rfl, _⟩
  · exact ⟨none, 0, by rw [h0]⟩
  · exact ⟨_, cap, rfl⟩
theorem uvs_get {a : Option Addr} {n cap i : Nat} {x : Int} (h : (uvsT (.slice a n cap) l).at_ w) (hn : n = l.length) (hx : l[i]? = some x) :
    ∃ r, a = some ⟨r, 0, none⟩ ∧ w.cell? ⟨r, i, none⟩ = some (.int .u64 x) := by
  have h' : w.ownsRow 0 22 1 (.slice a n cap) l.length (uvs l) := h
  have hi := (List.getElem?_eq_some_iff.1 hx).1
  rcases h'.2 with ⟨e, h0⟩ | ⟨g, cap', cur, e, _⟩
  · omega
  · cases e
    exact ⟨g, rfl, by rw [World.ownsRow.cellAt h' i (by omega)]; simp [uvs, hx]⟩
end
/-- Another one appended. -/
theorem uvs_more {w' : World} {v' : Value} {l : List Int} {x : Int} (h : w'.ownsRow 0 22 1 v' (l.length + 1) (uvs l ++ [.int .u64 x])) : (uvsT v' (l ++ [x])).at_ w' := by
  show w'.ownsRow 0 22 1 v' (l ++ [x]).length (uvs (l ++ [x]))
  rw [List.length_append, List.length_singleton, ← uvs_app]
  exact h
end Go.Proofs.Ytoekmdidonnamaa
