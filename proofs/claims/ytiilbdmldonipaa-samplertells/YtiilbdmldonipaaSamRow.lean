/-
  A slice of what stands with segments that were sent (api.Sent), in a row of its own. Conditions: none.
-/
import Derived.Test.YtiilbdmldonipaaSamRoom
import Derived.ProofKit
import Derived.OpenShut
namespace Go.Proofs.Ytiilbdmldonipaa
open Go.RowKit

theorem Try.infoSnt : (Try.prog.info? 32).map (fun i => (i.zero, i.size, i.bytes)) = some (some (.agg #[.int .u64 0, .int .u64 0, .int .u64 0, .int .u64 0, .bool false]), 5, 40) := by kernel_rfl
theorem Try.partsSnt : ∃ i : TypeInfo, Try.prog.info? 32 = some i ∧ i.zero = some (.agg #[.int .u64 0, .int .u64 0, .int .u64 0, .int .u64 0, .bool false]) ∧ i.size = 5 ∧ i.bytes = 40 := by
  have h := Try.infoSnt
  cases hi : Try.prog.info? 32 with
  | none => rw [hi] at h; cases h
  | some i =>
    rw [hi] at h
    simp at h
    exact ⟨i, rfl, h.1, h.2.1, h.2.2⟩
def cells5 (x : Snt) : List Value := [.int .u64 x.t, .int .u64 x.d, .int .u64 x.u, .int .u64 x.f, .bool x.l]
theorem one_cells5 (c : Snt) : ∀ u ∈ cells5 c, u.oneCell' = true := fun u hu => by
  simp only [cells5, List.mem_cons, List.not_mem_nil, or_false] at hu
  rcases hu with rfl | rfl | rfl | rfl | rfl <;> rfl
def flatS : List Snt → List Value
  | [] => []
  | c :: cs => cells5 c ++ flatS cs
theorem flatS_len : ∀ cs, (flatS cs).length = cs.length * 5
  | [] => rfl
  | c :: cs => by rw [flatS, List.length_append, flatS_len cs]; simp [cells5]; omega
theorem flatS_app (cs : List Snt) (c : Snt) : flatS cs ++ cells5 c = flatS (cs ++ [c]) := by
  induction cs with
  | nil => rfl
  | cons a cs ih => rw [flatS, List.append_assoc, ih]; rfl
theorem flatS_get : ∀ (cs : List Snt) (i j : Nat) (c : Snt), cs[i]? = some c → j < 5 → (flatS cs)[i * 5 + j]? = (cells5 c)[j]?
  | [], i, j, c, h, _ => by simp at h
  | a :: cs, 0, j, c, h, hj => by simp at h; subst h; rw [flatS, List.getElem?_append_left (by simp [cells5]; omega)]; simp
  | a :: cs, i + 1, j, c, h, hj => by
    simp at h
    have := flatS_get cs i j c h hj
    rw [flatS, List.getElem?_append_right (by simp [cells5]; omega), ← this]
    congr 1
    simp [cells5]; omega
/-- v holds what is listed in l, in a row of its own, or is nil. -/
def sntsT (v : Value) (l : List Snt) : Thing := rowT v 32 5 l.length (flatS l)
section
variable {w : World} {v : Value} {l : List Snt}
theorem snts_nil (w : World) : (sntsT (.slice none 0 0) []).at_ w := World.ownsRow_nil _ _ _ _
theorem snts_shape (h : (sntsT v l).at_ w) : ∃ a cap, v = .slice a l.length cap := by
  rcases (show w.ownsRow 0 32 5 v l.length (flatS l) from h).2 with ⟨rfl, h0⟩ | ⟨g, cap, cur, rfl, _⟩
  · exact ⟨none, 0, by rw [h0]⟩
  · exact ⟨_, cap, rfl⟩
theorem snts_get {a : Option Addr} {n cap i : Nat} {x : Snt} (h : (sntsT (.slice a n cap) l).at_ w) (hn : n = l.length) (hx : l[i]? = some x) :
    ∃ r, a = some ⟨r, 0, none⟩ ∧ w.cell? ⟨r, i * 5, none⟩ = some (.int .u64 x.t) ∧ w.cell? ⟨r, i * 5 + 1, none⟩ = some (.int .u64 x.d) ∧ w.cell? ⟨r, i * 5 + 2, none⟩ = some (.int .u64 x.u) ∧ w.cell? ⟨r, i * 5 + 3, none⟩ = some (.int .u64 x.f) ∧ w.cell? ⟨r, i * 5 + 4, none⟩ = some (.bool x.l) := by
  have h' : w.ownsRow 0 32 5 (.slice a n cap) l.length (flatS l) := h
  have hi := (List.getElem?_eq_some_iff.1 hx).1
  rcases h'.2 with ⟨e, h0⟩ | ⟨g, cap', cur, e, _⟩
  · omega
  · cases e
    have hc : ∀ j, j < 5 → w.cell? ⟨g, i * 5 + j, none⟩ = (cells5 x)[j]? := fun j hj => by
      rw [World.ownsRow.cellAt h' (i * 5 + j) (by omega), flatS_get l i j x hx hj]
    exact ⟨g, rfl, hc 0 (by omega), hc 1 (by omega), hc 2 (by omega), hc 3 (by omega), hc 4 (by omega)⟩
end
/-- Another one appended. -/
theorem snts_more {w' : World} {v' : Value} {l : List Snt} {x : Snt} (h : w'.ownsRow 0 32 5 v' (l.length + 1) (flatS l ++ cells5 x)) : (sntsT v' (l ++ [x])).at_ w' := by
  show w'.ownsRow 0 32 5 v' (l ++ [x]).length (flatS (l ++ [x]))
  rw [List.length_append, List.length_singleton, ← flatS_app]
  exact h
end Go.Proofs.Ytiilbdmldonipaa
