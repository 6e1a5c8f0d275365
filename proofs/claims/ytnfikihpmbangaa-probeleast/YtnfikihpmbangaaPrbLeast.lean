/-
  A Probe that is told the least round trip now and then: the plain mathematics. Conditions: those of each theorem.
-/
import Derived.Test.YtnfikihpmbangaaPrbMore
namespace Go.Proofs.Ytnfikihpmbangaa
open Go.RowKit

/-- Behind k updates: now, the least round trip, the stamp. -/
structure Lst (k : Nat) (N L S : Int) : Prop where
  n0 : 0 ≤ N
  n1 : N ≤ 1000000000 * (k : Int)
  l : Num L
  s0 : 0 ≤ S
  s1 : S ≤ N
  near : 0 < L → N - S ≤ 1000000000 * ((k : Int) % 5)
theorem Lst.zero : Lst 0 0 0 0 := ⟨by decide, by decide, ⟨by decide, by decide⟩, by decide, by decide, fun h => by omega⟩
section
variable {k : Nat} {N L S D r : Int} {st : Bool} {f o : Int}
theorem Lst.soon (h : Lst k N L S) (hk : k < 60) (d1 : D ≤ 999999999) : expB ⟨L, S, false, 0, false⟩ (N + D) = false := by
  have h1 := h.n1
  by_cases hL : 0 < L
  · have := h.near hL
    have := h.s0
    have : (k : Int) % 5 ≤ 4 := by omega
    exact exp_soon (by omega) (by omega)
  · simp [expB, hL]
theorem Lst.fresh (h : Lst k N L S) (hk : k < 60) (d0 : 0 ≤ D) (d1 : D ≤ 999999999) (hr : Num r) (h0 : 0 < r) (hL : L = 0 ∨ r ≤ L) : Upd ⟨L, S, false, 0, false⟩ ⟨N + D, r, st, f, o⟩ false false ⟨r, N + D, false, 0, false⟩ ∧ Lst (k + 1) (N + D) r (N + D) := by
  have hN := h.n0
  have hN1 := h.n1
  refine ⟨(Upd.idle (h.soon hk d1)).to (takeB_yes ?_), ⟨by omega, by omega, hr, by omega, by omega, fun _ => by omega⟩⟩
  rcases hL with rfl | hL
  · simp [tookB, h0]
  · simp [tookB, h0, hL]
theorem Lst.old (h : Lst k N L S) (hk : k < 60) (d0 : 0 ≤ D) (d1 : D ≤ 999999999) (hr : r = 0 ∨ (0 < L ∧ L < r)) (h4 : (k : Int) % 5 ≠ 4 ∨ L = 0) : Upd ⟨L, S, false, 0, false⟩ ⟨N + D, r, st, f, o⟩ false false ⟨L, S, false, 0, false⟩ ∧ Lst (k + 1) (N + D) L S := by
  have hN := h.n0
  have hN1 := h.n1
  have hS := h.s1
  refine ⟨(Upd.idle (h.soon hk d1)).to (takeB_no ?_), ⟨by omega, by omega, h.l, h.s0, by omega, fun hl => ?_⟩⟩
  · rcases hr with rfl | ⟨h1, h2⟩
    · simp [tookB]
    · exact took_worse h1 h2
  · have := h.near hl
    omega
end
end Go.Proofs.Ytnfikihpmbangaa
