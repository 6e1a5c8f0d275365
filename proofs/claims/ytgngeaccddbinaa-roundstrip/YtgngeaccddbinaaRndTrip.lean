/-
  What rounds count of samples that come a round trip behind: the plain mathematics. No program is spoken of. Conditions: none.
-/
import Derived.Test.YtgngeaccddbinaaAwakeO
namespace Go.Proofs.Ytgngeaccddbinaa
open Go.RowKit

/-- Behind k samples, T a trip, of size Z. -/
def Trp (T Z k : Nat) (x : Rst) : Prop := (k = 0 ∧ x = newR) ∨ ∃ m r : Nat, k = m * T + r ∧ 1 ≤ r ∧ r ≤ T ∧ x = ⟨(((m * T + 1) * Z : Nat) : Int), ((m + 1 : Nat) : Int)⟩
theorem trp_new (T Z : Nat) : Trp T Z 0 newR := .inl ⟨rfl, rfl⟩
def trpS (Z : Nat) (p : Int) (d : Nat) : Spl := ⟨0, (d : Int), p, 0, 0, (Z : Int), 0, 0, false⟩
theorem trp_step {T Z k p d : Nat} {x : Rst} (h : Trp T Z k x) (hT : 1 ≤ T) (hZ : 1 ≤ Z) (hd : d = (k + 1) * Z) (hp : p = if T < k + 1 then (k + 1 - T) * Z else 0) : Trp T Z (k + 1) (updR x (trpS Z (p : Int) d)) := by
  have hz : ((Z : Int) == 0) = false := by simp; omega
  rcases h with ⟨rfl, rfl⟩ | ⟨m, r, rfl, h1, h2, rfl⟩
  · rw [if_neg (by omega)] at hp
    subst hp hd
    refine .inr ⟨0, 1, by omega, by omega, hT, ?_⟩
    simp only [updR, begR, trpS, hz]
    simp
  · by_cases hr : r = T
    · subst hr
      have e1 : m * r + r + 1 - r = m * r + 1 := by omega
      rw [if_pos (by omega), e1] at hp
      subst hp
      refine .inr ⟨m + 1, 1, by rw [Nat.add_mul]; omega, by omega, hT, ?_⟩
      have hb : begR ⟨(((m * r + 1) * Z : Nat) : Int), ((m + 1 : Nat) : Int)⟩ (trpS Z (((m * r + 1) * Z : Nat) : Int) d) = true := by
        simp only [begR, trpS, hz, Int.lt_irrefl]; simp
      unfold updR
      rw [if_pos hb, hd]
      show Rst.mk (((m * r + r + 1) * Z : Nat) : Int) (((m + 1 : Nat) : Int) + 1) = _
      rw [show (m + 1) * r + 1 = m * r + r + 1 by rw [Nat.add_mul]; omega]
      rfl
    · refine .inr ⟨m, r + 1, by omega, by omega, by omega, ?_⟩
      have hlt : p < (m * T + 1) * Z := by
        rw [hp]
        split
        · exact Nat.mul_lt_mul_of_pos_right (by omega) hZ
        · exact Nat.mul_pos (by omega) hZ
      have hb : begR ⟨(((m * T + 1) * Z : Nat) : Int), ((m + 1 : Nat) : Int)⟩ (trpS Z p d) = false := by
        have : (p : Int) < (((m * T + 1) * Z : Nat) : Int) := by omega
        simp only [begR, trpS, hz, this]; simp
      unfold updR
      rw [if_neg (by rw [hb]; simp)]
theorem trp_end {T Z N : Nat} {x : Rst} (h : Trp T Z (N * T) x) (hT : 1 ≤ T) (hN : 1 ≤ N) : x.c = (N : Int) := by
  rcases h with ⟨h, _⟩ | ⟨m, r, hk, h1, h2, rfl⟩
  · have := Nat.mul_pos hN hT
    omega
  · show ((m + 1 : Nat) : Int) = _
    have h3 : N = m + 1 := by
      rcases Nat.lt_trichotomy N (m + 1) with h | h | h
      · have := Nat.mul_le_mul_right T (show N ≤ m by omega)
        omega
      · exact h
      · have := Nat.mul_le_mul_right T (show m + 2 ≤ N by omega)
        rw [Nat.add_mul] at this
        omega
    rw [h3]
theorem trp_c {T Z k : Nat} {x : Rst} (h : Trp T Z k x) (hT : 1 ≤ T) : 0 ≤ x.c ∧ x.c ≤ (k : Int) := by
  rcases h with ⟨rfl, rfl⟩ | ⟨m, r, rfl, h1, h2, rfl⟩
  · exact ⟨by decide, by decide⟩
  · have := Nat.mul_le_mul_left m hT
    show 0 ≤ ((m + 1 : Nat) : Int) ∧ ((m + 1 : Nat) : Int) ≤ _
    omega
end Go.Proofs.Ytgngeaccddbinaa
