/-
  What growth by a quarter, and by a half, and none, does to a pipe. No program is spoken of. Conditions: none.
-/
import Derived.Test.YtbeghmlbdcimlaaPip
set_option linter.unusedVariables false
namespace Go.Proofs.Ytbeghmlbdcimlaa
open Go.RowKit

theorem edgeP_le {v : Int} (h : 0 ≤ v) : edgeP v ≤ v + v / 4 := by
  unfold edgeP mulDivV
  split
  · omega
  · split
    · omega
    · split <;> omega
theorem edgeP_gt {v : Int} (h : 4 ≤ v) (h2 : v < 18446744073709551615) : v < edgeP v := by
  unfold edgeP mulDivV
  split
  · omega
  · split
    · omega
    · split <;> omega
theorem edgeP_zero : edgeP 0 = 0 := rfl
theorem fullP_iff (x : Pst) : fullP x = true ↔ 3 ≤ x.c := by simp [fullP]
theorem fullP_no {x : Pst} (h : x.c < 3) : fullP x = false := by simp [fullP]; omega
theorem stepP_full {x : Pst} {v : Int} (h : fullP x = true) : stepP x v = x := by simp [stepP, h]
theorem stepP_grow {x : Pst} {v : Int} (h : fullP x = false) (hv : edgeP x.b ≤ v) : stepP x v = ⟨v, 0⟩ := by simp [stepP, h, hv]
theorem stepP_none {x : Pst} {v : Int} (h : fullP x = false) (hv : v < edgeP x.b) : stepP x v = ⟨x.b, x.c + 1⟩ := by
  have : ¬ edgeP x.b ≤ v := by omega
  simp [stepP, h, this]
theorem updP_count (x : Pst) (v : Int) : updP x true false v = stepP x v := by simp [updP]
/-- Once full it stays full. -/
theorem updP_full {x : Pst} {st lim : Bool} {v : Int} (h : fullP x = true) : updP x st lim v = x := by
  unfold updP; split
  · exact stepP_full h
  · rfl
theorem updP_not {x : Pst} {st lim : Bool} {v : Int} (h : (st && !lim) = false) : updP x st lim v = x := by simp [updP, h]

/-- Two to the k. -/
def twoP (k : Nat) : Int := ((2 ^ k : Nat) : Int)
theorem twoP_zero : twoP 0 = 1 := rfl
theorem twoP_succ (k : Nat) : twoP (k + 1) = 2 * twoP k := by unfold twoP; rw [Nat.pow_succ]; omega
theorem twoP_pos (k : Nat) : 1 ≤ twoP k := by unfold twoP; have := Nat.one_le_two_pow (n := k); omega
theorem twoP_le {k : Nat} (h : k ≤ 40) : twoP k ≤ 1099511627776 := by
  unfold twoP
  have : 2 ^ k ≤ 2 ^ 40 := Nat.pow_le_pow_right (by decide) h
  have e : (2 : Nat) ^ 40 = 1099511627776 := by decide
  omega

/-- A pipe that grew in each of k rounds; v comes next. -/
structure Grw (k : Nat) (v : Int) (x : Pst) : Prop where
  lo : 4 ≤ v
  hi : v ≤ 1003 * twoP k
  c : x.c = 0
  e : edgeP x.b ≤ v
theorem grw_new {v : Int} (h : 4 ≤ v) (h2 : v ≤ 1003) : Grw 0 v newP := ⟨h, by rw [twoP_zero]; omega, rfl, by show edgeP 0 ≤ v; rw [edgeP_zero]; omega⟩
theorem Grw.full {k : Nat} {v : Int} {x : Pst} (h : Grw k v x) : fullP x = false := fullP_no (by have := h.c; omega)
theorem Grw.upd {k : Nat} {v : Int} {x : Pst} (h : Grw k v x) : fullP ⟨v, 0⟩ = false ∧ updP x true false v = ⟨v, 0⟩ := ⟨rfl, by rw [updP_count]; exact stepP_grow h.full h.e⟩
theorem Grw.next {k : Nat} {v : Int} {x : Pst} (h : Grw k v x) : Grw (k + 1) (v + v / 4 + 1) ⟨v, 0⟩ := by
  have h1 := h.lo; have h2 := h.hi
  refine ⟨by omega, by rw [twoP_succ]; omega, rfl, ?_⟩
  have := edgeP_le (v := v) (by omega)
  show edgeP v ≤ _
  omega
theorem Grw.top {k : Nat} {v : Int} {x : Pst} (h : Grw k v x) (hk : k ≤ 40) : v ≤ 10000000000000000 := by have := h.hi; have := twoP_le hk; omega

/-- A pipe behind k rounds that grew by a half, or not at all: v the last one, n how many came since one that grew, F whether it is full. -/
structure Cnt (k : Nat) (v n : Int) (F : Bool) (x : Pst) : Prop where
  lo : 100 ≤ v
  hi : v ≤ 1099 * twoP k
  n0 : 0 ≤ n
  nk : n ≤ k
  full : fullP x = F
  here : F = false → x.b = v ∧ x.c = n
theorem Cnt.top {k : Nat} {v n : Int} {F : Bool} {x : Pst} (h : Cnt k v n F x) (hk : k ≤ 40) : v ≤ 10000000000000000 := by have := h.hi; have := twoP_le hk; omega
theorem cnt_new {v : Int} (h : 100 ≤ v) (h2 : v ≤ 1099) : Cnt 0 v 0 false ⟨v, 0⟩ := ⟨h, by rw [twoP_zero]; omega, by omega, by simp, rfl, fun _ => ⟨rfl, rfl⟩⟩
theorem cnt_first {v : Int} (h : 0 ≤ v) : fullP ⟨v, 0⟩ = false ∧ updP newP true false v = ⟨v, 0⟩ := ⟨rfl, by rw [updP_count]; exact stepP_grow rfl (by show edgeP 0 ≤ v; rw [edgeP_zero]; exact h)⟩
theorem Cnt.grows {k : Nat} {v n : Int} {x : Pst} (h : Cnt k v n false x) : (fullP ⟨v + v / 2, 0⟩ = false ∧ updP x true false (v + v / 2) = ⟨v + v / 2, 0⟩) ∧ Cnt (k + 1) (v + v / 2) 0 false ⟨v + v / 2, 0⟩ := by
  have h1 := h.lo; have h2 := h.hi
  obtain ⟨hb, hc⟩ := h.here rfl
  refine ⟨⟨rfl, ?_⟩, ⟨by omega, by rw [twoP_succ]; omega, by omega, by omega, rfl, fun _ => ⟨rfl, rfl⟩⟩⟩
  rw [updP_count]
  refine stepP_grow h.full ?_
  rw [hb]
  have := edgeP_le (v := v) (by omega)
  omega
theorem Cnt.growsFull {k : Nat} {v n : Int} {x : Pst} (h : Cnt k v n true x) : (fullP x = true ∧ updP x true false (v + v / 2) = x) ∧ Cnt (k + 1) (v + v / 2) n true x := by
  have h1 := h.lo; have h2 := h.hi; have := h.n0; have := h.nk
  exact ⟨⟨h.full, updP_full h.full⟩, ⟨by omega, by rw [twoP_succ]; omega, by omega, by omega, h.full, fun e => by cases e⟩⟩
theorem Cnt.staysFull {k : Nat} {v n : Int} {x : Pst} (h : Cnt k v n true x) : (fullP x = true ∧ updP x true false v = x) ∧ Cnt (k + 1) v (n + 1) true x := by
  have h1 := h.lo; have h2 := h.hi; have := h.n0; have := h.nk; have := twoP_pos k
  exact ⟨⟨h.full, updP_full h.full⟩, ⟨by omega, by rw [twoP_succ]; omega, by omega, by omega, h.full, fun e => by cases e⟩⟩
theorem Cnt.stays {k : Nat} {v n : Int} {x : Pst} (h : Cnt k v n false x) (hk : k ≤ 40) : (fullP ⟨x.b, x.c + 1⟩ = decide (3 ≤ n + 1) ∧ updP x true false v = ⟨x.b, x.c + 1⟩) ∧ Cnt (k + 1) v (n + 1) (decide (3 ≤ n + 1)) ⟨x.b, x.c + 1⟩ := by
  have h1 := h.lo; have h2 := h.hi; have h3 := h.n0; have h4 := h.nk; have h5 := twoP_pos k; have h6 := h.top hk
  obtain ⟨hb, hc⟩ := h.here rfl
  have hF : fullP ⟨x.b, x.c + 1⟩ = decide (3 ≤ n + 1) := by unfold fullP; rw [hc]
  refine ⟨⟨hF, ?_⟩, ⟨by omega, by rw [twoP_succ]; omega, by omega, by omega, hF, fun _ => ⟨hb, by rw [hc]⟩⟩⟩
  rw [updP_count]
  refine stepP_none h.full ?_
  rw [hb]
  exact edgeP_gt (by omega) (by omega)
end Go.Proofs.Ytbeghmlbdcimlaa
