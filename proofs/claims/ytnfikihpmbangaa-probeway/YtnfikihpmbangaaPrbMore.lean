/-
  The plain mathematics of a Probe's Update, by what it is in. No program is spoken of beyond that. Conditions: none.
-/
import Derived.Test.YtnfikihpmbangaaAwakeB
set_option linter.unusedSimpArgs false
namespace Go.Proofs.Ytnfikihpmbangaa
open Go.RowKit
section
variable {b s u n t f o : Int} {i r st e : Bool} {x : Prb}
theorem takeB_no (h : tookB x t e = false) : takeB x n t e = x := by simp [takeB, h]
theorem takeB_yes (h : tookB x t e = true) : takeB x n t e = ⟨t, n, x.i, x.u, x.r⟩ := by simp [takeB, h]
theorem took_worse (hb : 0 < b) (ht : b < t) : tookB ⟨b, s, i, u, r⟩ t false = false := by
  have h1 : ¬ b = 0 := by omega
  have h2 : ¬ t ≤ b := by omega
  simp [tookB, h1, h2]
theorem exp_soon (hs : n ≤ s + 10000000000) (hn : n ≤ 18446744073709551615) : expB ⟨b, s, i, u, r⟩ n = false := by
  have : ¬ satAdd s 10000000000 < n := by unfold satAdd; split <;> omega
  simp [expB, this]
theorem exp_none : expB ⟨0, s, i, u, r⟩ n = false := by simp [expB]
theorem exp_late (hb : 0 < b) (hs : s + 10000000000 < n) (hn : n ≤ 18446744073709551615) : expB ⟨b, s, i, u, r⟩ n = true := by
  have : satAdd s 10000000000 < n := by unfold satAdd; split <;> omega
  simp [expB, this, hb]
theorem Upd.idle (he : expB ⟨b, s, false, u, r⟩ n = false) : Upd ⟨b, s, false, u, r⟩ ⟨n, t, st, f, o⟩ false false (takeB ⟨b, s, false, u, r⟩ n t false) :=
  ⟨by simp [begB, he], by simp [leaB], by simp [updB, goB, begB, he, takeB]⟩
theorem Upd.begins (he : expB ⟨b, s, false, u, r⟩ n = true) : Upd ⟨b, s, false, u, r⟩ ⟨n, t, st, f, o⟩ true false ⟨(takeB ⟨b, s, false, u, r⟩ n t true).b, (takeB ⟨b, s, false, u, r⟩ n t true).s, true, 0, r⟩ :=
  ⟨by simp [begB, he], by simp [leaB], by simp [updB, goB, begB, he]⟩
theorem Upd.still (he : expB ⟨b, s, true, 0, r⟩ n = e) (hf : o < f) : Upd ⟨b, s, true, 0, r⟩ ⟨n, t, st, f, o⟩ false false (takeB ⟨b, s, true, 0, r⟩ n t e) := by
  have h1 : ¬ f ≤ o := by omega
  exact ⟨by simp [begB], by simp [leaB], by simp [updB, goB, begB, he, takeB, h1]⟩
theorem Upd.waits (he : expB ⟨b, s, true, 0, r⟩ n = e) (hf : f ≤ o) : Upd ⟨b, s, true, 0, r⟩ ⟨n, t, st, f, o⟩ false false ⟨(takeB ⟨b, s, true, 0, r⟩ n t e).b, (takeB ⟨b, s, true, 0, r⟩ n t e).s, true, satAdd n 200000000, false⟩ :=
  ⟨by simp [begB], by simp [leaB], by simp [updB, goB, begB, he, hf]⟩
theorem Upd.stays (he : expB ⟨b, s, true, u, r⟩ n = e) (hu : u ≠ 0) (hl : ((r || st) && decide (u < n)) = false) : Upd ⟨b, s, true, u, r⟩ ⟨n, t, st, f, o⟩ false false ⟨(takeB ⟨b, s, true, u, r⟩ n t e).b, (takeB ⟨b, s, true, u, r⟩ n t e).s, true, u, r || st⟩ := by
  have hl' : leaB ⟨b, s, true, u, r⟩ ⟨n, t, st, f, o⟩ = false := by simp [leaB, hu]; simpa using hl
  exact ⟨by simp [begB], hl', by simp [updB, goB, begB, he, hu, hl']⟩
theorem Upd.leaves (he : expB ⟨b, s, true, u, r⟩ n = e) (hu : u ≠ 0) (hr : (r || st) = true) (hl : u < n) : Upd ⟨b, s, true, u, r⟩ ⟨n, t, st, f, o⟩ false true ⟨(takeB ⟨b, s, true, u, r⟩ n t e).b, n, false, u, true⟩ := by
  have hl' : leaB ⟨b, s, true, u, r⟩ ⟨n, t, st, f, o⟩ = true := by simp [leaB, hu, hl]; simpa using hr
  exact ⟨by simp [begB], hl', by simp [updB, goB, begB, he, hu, hl']⟩
/-- The same, with the answer as a letter. -/
theorem Upd.to {x y z : Prb} {l : Lok} {b c : Bool} (h : Upd x l b c y) (e : y = z) : Upd x l b c z := e ▸ h
end
/-- What is told as best came as a round trip, or was told ahead. -/
theorem upd_best {x y : Prb} {l : Lok} {b c : Bool} (h : Upd x l b c y) : y.b = x.b ∨ y.b = l.t := by
  have hg : ∀ z, (goB x z l).b = z.b := fun z => by unfold goB; repeat (first | rfl | split)
  rw [← h.y, updB, hg]
  show (if tookB x l.t (expB x l.n) = true then l.t else x.b) = x.b ∨ (if tookB x l.t (expB x l.n) = true then l.t else x.b) = l.t
  split
  · exact .inr rfl
  · exact .inl rfl
/-- It probes, and leaves, in turn. -/
theorem upd_turn {x y : Prb} {l : Lok} {b c : Bool} (h : Upd x l b c y) : (x.i = false ∧ b = false ∧ c = false ∧ y.i = false) ∨ (x.i = false ∧ b = true ∧ c = false ∧ y.i = true) ∨ (x.i = true ∧ b = false ∧ c = false ∧ y.i = true) ∨ (x.i = true ∧ b = false ∧ c = true ∧ y.i = false) := by
  obtain ⟨rfl, rfl, rfl⟩ := h
  cases hi : x.i
  · have hc : leaB x l = false := by simp [leaB, hi]
    cases hb : begB x l
    · exact .inl ⟨rfl, rfl, hc, by simp [updB, goB, hb, hi]⟩
    · exact .inr (.inl ⟨rfl, rfl, hc, by simp [updB, goB, hb]⟩)
  · have hb : begB x l = false := by simp [begB, hi]
    cases hc : leaB x l
    · refine .inr (.inr (.inl ⟨rfl, hb, rfl, ?_⟩))
      simp [updB, goB, hb, hi, hc]
      repeat (first | rfl | split)
    · have hu : x.u ≠ 0 := fun e => by simp [leaB, e] at hc
      exact .inr (.inr (.inr ⟨rfl, hb, rfl, by simp [updB, goB, hb, hi, hc, hu]⟩))
end Go.Proofs.Ytnfikihpmbangaa
