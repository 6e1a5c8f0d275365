/-
  How much goes in one segment (package tso), as plain numbers: what the document says, and what follows from it. Conditions: none; no program is spoken of.
-/
import Derived.WalkKit
namespace Go.Proofs.Ytbeicnabafapnaa

/-- An mss as it is held. -/
def heldT (m : Int) : Int := if m < 100 then 100 else if 9000 < m then 9000 else m
/-- How many segments at most. -/
def mostT (h : Int) : Int := 65536 / h
/-- How many segments go. -/
def segsT (r h : Int) : Int := if min (r / 1024 / h) (mostT h) < 2 then 2 else min (r / 1024 / h) (mostT h)
/-- How much goes in one segment. -/
def sizeT (r m : Int) : Int := segsT r (heldT m) * heldT m

theorem held_low (m : Int) : 100 ≤ heldT m := by unfold heldT; split <;> omega
theorem held_high (m : Int) : heldT m ≤ 9000 := by unfold heldT; repeat' split <;> omega
theorem held_in {m : Int} (h1 : 100 ≤ m) (h2 : m ≤ 9000) : heldT m = m := by unfold heldT; rw [if_neg (by omega), if_neg (by omega)]
theorem held_held (m : Int) : heldT (heldT m) = heldT m := held_in (held_low m) (held_high m)
theorem size_held (r m : Int) : sizeT r (heldT m) = sizeT r m := by unfold sizeT; rw [held_held]

section
variable {h r : Int}
theorem most_mul (h0 : 100 ≤ h) : mostT h * h ≤ 65536 := Int.ediv_mul_le _ (by omega)
theorem most_near (h0 : 100 ≤ h) : 65536 < mostT h * h + h := by
  have := Int.lt_ediv_add_one_mul_self 65536 (show 0 < h by omega)
  rw [Int.add_mul, Int.one_mul] at this
  exact this
theorem most_low (h0 : 100 ≤ h) (h1 : h ≤ 9000) : 7 ≤ mostT h := (Int.le_ediv_iff_mul_le (by omega)).2 (by omega)
theorem most_high (h0 : 100 ≤ h) : mostT h ≤ 655 := by
  have := most_mul h0
  rcases Int.lt_or_le 655 (mostT h) with a | a
  · have := Int.mul_le_mul (show 656 ≤ mostT h by omega) h0 (by omega) (by omega)
    omega
  · exact a
theorem segs_low (r h : Int) : 2 ≤ segsT r h := by unfold segsT; split <;> omega
theorem segs_most (h0 : 100 ≤ h) (h1 : h ≤ 9000) : segsT r h ≤ mostT h := by
  have := most_low h0 h1
  unfold segsT
  split <;> omega
theorem segs_mono {r' : Int} (h0 : 100 ≤ h) (hr : r ≤ r') : segsT r h ≤ segsT r' h := by
  have a : r / 1024 / h ≤ r' / 1024 / h := Int.ediv_le_ediv (by omega) (Int.ediv_le_ediv (by omega) hr)
  unfold segsT
  repeat' split <;> omega
theorem segs_worth (h0 : 100 ≤ h) : segsT r h = 2 ∨ segsT r h * h ≤ r / 1024 := by
  have a : r / 1024 / h * h ≤ r / 1024 := Int.ediv_mul_le _ (by omega)
  unfold segsT
  split
  · exact .inl rfl
  · refine .inr (Int.le_trans (Int.mul_le_mul_of_nonneg_right (Int.min_le_left _ _) (by omega)) a)
theorem segs_near (h0 : 100 ≤ h) : 65536 - h < segsT r h * h ∨ r / 1024 < segsT r h * h + h := by
  have a := Int.lt_ediv_add_one_mul_self (r / 1024) (show 0 < h by omega)
  rw [Int.add_mul, Int.one_mul] at a
  have b := most_near h0
  have c : min (r / 1024 / h) (mostT h) ≤ segsT r h := by unfold segsT; split <;> omega
  have d := Int.mul_le_mul_of_nonneg_right c (show 0 ≤ h by omega)
  rcases Int.le_total (r / 1024 / h) (mostT h) with e | e
  · rw [Int.min_eq_left e] at d
    exact .inr (by omega)
  · rw [Int.min_eq_right e] at d
    exact .inl (by omega)
theorem segs_all (h0 : 100 ≤ h) (h1 : h ≤ 9000) : segsT 18446744073709551615 h = mostT h := by
  have a : 655 ≤ (18446744073709551615 : Int) / 1024 / h := (Int.le_ediv_iff_mul_le (by omega)).2 (by omega)
  have b := most_high h0
  have c := most_low h0 h1
  unfold segsT
  rw [Int.min_eq_right (by omega), if_neg (by omega)]
theorem segs_at {n o : Int} (h0 : 100 ≤ h) (ho : 0 ≤ o) (ho1 : o < 1024) : (n * h * 1024 + o) / 1024 / h = n := by
  rw [show n * h * 1024 + o = o + n * h * 1024 from Int.add_comm _ _, Int.add_mul_ediv_right _ _ (by omega), Int.ediv_eq_zero_of_lt ho ho1, Int.zero_add, Int.mul_ediv_cancel _ (by omega)]
theorem segs_under {n : Int} (h0 : 100 ≤ h) : (n * h * 1024 - 1) / 1024 / h = n - 1 := by
  have a : (n * h * 1024 - 1) / 1024 = n * h - 1 := by omega
  rw [a, show n * h - 1 = (h - 1) + (n - 1) * h by rw [Int.sub_mul, Int.one_mul]; omega, Int.add_mul_ediv_right _ _ (by omega), Int.ediv_eq_zero_of_lt (by omega) (by omega), Int.zero_add]
end
theorem size_mod (r m : Int) : sizeT r m % heldT m = 0 := Int.mul_emod_left _ _
theorem size_low (r m : Int) : 2 * heldT m ≤ sizeT r m := Int.mul_le_mul_of_nonneg_right (segs_low r _) (by have := held_low m; omega)
theorem size_high (r m : Int) : sizeT r m ≤ 65536 := Int.le_trans (Int.mul_le_mul_of_nonneg_right (segs_most (held_low m) (held_high m)) (by have := held_low m; omega)) (most_mul (held_low m))
theorem size_mono {r r' : Int} (m : Int) (h : r ≤ r') : sizeT r m ≤ sizeT r' m := Int.mul_le_mul_of_nonneg_right (segs_mono (held_low m) h) (by have := held_low m; omega)
theorem size_worth (r m : Int) : sizeT r m = 2 * heldT m ∨ sizeT r m ≤ r / 1024 := (segs_worth (held_low m)).imp (fun e => by unfold sizeT; rw [e]) id
theorem size_near (r m : Int) : 65536 - heldT m < sizeT r m ∨ r / 1024 < sizeT r m + heldT m := segs_near (held_low m)
theorem size_all (m : Int) : sizeT 18446744073709551615 m = 65536 / heldT m * heldT m := by unfold sizeT; rw [segs_all (held_low m) (held_high m)]; rfl
theorem size_at {n o m : Int} (h1 : 100 ≤ m) (h2 : m ≤ 9000) (ho : 0 ≤ o) (ho1 : o < 1024) : sizeT (n * m * 1024 + o) m = (if min n (65536 / m) < 2 then 2 else min n (65536 / m)) * m := by
  unfold sizeT segsT mostT; rw [held_in h1 h2, segs_at h1 ho ho1]
theorem size_under {n m : Int} (h1 : 100 ≤ m) (h2 : m ≤ 9000) : sizeT (n * m * 1024 - 1) m = (if min (n - 1) (65536 / m) < 2 then 2 else min (n - 1) (65536 / m)) * m := by
  unfold sizeT segsT mostT; rw [held_in h1 h2, segs_under h1]

/-! ### The walk over sizes -/
/-- A size on the walk: so many segments, two at least, no more than go; at most j rounds are to come. -/
def WkT (r h : Int) (j : Nat) (s : Int) : Prop := ∃ k : Int, s = k * h ∧ 2 ≤ k ∧ k ≤ segsT r h ∧ 657 ≤ k + j
section
variable {h r s : Int} {j : Nat}
theorem WkT.start (r h : Int) : WkT r h 655 (2 * h) := ⟨2, rfl, by decide, segs_low r h, by decide⟩
theorem WkT.low (w : WkT r h j s) (h0 : 100 ≤ h) : 200 ≤ s := by
  obtain ⟨k, rfl, k2, _, _⟩ := w
  have := Int.mul_le_mul k2 h0 (by omega) (by omega)
  omega
theorem WkT.high (w : WkT r h j s) (h0 : 100 ≤ h) (h1 : h ≤ 9000) : s ≤ 65536 := by
  obtain ⟨k, rfl, k2, k3, _⟩ := w
  exact Int.le_trans (Int.mul_le_mul_of_nonneg_right (Int.le_trans k3 (segs_most h0 h1)) (by omega)) (most_mul h0)
theorem WkT.full (w : WkT r h j s) (h0 : 100 ≤ h) (h1 : h ≤ 9000) (e : 65536 < s + h) : segsT r h * h = s := by
  obtain ⟨k, rfl, k2, k3, _⟩ := w
  have a := segs_most (r := r) h0 h1
  have b := most_mul h0
  have c : segsT r h * h ≤ mostT h * h := Int.mul_le_mul_of_nonneg_right a (by omega)
  have d : segsT r h * h < (k + 1) * h := by rw [Int.add_mul, Int.one_mul]; omega
  have f := Int.lt_of_mul_lt_mul_right d (show 0 ≤ h by omega)
  rw [show segsT r h = k by omega]
theorem WkT.over (w : WkT r h j s) (h0 : 100 ≤ h) (e : r / 1024 < s + h) : segsT r h * h = s := by
  obtain ⟨k, rfl, k2, k3, _⟩ := w
  rcases segs_worth (r := r) h0 with a | a
  · rw [show segsT r h = k by omega]
  · have d : segsT r h * h < (k + 1) * h := by rw [Int.add_mul, Int.one_mul]; omega
    have f := Int.lt_of_mul_lt_mul_right d (show 0 ≤ h by omega)
    rw [show segsT r h = k by omega]
theorem WkT.next (w : WkT r h j s) (h0 : 100 ≤ h) (e1 : s + h ≤ 65536) (e2 : s + h ≤ r / 1024) : 0 < j ∧ WkT r h (j - 1) (s + h) := by
  obtain ⟨k, rfl, k2, k3, k4⟩ := w
  have a : (k + 1) * h = k * h + h := by rw [Int.add_mul, Int.one_mul]
  have b : k + 1 ≤ r / 1024 / h := (Int.le_ediv_iff_mul_le (by omega)).2 (by omega)
  have c : k + 1 ≤ mostT h := (Int.le_ediv_iff_mul_le (by omega)).2 (by omega)
  have d := most_high h0
  have f : k + 1 ≤ segsT r h := by
    have : k + 1 ≤ min (r / 1024 / h) (mostT h) := Int.le_min.2 ⟨b, c⟩
    unfold segsT; split <;> omega
  exact ⟨by omega, k + 1, a.symm, by omega, f, by omega⟩
end
end Go.Proofs.Ytbeicnabafapnaa
