/-
  The calls of package clock (New, Now, Move, After) answer what the document says, at every clock and every number of 64 bits. Conditions: the clock lies in memory as New makes it; the numbers are of their kind.
-/
import Derived.Test.YtnfgkfbcijnhcaaSat
import Derived.Test.YtnfgkfbcijnhcaaObj
import Derived.LoopTactic
import Derived.Deep.LoopGhost
namespace Go.Proofs.Ytnfgkfbcijnhcaa
open Go.RowKit

/-! ### The plain mathematics -/
def capT (a : Int) : Int := if a ≤ 4611686018427387904 then a else 4611686018427387904
def moveE (n t : Int) : Int := if 4611686018427387904 < t then 3 else if t < n then 4 else 0
def moveN (n t : Int) : Int := if 4611686018427387904 < t then n else if t < n then n else t
def afterV (n d : Int) : Int := if n + d ≤ 4611686018427387904 then n + d else 4611686018427387904
def reachV (t m0 m1 : Int) : Int := if t < m0 then 0 else if t < m1 then 1 else 2

theorem capT_bd {a : Int} (h : 0 ≤ a) : 0 ≤ capT a ∧ capT a ≤ 4611686018427387904 := by unfold capT; split <;> omega
theorem moveN_bd {n t : Int} (h : 0 ≤ n) (h' : n ≤ 4611686018427387904) (ht : 0 ≤ t) : 0 ≤ moveN n t ∧ moveN n t ≤ 4611686018427387904 := by unfold moveN; split <;> (try split) <;> omega
theorem afterV_bd {n d : Int} (h : 0 ≤ n) (hd : 0 ≤ d) : 0 ≤ afterV n d ∧ afterV n d ≤ 4611686018427387904 := by unfold afterV; split <;> omega

/-- A clock at n. -/
def ClockAt (w : World) (g : Nat) (n : Int) : Prop := Whole w g 36 #[.int .u64 n] ∧ 0 ≤ n ∧ n ≤ 4611686018427387904

theorem ClockAt.lt {w : World} {g : Nat} {n : Int} (h : ClockAt w g n) : g < w.heap.size := h.1.lt
theorem ClockAt.keep {S : Nat → Prop} {w w' : World} {g : Nat} {n : Int} (h : ClockAt w g n) (hk : Keep S w w') (hs : ¬ S g) : ClockAt w' g n := ⟨h.1.keep hk hs, h.2⟩
theorem ClockAt.below {w w' : World} {g : Nat} {n : Int} (h : ClockAt w g n) (hb : Below w.heap.size w w') : ClockAt w' g n := ⟨h.1.below hb h.lt, h.2⟩
theorem ClockAt.cell {w : World} {g : Nat} {n : Int} (h : ClockAt w g n) : w.cell? ⟨g, 0, none⟩ = some (.int .u64 n) := h.1.cell 0

theorem ClockAt.drew {w : World} {g : Nat} {n : Int} (h : ClockAt w g n) : ClockAt w.drew g n := h

set_option maxHeartbeats 400000 in
theorem cnew_any (a : Int) (h0 : 0 ≤ a) (h1 : a ≤ 18446744073709551615) (w : World) :
    Calls Try.prog 6 #[.int .u64 a] w fun e w' => e = .returned (.pointer (some ⟨w.heap.size, 0, none⟩)) ∧ ClockAt w' w.heap.size (capT a) ∧ Keep (fun _ => False) w w' := by
  rcases Int.lt_trichotomy a 4611686018427387904 with h | h | h
  · have He : Hid (capT a = a) := Lib.hid (if_pos (by omega))
    go_enter Try.func6, Try.ntmps6
    go_wp2
    go_ret
    exact ⟨rfl, ⟨by rw [He.out]; exact Whole.new _ _ _, capT_bd h0⟩, (Keep.refl _ _).alloc _⟩
  · subst h
    go_enter Try.func6, Try.ntmps6
    go_wp2
    go_ret
    exact ⟨rfl, ⟨Whole.new _ _ _, capT_bd h0⟩, (Keep.refl _ _).alloc _⟩
  · have He : Hid (capT a = 4611686018427387904) := Lib.hid (if_neg (by omega))
    go_enter Try.func6, Try.ntmps6
    go_wp2
    go_ret
    exact ⟨rfl, ⟨by rw [He.out]; exact Whole.new _ _ _, capT_bd h0⟩, (Keep.refl _ _).alloc _⟩

set_option maxHeartbeats 400000 in
theorem now_any (g : Nat) (n : Int) (w : World) (h : ClockAt w g n) :
    Calls Try.prog 9 #[.pointer (some ⟨g, 0, none⟩)] w fun e w' => e = .returned (.int .u64 n) ∧ w = w' := by
  have hc := h.cell
  clear h
  go_enter Try.func9, Try.ntmps9
  go_wp2
  go_ret
  exact ⟨rfl, rfl⟩

theorem now_nil (w : World) : Calls Try.prog 9 #[.pointer none] w fun e w' => e = .returned (.int .u64 0) ∧ w = w' := by
  go_enter Try.func9, Try.ntmps9
  go_wp2
  go_ret
  exact ⟨rfl, rfl⟩

set_option maxHeartbeats 400000 in
theorem after_any (g : Nat) (n d : Int) (w : World) (h : ClockAt w g n) (hd0 : 0 ≤ d) (hd1 : d ≤ 18446744073709551615) :
    Calls Try.prog 10 #[.pointer (some ⟨g, 0, none⟩), .int .u64 d] w fun e w' => e = .returned (.int .u64 (afterV n d)) ∧ w = w' := by
  have hc := h.cell
  obtain ⟨_, h0, h1⟩ := h
  rcases Int.lt_trichotomy (satAdd n d) 4611686018427387904 with h | h | h
  · have He : Hid (satAdd n d = afterV n d) := Lib.hid (by unfold satAdd afterV at *; repeat' split at *
                                                           all_goals omega)
    go_enter Try.func10, Try.ntmps10
    go_wp2_with (go_at_call 13; refine (add_any _ _ (by omega) (by omega) (by omega) (by omega) _).mono ?_; rintro e w' ⟨rfl, rfl⟩)
    go_ret
    exact ⟨ret_int He.out, rfl⟩
  · have He : Hid (afterV n d = 4611686018427387904) := Lib.hid (by unfold satAdd afterV at *; repeat' split at *
                                                                    all_goals omega)
    have Hs := Lib.hid h
    have h2 : ¬ satAdd n d < 4611686018427387904 := by omega
    have h3 : ¬ 4611686018427387904 < satAdd n d := by omega
    clear h
    go_enter Try.func10, Try.ntmps10
    go_wp2_with (go_at_call 13; refine (add_any _ _ (by omega) (by omega) (by omega) (by omega) _).mono ?_; rintro e w' ⟨rfl, rfl⟩)
    all_goals go_ret
    all_goals exact ⟨ret_int (by rw [He.out]; first | rfl | exact Hs.out), rfl⟩
  · have He : Hid (afterV n d = 4611686018427387904) := Lib.hid (by unfold satAdd afterV at *; repeat' split at *
                                                                    all_goals omega)
    go_enter Try.func10, Try.ntmps10
    go_wp2_with (go_at_call 13; refine (add_any _ _ (by omega) (by omega) (by omega) (by omega) _).mono ?_; rintro e w' ⟨rfl, rfl⟩)
    go_ret
    exact ⟨ret_int He.out.symm, rfl⟩

theorem after_nil (d : Int) (w : World) : Calls Try.prog 10 #[.pointer none, .int .u64 d] w fun e w' => e = .returned (.int .u64 0) ∧ w = w' := by
  go_enter Try.func10, Try.ntmps10
  go_wp2
  go_ret
  exact ⟨rfl, rfl⟩

set_option maxHeartbeats 400000 in
theorem reached_any (t m0 m1 : Int) (b : Nat) (w : World) (hc0 : w.cell? ⟨b, 0, none⟩ = some (.int .u64 m0)) (hc1 : w.cell? ⟨b, 1, none⟩ = some (.int .u64 m1)) :
    Calls Try.prog 12 #[.int .u64 t, .slice (some ⟨b, 0, none⟩) 2 2] w fun e w' => e = .returned (.int .i64 (reachV t m0 m1)) ∧ w = w' := by
  go_enter Try.func12, Try.ntmps12
  go_wp2
  go_step3
  go_wp2
  go_step3
  go_wp2
  go_loop [5, 10] (fun c i => ∃ k : Nat, k ≤ 2 ∧ i = .int .i64 k ∧ c = .int .i64 k ∧ (1 ≤ k → m0 ≤ t) ∧ (2 ≤ k → m1 ≤ t)) (fun _ i => 2 - (intOf i).toNat)
  case atStart => exact ⟨0, by omega, rfl, rfl, by omega, by omega⟩
  case round =>
    obtain ⟨k, hk, rfl, rfl, h0, h1⟩ := hrel
    have : k = 0 ∨ k = 1 ∨ k = 2 := by omega
    rcases this with rfl | rfl | rfl
    · clear h0 h1
      by_cases h : t < m0
      · have He : Hid (reachV t m0 m1 = 0) := Lib.hid (if_pos h)
        go_wp2
        try rw [Exit.noGoto_ret]
        go_ret
        exact ⟨ret_int He.out.symm, rfl⟩
      · have h : m0 ≤ t := by omega
        go_wp2
        go_round
        case rel => exact ⟨1, by omega, by go_num, by go_num, fun _ => h, by omega⟩
        case measure => simp [intOf]
    · have h0 := h0 (by omega)
      clear h1
      by_cases h : t < m1
      · have He : Hid (reachV t m0 m1 = 1) := Lib.hid (by unfold reachV; rw [if_neg (by omega), if_pos h])
        go_wp2
        try rw [Exit.noGoto_ret]
        go_ret
        exact ⟨ret_int He.out.symm, rfl⟩
      · have h : m1 ≤ t := by omega
        go_wp2
        go_round
        case rel => exact ⟨2, by omega, by go_num, by go_num, fun _ => h0, fun _ => h⟩
        case measure => simp [intOf]
    · have h0 := h0 (by omega)
      have h1 := h1 (by omega)
      have He : Hid (reachV t m0 m1 = 2) := Lib.hid (by unfold reachV; rw [if_neg (by omega), if_neg (by omega)])
      go_wp2
      try rw [Exit.noGoto_ret]
      go_ret
      exact ⟨ret_int He.out.symm, rfl⟩

theorem move_nil (t : Int) (w : World) : Calls Try.prog 8 #[.pointer none, .int .u64 t] w fun e w' => e = .returned (.int .i64 2) ∧ w = w' := by
  go_enter Try.func8, Try.ntmps8
  go_wp2
  go_ret
  exact ⟨rfl, rfl⟩

/-- What Move leaves: its answer, the clock, and all else as it was. -/
def Moved (g : Nat) (n t : Int) (w : World) (e : Ending) (w' : World) : Prop := e = .returned (.int .i64 (moveE n t)) ∧ ClockAt w' g (moveN n t) ∧ Keep (· = g) w w'

set_option maxHeartbeats 400000 in
theorem move_any (g : Nat) (n t : Int) (w : World) (h : ClockAt w g n) (ht0 : 0 ≤ t) (ht1 : t ≤ 18446744073709551615) :
    Calls Try.prog 8 #[.pointer (some ⟨g, 0, none⟩), .int .u64 t] w (Moved g n t w) := by
  have hc := h.cell
  have hlt := h.lt
  have hf := h.1.free 0
  have hne : g ≠ w.heap.size := by omega
  have HC := Lib.hid h
  obtain ⟨_, n0, n1⟩ := h
  have HN := Lib.hid (moveN_bd n0 n1 ht0)
  have R := fun (W : World) hc0 hc1 => reached_any t n 4611686018427387905 w.heap.size W hc0 hc1
  by_cases hA : 4611686018427387904 < t
  · have hr : reachV t n 4611686018427387905 = 2 := by unfold reachV; rw [if_neg (by omega), if_neg (by omega)]
    rw [hr] at R
    have HR := Lib.hid R; clear R hr
    have He : Hid (moveE n t = 3) := Lib.hid (if_pos hA)
    have Hn : Hid (moveN n t = n) := Lib.hid (if_pos hA)
    go_enter Try.func8, Try.ntmps8
    go_wp2_with (go_at_call 12; refine (HR.out _ (by simp [go_sem]) (by simp [go_sem])).mono ?_; rintro e w' ⟨rfl, rfl⟩)
    go_ret
    exact ⟨ret_int He.out.symm, ⟨by rw [Hn.out]; exact HC.out.1.alloc _, HN.out⟩, (Keep.refl _ _).alloc _⟩
  · by_cases hB : t < n
    · have hr : reachV t n 4611686018427387905 = 0 := by unfold reachV; rw [if_pos (by omega)]
      rw [hr] at R
      have HR := Lib.hid R; clear R hr
      have He : Hid (moveE n t = 4) := Lib.hid (by unfold moveE; rw [if_neg (by omega), if_pos hB])
      have Hn : Hid (moveN n t = n) := Lib.hid (by unfold moveN; rw [if_neg (by omega), if_pos hB])
      go_enter Try.func8, Try.ntmps8
      go_wp2_with (go_at_call 12; refine (HR.out _ (by simp [go_sem]) (by simp [go_sem])).mono ?_; rintro e w' ⟨rfl, rfl⟩)
      go_ret
      exact ⟨ret_int He.out.symm, ⟨by rw [Hn.out]; exact HC.out.1.alloc _, HN.out⟩, (Keep.refl _ _).alloc _⟩
    · have hr : reachV t n 4611686018427387905 = 1 := by unfold reachV; rw [if_neg (by omega), if_pos (by omega)]
      rw [hr] at R
      have HR := Lib.hid R; clear R hr
      have He : Hid (moveE n t = 0) := Lib.hid (by unfold moveE; rw [if_neg (by omega), if_neg (by omega)])
      have Hn : Hid (moveN n t = t) := Lib.hid (by unfold moveN; rw [if_neg (by omega), if_neg (by omega)])
      go_enter Try.func8, Try.ntmps8
      go_wp2_with (go_at_call 12; refine (HR.out _ (by simp [go_sem]) (by simp [go_sem])).mono ?_; rintro e w' ⟨rfl, rfl⟩)
      go_ret
      exact ⟨ret_int He.out.symm, ⟨by rw [Hn.out]; exact (HC.out.1.put 0 _).alloc _, HN.out⟩, ((Keep.refl (· = g) _).setCell (p := ⟨g, 0, none⟩) (.inl rfl) _).alloc _⟩
end Go.Proofs.Ytnfgkfbcijnhcaa
