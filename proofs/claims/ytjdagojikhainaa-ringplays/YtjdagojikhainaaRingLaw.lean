/-
  Words that the laws of package ring share. Conditions: those of each theorem.
-/
import Derived.Test.YtjdagojikhainaaAwakeR
namespace Go.Proofs.Ytjdagojikhainaa
open Go.RowKit

theorem ring_drew {w w' : World} {n : Nat} (e : w' = w.drewN n) {g p N : Nat} {l : List Int} (h : RingAt w g p N l) : RingAt w' g p N l := by subst e; exact h.drewN n
theorem below_drew {w0 w w' : World} {n B : Nat} (e : w' = w.drewN n) (h : Below B w0 w) : Below B w0 w' := by subst e; exact h.trans ⟨rfl, rfl, rfl, Nat.le_refl _, fun _ _ => rfl⟩
theorem rat_is {N : Nat} {l : List Int} {i v : Int} {b : Bool} (e : atV l i = v ∧ atB l i = b) (g p : Nat) (w : World) (h : RingAt w g p N l) :
    Calls Try.prog 14 #[.pointer (some ⟨g, 0, none⟩), .int .i64 i] w fun e w' => e = .returned (.tuple #[.int .i64 v, .bool b]) ∧ ∃ n, w' = w.drewN n := by
  have := rat_any g p N l i w h; rwa [e.1, e.2] at this
/-- s, s + 1, .. : n of them -/
def seg (s n : Nat) : List Int := (List.range n).map fun (j : Nat) => ((s + j : Nat) : Int)
@[simp] theorem len_seg (s n : Nat) : (seg s n).length = n := by simp [seg]
theorem seg_last (s n : Nat) : seg s n ++ [((s + n : Nat) : Int)] = seg s (n + 1) := by simp [seg, List.range_succ]
theorem seg_first (s n : Nat) : seg s (n + 1) = (s : Int) :: seg (s + 1) n := by
  unfold seg
  rw [List.range_succ_eq_map, List.map_cons, List.map_map]
  congr 1
  apply List.map_congr_left
  intro j _
  simp; omega
theorem seg_push {N n : Nat} (s : Nat) (h : n < N) {v : Int} (hv : v = ((s + n : Nat) : Int)) : pushE N (seg s n) = 0 ∧ pushS N (seg s n) v = seg s (n + 1) := by
  subst hv
  unfold pushE pushS
  rw [if_neg (by simp; omega), if_neg (by simp; omega), seg_last]
  exact ⟨rfl, rfl⟩
theorem full_push {N : Nat} (l : List Int) (v : Int) (h : l.length = N) : pushE N l = 5 ∧ pushS N l v = l := ⟨if_pos h, if_pos h⟩
theorem more_push {N : Nat} (l : List Int) (v : Int) (h : l.length < N) : pushE N l = 0 ∧ pushS N l v = l ++ [v] := ⟨if_neg (by omega), if_neg (by omega)⟩
theorem seg_pop (s n : Nat) : popV (seg s (n + 1)) = s ∧ popB (seg s (n + 1)) = true ∧ (seg s (n + 1)).tail = seg (s + 1) n := by
  rw [seg_first]
  exact ⟨rfl, by simp [popB], rfl⟩
theorem seg_pop' (s : Nat) {n : Nat} (h : 1 ≤ n) : popV (seg s n) = s ∧ popB (seg s n) = true ∧ (seg s n).tail = seg (s + 1) (n - 1) := by
  obtain ⟨j, rfl⟩ : ∃ j, n = j + 1 := ⟨n - 1, by omega⟩
  exact seg_pop s j
theorem seg_back (k : Nat) {n : Nat} (h : 1 ≤ n) : pushE n (seg (k + 1) (n - 1)) = 0 ∧ pushS n (seg (k + 1) (n - 1)) ((n : Int) + (k : Int)) = seg (k + 1) n := by
  obtain ⟨j, rfl⟩ : ∃ j, n = j + 1 := ⟨n - 1, by omega⟩
  exact seg_push (k + 1) (by omega) (by omega)
theorem getD_seg (s n t : Nat) (h : 0 < t) (h' : 0 < n) : ((seg s n).take t).getD 0 0 = s := by
  obtain ⟨j, rfl⟩ : ∃ j, n = j + 1 := ⟨n - 1, by omega⟩
  obtain ⟨i, rfl⟩ : ∃ i, t = i + 1 := ⟨t - 1, by omega⟩
  rw [seg_first]; rfl
theorem getD_idx (t : Nat) : (idx t).getD 0 0 = 0 := by
  cases t with
  | zero => rfl
  | succ t => simp [idx, List.range_succ_eq_map]
end Go.Proofs.Ytjdagojikhainaa
