/-
  Small calls of package rbtree: side, hang. Conditions: the tree lies in memory.
-/
import Derived.Test.YtfbbmpmgceghfaaRbSt
import Derived.Test.YtfbbmpmgceghfaaChecked
import Derived.WalkSpells
import Derived.WalkLawsBesides
import Derived.LoopTactic
import Derived.Deep.QuietTactic
import Derived.Deep.DeepCutAuto
import Derived.Deep.Draws
import Derived.BigQuiet
namespace Go.Proofs.Ytfbbmpmgceghfaa
open Go.RowKit
set_option maxRecDepth 100000

def bit (b : Bool) : Int := if b then 1 else 0

set_option maxHeartbeats 400000 in
theorem side_any {g b cap n tp : Nat} {pa : Value} {m : Nat → Nd} (at_ : Nat) (w : World) (t : Tr w g b cap pa n tp m) (ha : at_ < n) (hu : (m at_).up < n) :
    Calls Try.prog 44 #[.pointer (some ⟨g, 0, none⟩), .int .i64 (at_ : Int)] w fun e w' => e = .returned (.int .i64 (bit (sideM m at_))) ∧ ∃ k, w' = w.drewN k := by
  have c1 := t.st.cell 1
  have c2 : w.cell? ⟨b, at_ * 6 + 2, none⟩ = some (.int .i64 ((m at_).up : Int)) := t.cell ha (by decide)
  have c3 : w.cell? ⟨b, (m at_).up * 6 + 4, none⟩ = some (.int .i64 ((m (m at_).up).hi : Int)) := t.cell hu (by decide)
  have hc := t.cap_le
  have hc2 : cap ≤ 9223372036854775807 := by have := hc.2; unfold maxLen at this; omega
  have hc1 := hc.1
  unfold sideM
  clear t hc
  generalize (m at_).up = u at *
  generalize (m u).hi = v at *
  by_cases e : v = at_
  · subst e
    have HE : Hid (bit (decide (v = v)) = 1) := Lib.hid (by simp [bit])
    go_enter Try.func44, Try.ntmps44
    go_wp2
    go_quiet (fail)
    go_wp2
    go_ret
    exact ⟨ret_i HE.out.symm, _, rfl⟩
  · have HE : Hid (bit (decide (v = at_)) = 0) := Lib.hid (by simp [bit, e])
    have hq : ((v : Int) == (at_ : Int)) = false := by rw [beq_eq_false_iff_ne]; omega
    go_enter Try.func44, Try.ntmps44
    go_wp2
    go_quiet (fail)
    go_wp2
    go_ret
    exact ⟨ret_i HE.out.symm, _, rfl⟩

theorem cells_up (x : Nd) (p : Nat) : cellsN (x.setUp p) = (cellsN x).set 2 (.int .i64 (p : Int)) := rfl
theorem cells_lo (x : Nd) (p : Nat) : cellsN (x.setKid false p) = (cellsN x).set 3 (.int .i64 (p : Int)) := rfl
theorem cells_hi (x : Nd) (p : Nat) : cellsN (x.setKid true p) = (cellsN x).set 4 (.int .i64 (p : Int)) := rfl
theorem cells_red (x : Nd) (b : Bool) : cellsN { x with red := b } = (cellsN x).set 5 (.bool b) := rfl
theorem Tr.capB {w : World} {g b cap n tp : Nat} {pa : Value} {m : Nat → Nd} (t : Tr w g b cap pa n tp m) : n ≤ cap ∧ cap ≤ 9223372036854775807 := by
  have hc := t.cap_le
  exact ⟨hc.1, by have := hc.2; unfold maxLen at this; omega⟩
def Mine (g h : Nat) (k : Nat) : Prop := k = g ∨ k = h


set_option maxHeartbeats 1000000 in
theorem hang_any {g b cap n tp : Nat} {pa : Value} {m : Nat → Nd} (a p : Nat) (s : Bool) (w : World) (t : Tr w g b cap pa n tp m) (ha : a < n) (hp : p < n) :
    Calls Try.prog 27 #[.pointer (some ⟨g, 0, none⟩), .int .i64 (a : Int), .int .i64 (p : Int), .int .i64 (bit s)] w fun e w' =>
      (∃ v, e = .returned v) ∧ Tr w' g b cap pa n (hangT tp a p) (hangM m a p s) ∧ Keep (Mine g b) w w' := by
  have c1 := t.st.cell 1
  have ft := t.st.free 2
  have ct := t.st.cell 2
  unfold hangM hangT
  by_cases ep : p = 0
  · subst ep
    simp only [if_true]
    have T1 := Lib.hid (t.putTop a)
    have K1 : Hid (Keep (Mine g b) w (w.setCell ⟨g, 2, none⟩ (.int .i64 (a : Int)))) := Lib.hid ((Keep.refl _ _).setCell (.inl (.inl rfl)) _)
    clear t
    have c1' := T1.out.st.cell 1
    have f2 := T1.out.free (a * 6 + 2)
    obtain ⟨hc1, hc2⟩ := T1.out.capB
    by_cases ea : a = 0
    · subst ea
      go_enter Try.func27, Try.ntmps27
      go_wp2
      go_end0
      exact ⟨⟨_, rfl⟩, T1.out, K1.out⟩
    · have e2 : ((a : Int) == 0) = false := by rw [beq_eq_false_iff_ne]; omega
      have T2 := Lib.hid (T1.out.put (i := a) (cells_up _ 0) (by decide))
      have c2 := T1.out.cell (i := a) (j := 2) ha (by decide)
      rw [show (cellsN _)[2]? = some (.int .i64 _) from rfl] at c2
      go_enter Try.func27, Try.ntmps27
      go_wp2
      go_end0
      exact ⟨⟨_, rfl⟩, (by first | exact T2.out | (simp only [if_neg ea]; exact T2.out)), K1.out.setCell (p := ⟨b, a * 6 + 2, none⟩) (.inl (.inr rfl)) _⟩
  · simp only [if_neg ep]
    have e1 : ((p : Int) == 0) = false := by rw [beq_eq_false_iff_ne]; omega
    cases s
    · have T1 := Lib.hid (t.put (i := p) (cells_lo _ a) (by decide))
      have K1 : Hid (Keep (Mine g b) w (w.setCell ⟨b, p * 6 + 3, none⟩ (.int .i64 (a : Int)))) := Lib.hid ((Keep.refl _ _).setCell (.inl (.inr rfl)) _)
      have cp := t.cell (i := p) (j := 3) hp (by decide)
      rw [show (cellsN _)[3]? = some (.int .i64 _) from rfl] at cp
      have fp := t.free (p * 6 + 3)
      simp only [bit, Bool.false_eq_true, if_false]
      clear t
      have c1' := T1.out.st.cell 1
      have f2 := T1.out.free (a * 6 + 2)
      obtain ⟨hc1, hc2⟩ := T1.out.capB
      by_cases ea : a = 0
      · subst ea
        go_enter Try.func27, Try.ntmps27
        go_wp2
        go_end0
        exact ⟨⟨_, rfl⟩, T1.out, K1.out⟩
      · have e2 : ((a : Int) == 0) = false := by rw [beq_eq_false_iff_ne]; omega
        have T2 := Lib.hid (T1.out.put (i := a) (cells_up _ p) (by decide))
        have c2 := T1.out.cell (i := a) (j := 2) ha (by decide)
        rw [show (cellsN _)[2]? = some (.int .i64 _) from rfl] at c2
        go_enter Try.func27, Try.ntmps27
        go_wp2
        go_end0
        exact ⟨⟨_, rfl⟩, (by first | exact T2.out | (simp only [if_neg ea]; exact T2.out)), K1.out.setCell (p := ⟨b, a * 6 + 2, none⟩) (.inl (.inr rfl)) _⟩
    · have T1 := Lib.hid (t.put (i := p) (cells_hi _ a) (by decide))
      have K1 : Hid (Keep (Mine g b) w (w.setCell ⟨b, p * 6 + 4, none⟩ (.int .i64 (a : Int)))) := Lib.hid ((Keep.refl _ _).setCell (.inl (.inr rfl)) _)
      have cp := t.cell (i := p) (j := 4) hp (by decide)
      rw [show (cellsN _)[4]? = some (.int .i64 _) from rfl] at cp
      have fp := t.free (p * 6 + 4)
      simp only [bit, if_true]
      clear t
      have c1' := T1.out.st.cell 1
      have f2 := T1.out.free (a * 6 + 2)
      obtain ⟨hc1, hc2⟩ := T1.out.capB
      by_cases ea : a = 0
      · subst ea
        go_enter Try.func27, Try.ntmps27
        go_wp2
        go_end0
        exact ⟨⟨_, rfl⟩, T1.out, K1.out⟩
      · have e2 : ((a : Int) == 0) = false := by rw [beq_eq_false_iff_ne]; omega
        have T2 := Lib.hid (T1.out.put (i := a) (cells_up _ p) (by decide))
        have c2 := T1.out.cell (i := a) (j := 2) ha (by decide)
        rw [show (cellsN _)[2]? = some (.int .i64 _) from rfl] at c2
        go_enter Try.func27, Try.ntmps27
        go_wp2
        go_end0
        exact ⟨⟨_, rfl⟩, (by first | exact T2.out | (simp only [if_neg ea]; exact T2.out)), K1.out.setCell (p := ⟨b, a * 6 + 2, none⟩) (.inl (.inr rfl)) _⟩
end Go.Proofs.Ytfbbmpmgceghfaa
