/-
  Package bbr's New answers what the document says. Conditions: mss is a number of 64 bits.
-/
import Derived.Test.YtbimmadllfgmiaaGreatBbrSt
import Derived.Test.YtbimmadllfgmiaaGreatSchedG
import Derived.Test.YtbimmadllfgmiaaGreatChecked
import Derived.WalkSpells
import Derived.WalkLawsBesides
import Derived.LoopTactic
import Derived.LoopN
import Derived.Deep.QuietTactic
import Derived.Deep.DeepCutAuto
import Derived.Deep.Draws
import Derived.BigQuiet
import Derived.BigRegion
import Derived.Laws.ResultCell
set_option linter.unusedVariables false
set_option linter.unusedSimpArgs false
namespace Go.Proofs.YtbimmadllfgmiaaGreat
open Go.RowKit
set_option maxRecDepth 100000
def clampS (m : Int) : Int := if m < 100 then 100 else if 9000 < m then 9000 else m
theorem clampS_bd {m : Int} : 100 ≤ clampS m ∧ clampS m ≤ 9000 := by unfold clampS; split; omega; split <;> omega
set_option maxHeartbeats 4000000 in
theorem mnew_any (m : Int) (w : World) (hm : Num m) : Calls Tryz.prog 4 #[.int .u64 m] w fun e w' => ∃ g, e = .returned (.pointer (some ⟨g, 0, none⟩)) ∧ w.heap.size ≤ g ∧ MdlAt ⟨69, [], []⟩ 0 w' g (newM (clampS m)) ∧ Keep (fun _ => False) w w' := by
  obtain ⟨h, hh⟩ : ∃ h, clampS m = h := ⟨_, rfl⟩
  have hb : 100 ≤ h ∧ h ≤ 9000 := hh ▸ clampS_bd
  rw [hh]
  go_enter Tryz.func4, Tryz.ntmps4
  go_upto_region 1 with fail
  go_cut [0] (fun s0 wx => s0 = .int .u64 h ∧ wx = w)
  case first =>
    by_cases h1 : m < 100
    · have HH : Hid (h = 100) := Lib.hid (by rw [← hh]; simp [clampS, h1])
      have hn : ¬ 100 < m := by omega
      clear hh hb hm
      go_wp2
      go_meet
      exact ⟨by rw [HH.out], rfl⟩
    · by_cases h2 : m = 100
      · have HH : Hid (h = 100) := Lib.hid (by rw [← hh, h2]; decide)
        subst h2
        clear hh hb hm h1
        go_wp2
        go_meet
        exact ⟨by rw [HH.out], rfl⟩
      · have h3 : 100 < m := by omega
        rcases Int.lt_trichotomy m 9000 with hl | hl | hl
        · have HH : Hid (h = m) := Lib.hid (by rw [← hh]; unfold clampS; rw [if_neg h1, if_neg (by omega)])
          have hn : ¬ 9000 < m := by omega
          clear hh hb hm h2
          go_wp2
          go_meet
          exact ⟨by rw [HH.out], rfl⟩
        · have HH : Hid (h = 9000) := Lib.hid (by rw [← hh, hl]; decide)
          subst hl
          clear hh hb hm h1 h2 h3
          go_wp2
          go_meet
          exact ⟨by rw [HH.out], rfl⟩
        · have HH : Hid (h = 9000) := Lib.hid (by rw [← hh]; unfold clampS; rw [if_neg h1, if_pos hl])
          have hn : ¬ m < 9000 := by omega
          clear hh hb hm h2
          go_wp2
          go_meet
          exact ⟨by rw [HH.out], rfl⟩
  case rest =>
    obtain ⟨rfl, rfl⟩ := hcut
    have hw1 : IntKind.u64.wrap (10 * h) = 10 * h := by rw [IntKind.wrap_u64]; omega
    have hw2 : IntKind.u64.wrap (1000 * (10 * h)) = 1000 * (10 * h) := by rw [IntKind.wrap_u64]; omega
    have hr : 0 ≤ 1000 * (10 * h) ∧ 1000 * (10 * h) ≤ 18446744073709551615 := ⟨by omega, by omega⟩
    have HR := Lib.hid hr
    clear hr hb hm hh
    go_upto_region 3 with fail
    refine wp_region_grow (fun _ => True) [(true, 18), (true, 19), (true, 20), (true, 22), (false, 0), (true, 1), (true, 2), (false, 3), (true, 4), (true, 5), (false, 6), (true, 7), (true, 8), (false, 9), (true, 10), (true, 11), (false, 12), (true, 13), (true, 14), (false, 15), (true, 16), (true, 17), (false, 21), (true, 23), (false, 24), (true, 25)] (by kernel_rfl) (by kernel_rfl) (by kernel_rfl) (by kernel_rfl) trivial ?_
    (repeat (refine wpSchG_yes (v := ?_) rfl (fun _ _ _ h => h) (by rfl) ?_ ?_; rotate_left; (next => (intro w hSw; clear hSw; go_simp; (try with_reducible rfl))); (try simp only [Act.put, List.setIfInBounds_toArray, List.set_cons_zero, List.set_cons_succ])))
    have K0 := Lib.hid (Keep.refl (fun _ => False) wc).drew
    refine wpSchG_call rfl (by rfl) (fun K hK => ?_)
    go_simp
    refine (xnew_any 10 ⟨by decide, by decide⟩ _).mono ?_
    rintro e w1 ⟨rfl, h1, k1⟩
    have B1 := Lib.hid h1.whole.whole
    have K1 := Lib.hid (K0.out.trans k1)
    clear h1 k1 K0
    generalize (wc.drew).heap.size = g1 at *
    refine hK.out _ _ trivial (fun hHeld => ⟨fun W => Whole W g1 42 (maxC 10 (newT 0)).toList.toArray, fun _ _ => trivial, B1.out, ?_⟩)
    clear hK K hHeld
    (try simp only [Act.put, List.setIfInBounds_toArray, List.set_cons_zero, List.set_cons_succ])
    (repeat (refine wpSchG_yes (v := ?_) rfl (fun _ _ _ h => h) (by rfl) ?_ ?_; rotate_left; (next => (intro w hSw; have c0 : w.cell? ⟨g1, 0, none⟩ = some (.int .u64 10) := (hSw : Whole w g1 _ _).cell 0; have c1 : w.cell? ⟨g1, 1, none⟩ = some (.int .u64 0) := (hSw : Whole w g1 _ _).cell 1; have c2 : w.cell? ⟨g1, 2, none⟩ = some (.int .u64 0) := (hSw : Whole w g1 _ _).cell 2; have c3 : w.cell? ⟨g1, 3, none⟩ = some (.int .u64 0) := (hSw : Whole w g1 _ _).cell 3; have c4 : w.cell? ⟨g1, 4, none⟩ = some (.int .u64 0) := (hSw : Whole w g1 _ _).cell 4; have c5 : w.cell? ⟨g1, 5, none⟩ = some (.int .u64 0) := (hSw : Whole w g1 _ _).cell 5; have c6 : w.cell? ⟨g1, 6, none⟩ = some (.int .u64 0) := (hSw : Whole w g1 _ _).cell 6; have c7 : w.cell? ⟨g1, 7, none⟩ = some (.int .u64 0) := (hSw : Whole w g1 _ _).cell 7; clear hSw; go_simp; (try with_reducible rfl))); (try simp only [Act.put, List.setIfInBounds_toArray, List.set_cons_zero, List.set_cons_succ])))
    refine wpSchG_call rfl (by rfl) (fun K hK => ?_)
    go_simp
    refine (ronew_any _).mono ?_
    rintro e w2 ⟨rfl, h1, k1⟩
    have B2 := Lib.hid h1.whole.whole
    have K2 := Lib.hid (K1.out.trans k1)
    have B1' := Lib.hid (B1.out.keep k1 id); clear B1; have B1 := B1'; clear B1'
    clear h1 k1 K1
    generalize (w1).heap.size = g2 at *
    refine hK.out _ _ B1.out (fun hHeld => ⟨fun W => Whole W g2 46 (rndC newR).toList.toArray ∧ Whole W g1 42 (maxC 10 (newT 0)).toList.toArray, fun _ h => h.2, ⟨B2.out, B1.out⟩, ?_⟩)
    clear hK K hHeld
    (try simp only [Act.put, List.setIfInBounds_toArray, List.set_cons_zero, List.set_cons_succ])
    (repeat (refine wpSchG_yes (v := ?_) rfl (fun _ _ _ h => h) (by rfl) ?_ ?_; rotate_left; (next => (intro w hSw; have c0 : w.cell? ⟨g2, 0, none⟩ = some (.int .u64 0) := (hSw.1 : Whole w g2 _ _).cell 0; have c1 : w.cell? ⟨g2, 1, none⟩ = some (.int .u64 0) := (hSw.1 : Whole w g2 _ _).cell 1; clear hSw; go_simp; (try with_reducible rfl))); (try simp only [Act.put, List.setIfInBounds_toArray, List.set_cons_zero, List.set_cons_succ])))
    refine wpSchG_call rfl (by rfl) (fun K hK => ?_)
    go_simp
    refine (pinew_any _).mono ?_
    rintro e w3 ⟨rfl, h1, k1⟩
    have B3 := Lib.hid h1.whole.whole
    have K3 := Lib.hid (K2.out.trans k1)
    have B1' := Lib.hid (B1.out.keep k1 id); clear B1; have B1 := B1'; clear B1'
    have B2' := Lib.hid (B2.out.keep k1 id); clear B2; have B2 := B2'; clear B2'
    clear h1 k1 K2
    generalize (w2).heap.size = g3 at *
    refine hK.out _ _ ⟨B2.out, B1.out⟩ (fun hHeld => ⟨fun W => Whole W g3 50 (pipC newP).toList.toArray ∧ Whole W g2 46 (rndC newR).toList.toArray ∧ Whole W g1 42 (maxC 10 (newT 0)).toList.toArray, fun _ h => h.2, ⟨B3.out, B2.out, B1.out⟩, ?_⟩)
    clear hK K hHeld
    (try simp only [Act.put, List.setIfInBounds_toArray, List.set_cons_zero, List.set_cons_succ])
    (repeat (refine wpSchG_yes (v := ?_) rfl (fun _ _ _ h => h) (by rfl) ?_ ?_; rotate_left; (next => (intro w hSw; have c0 : w.cell? ⟨g3, 0, none⟩ = some (.int .u64 0) := (hSw.1 : Whole w g3 _ _).cell 0; have c1 : w.cell? ⟨g3, 1, none⟩ = some (.int .u64 0) := (hSw.1 : Whole w g3 _ _).cell 1; clear hSw; go_simp; (try with_reducible rfl))); (try simp only [Act.put, List.setIfInBounds_toArray, List.set_cons_zero, List.set_cons_succ])))
    refine wpSchG_call rfl (by rfl) (fun K hK => ?_)
    go_simp
    refine (cynew_any _).mono ?_
    rintro e w4 ⟨rfl, h1, k1⟩
    have B4 := Lib.hid h1.whole.whole
    have K4 := Lib.hid (K3.out.trans k1)
    have B1' := Lib.hid (B1.out.keep k1 id); clear B1; have B1 := B1'; clear B1'
    have B2' := Lib.hid (B2.out.keep k1 id); clear B2; have B2 := B2'; clear B2'
    have B3' := Lib.hid (B3.out.keep k1 id); clear B3; have B3 := B3'; clear B3'
    clear h1 k1 K3
    generalize (w3).heap.size = g4 at *
    refine hK.out _ _ ⟨B3.out, B2.out, B1.out⟩ (fun hHeld => ⟨fun W => Whole W g4 54 (cycC newC).toList.toArray ∧ Whole W g3 50 (pipC newP).toList.toArray ∧ Whole W g2 46 (rndC newR).toList.toArray ∧ Whole W g1 42 (maxC 10 (newT 0)).toList.toArray, fun _ h => h.2, ⟨B4.out, B3.out, B2.out, B1.out⟩, ?_⟩)
    clear hK K hHeld
    (try simp only [Act.put, List.setIfInBounds_toArray, List.set_cons_zero, List.set_cons_succ])
    (repeat (refine wpSchG_yes (v := ?_) rfl (fun _ _ _ h => h) (by rfl) ?_ ?_; rotate_left; (next => (intro w hSw; have c0 : w.cell? ⟨g4, 0, none⟩ = some (.int .i64 0) := (hSw.1 : Whole w g4 _ _).cell 0; have c1 : w.cell? ⟨g4, 1, none⟩ = some (.int .u64 0) := (hSw.1 : Whole w g4 _ _).cell 1; clear hSw; go_simp; (try with_reducible rfl))); (try simp only [Act.put, List.setIfInBounds_toArray, List.set_cons_zero, List.set_cons_succ])))
    refine wpSchG_call rfl (by rfl) (fun K hK => ?_)
    go_simp
    refine (prnew_any _).mono ?_
    rintro e w5 ⟨rfl, h1, k1⟩
    have B5 := Lib.hid h1.whole.whole
    have K5 := Lib.hid (K4.out.trans k1)
    have B1' := Lib.hid (B1.out.keep k1 id); clear B1; have B1 := B1'; clear B1'
    have B2' := Lib.hid (B2.out.keep k1 id); clear B2; have B2 := B2'; clear B2'
    have B3' := Lib.hid (B3.out.keep k1 id); clear B3; have B3 := B3'; clear B3'
    have B4' := Lib.hid (B4.out.keep k1 id); clear B4; have B4 := B4'; clear B4'
    clear h1 k1 K4
    generalize (w4).heap.size = g5 at *
    refine hK.out _ _ ⟨B4.out, B3.out, B2.out, B1.out⟩ (fun hHeld => ⟨fun W => Whole W g5 58 (prbC newB).toList.toArray ∧ Whole W g4 54 (cycC newC).toList.toArray ∧ Whole W g3 50 (pipC newP).toList.toArray ∧ Whole W g2 46 (rndC newR).toList.toArray ∧ Whole W g1 42 (maxC 10 (newT 0)).toList.toArray, fun _ h => h.2, ⟨B5.out, B4.out, B3.out, B2.out, B1.out⟩, ?_⟩)
    clear hK K hHeld
    (try simp only [Act.put, List.setIfInBounds_toArray, List.set_cons_zero, List.set_cons_succ])
    (repeat (refine wpSchG_yes (v := ?_) rfl (fun _ _ _ h => h) (by rfl) ?_ ?_; rotate_left; (next => (intro w hSw; have c0 : w.cell? ⟨g5, 0, none⟩ = some (.int .u64 0) := (hSw.1 : Whole w g5 _ _).cell 0; have c1 : w.cell? ⟨g5, 1, none⟩ = some (.int .u64 0) := (hSw.1 : Whole w g5 _ _).cell 1; have c2 : w.cell? ⟨g5, 2, none⟩ = some (.bool false) := (hSw.1 : Whole w g5 _ _).cell 2; have c3 : w.cell? ⟨g5, 3, none⟩ = some (.int .u64 0) := (hSw.1 : Whole w g5 _ _).cell 3; have c4 : w.cell? ⟨g5, 4, none⟩ = some (.bool false) := (hSw.1 : Whole w g5 _ _).cell 4; clear hSw; go_simp; (try with_reducible rfl))); (try simp only [Act.put, List.setIfInBounds_toArray, List.set_cons_zero, List.set_cons_succ])))
    refine wpSchG_call rfl (by rfl) (fun K hK => ?_)
    go_simp
    refine (polnew_any _).mono ?_
    rintro e w6 ⟨rfl, h1, k1⟩
    have B6 := Lib.hid h1.whole.whole
    have K6 := Lib.hid (K5.out.trans k1)
    have B1' := Lib.hid (B1.out.keep k1 id); clear B1; have B1 := B1'; clear B1'
    have B2' := Lib.hid (B2.out.keep k1 id); clear B2; have B2 := B2'; clear B2'
    have B3' := Lib.hid (B3.out.keep k1 id); clear B3; have B3 := B3'; clear B3'
    have B4' := Lib.hid (B4.out.keep k1 id); clear B4; have B4 := B4'; clear B4'
    have B5' := Lib.hid (B5.out.keep k1 id); clear B5; have B5 := B5'; clear B5'
    clear h1 k1 K5
    generalize (w5).heap.size = g6 at *
    refine hK.out _ _ ⟨B5.out, B4.out, B3.out, B2.out, B1.out⟩ (fun hHeld => ⟨fun W => Whole W g6 64 (polC newPol).toList.toArray ∧ Whole W g5 58 (prbC newB).toList.toArray ∧ Whole W g4 54 (cycC newC).toList.toArray ∧ Whole W g3 50 (pipC newP).toList.toArray ∧ Whole W g2 46 (rndC newR).toList.toArray ∧ Whole W g1 42 (maxC 10 (newT 0)).toList.toArray, fun _ h => h.2, ⟨B6.out, B5.out, B4.out, B3.out, B2.out, B1.out⟩, ?_⟩)
    clear hK K hHeld
    (try simp only [Act.put, List.setIfInBounds_toArray, List.set_cons_zero, List.set_cons_succ])
    (repeat (refine wpSchG_yes (v := ?_) rfl (fun _ _ _ h => h) (by rfl) ?_ ?_; rotate_left; (next => (intro w hSw; have c0 : w.cell? ⟨g6, 0, none⟩ = some (.bool false) := (hSw.1 : Whole w g6 _ _).cell 0; have c1 : w.cell? ⟨g6, 1, none⟩ = some (.bool false) := (hSw.1 : Whole w g6 _ _).cell 1; have c2 : w.cell? ⟨g6, 2, none⟩ = some (.int .u64 0) := (hSw.1 : Whole w g6 _ _).cell 2; have c3 : w.cell? ⟨g6, 3, none⟩ = some (.int .u64 0) := (hSw.1 : Whole w g6 _ _).cell 3; have c4 : w.cell? ⟨g6, 4, none⟩ = some (.int .u64 0) := (hSw.1 : Whole w g6 _ _).cell 4; have c5 : w.cell? ⟨g6, 5, none⟩ = some (.int .u64 0) := (hSw.1 : Whole w g6 _ _).cell 5; have c6 : w.cell? ⟨g6, 6, none⟩ = some (.int .u64 0) := (hSw.1 : Whole w g6 _ _).cell 6; have c7 : w.cell? ⟨g6, 7, none⟩ = some (.int .u64 0) := (hSw.1 : Whole w g6 _ _).cell 7; clear hSw; go_simp; (try with_reducible rfl))); (try simp only [Act.put, List.setIfInBounds_toArray, List.set_cons_zero, List.set_cons_succ])))
    refine wpSchG_call rfl (by rfl) (fun K hK => ?_)
    go_simp
    refine (rate_any _ _ HR.out.1 HR.out.2 (by decide) (by decide) _).mono ?_
    rintro e w7 ⟨rfl, k1⟩
    have K7 := Lib.hid (K6.out.trans k1)
    have C1 := Lib.hid (B1.out.keep k1 id); have C2 := Lib.hid (B2.out.keep k1 id); have C3 := Lib.hid (B3.out.keep k1 id); have C4 := Lib.hid (B4.out.keep k1 id); have C5 := Lib.hid (B5.out.keep k1 id); have C6 := Lib.hid (B6.out.keep k1 id)
    refine hK.out _ _ ⟨C6.out, C5.out, C4.out, C3.out, C2.out, C1.out⟩ (fun hHeld => ⟨_, fun _ h => h, ⟨C6.out, C5.out, C4.out, C3.out, C2.out, C1.out⟩, ?_⟩)
    clear hK K hHeld k1 K6 B1 B2 B3 B4 B5 B6
    (try simp only [Act.put, List.setIfInBounds_toArray, List.set_cons_zero, List.set_cons_succ])
    (repeat (refine wpSchG_yes (v := ?_) rfl (fun _ _ _ h => h) (by rfl) ?_ ?_; rotate_left; (next => (intro w hSw; clear hSw; go_simp; (try with_reducible rfl))); (try simp only [Act.put, List.setIfInBounds_toArray, List.set_cons_zero, List.set_cons_succ])))
    have K8 := Lib.hid (K7.out.alloc (.cells (mdlL (newM h)).toArray 69))
    have HM := Lib.hid (Whole.new w7 69 (mdlL (newM h)).toArray)
    have HL : Hid (wc.heap.size ≤ w7.heap.size) := Lib.hid K7.out.size
    refine wpSchG_call rfl (by rfl) (fun K hK => ?_)
    go_simp
    refine hK.out _ _ ⟨C6.out.alloc _, C5.out.alloc _, C4.out.alloc _, C3.out.alloc _, C2.out.alloc _, C1.out.alloc _⟩ (fun hHeld => ⟨_, fun _ h => h, ⟨C6.out.alloc _, C5.out.alloc _, C4.out.alloc _, C3.out.alloc _, C2.out.alloc _, C1.out.alloc _⟩, ?_⟩)
    clear hK K hHeld
    (try simp only [Act.put, List.setIfInBounds_toArray, List.set_cons_zero, List.set_cons_succ])
    (repeat (refine wpSchG_yes (v := ?_) rfl (fun _ _ _ h => h) (by rfl) ?_ ?_; rotate_left; (next => (intro w hSw; clear hSw; go_simp; (try with_reducible rfl))); (try simp only [Act.put, List.setIfInBounds_toArray, List.set_cons_zero, List.set_cons_succ])))
    refine wpSchG_nil ?_
    go_wp2
    go_ret
    exact ⟨_, rfl, HL.out, Part.of_whole HM.out, K8.out⟩
end Go.Proofs.YtbimmadllfgmiaaGreat
