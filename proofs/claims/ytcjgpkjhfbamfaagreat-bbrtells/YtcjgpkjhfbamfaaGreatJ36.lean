/-
  A region that draws its order, walked in one order, where what is said of the world grows: behind a call more may be said (S' for S), and all that follows keeps it. No program is spoken of. Conditions: those of each theorem.
  Package bbr's New answers what the document says. Conditions: mss is a number of 64 bits.
  The document's own model: NewModel. Conditions: mss is a number of 64 bits.
-/
import Derived.Test.YtcjgpkjhfbamfaaGreatJ02
import Derived.Test.YtcjgpkjhfbamfaaGreatJ13
import Derived.Test.YtcjgpkjhfbamfaaGreatChecked
import Derived.Test.YtcjgpkjhfbamfaaGreatJ22
import Derived.Test.YtcjgpkjhfbamfaaGreatJ23
import Derived.WalkSpells
import Derived.WalkLawsBesides
import Derived.LoopTactic
import Derived.LoopN
import Derived.Deep.QuietTactic
import Derived.Deep.DeepCutAuto
import Derived.Deep.Draws
import Derived.BigQuiet
import Derived.BigRegion
import Derived.Laws.ResultCell
namespace Go.Proofs.YtcjgpkjhfbamfaaGreat

section
variable {P : Program} {ops : List Oper} {Q : Exit → Act → World → Prop}
theorem wpAnyH_more {md : Region.Mode} {S S' : World → Prop} (hm : ∀ w, S' w → S w) : ∀ (fuel : Nat) (listed : Array Bool) (a : Act) (w : World), wpAnyH P md ops.toArray Q S' fuel listed a w → wpAnyH P md ops.toArray Q S fuel listed a w
  | 0, _, _, _, h => h
  | fuel + 1, _, _, _, h => ⟨h.1, fun i hi => wpOp_mono (fun a' w' h' => ⟨hm _ h'.1, wpAnyH_more hm fuel _ a' w' h'.2⟩) (h.2 i hi)⟩
/-- The walk in that order. -/
def wpSchG (P : Program) (ops : List Oper) (Q : Exit → Act → World → Prop) : List (Bool × Nat) → (World → Prop) → Act → World → Prop
  | [], _, a, w => Q .normal a w
  | (true, i) :: r, S, a, w => ∃ o v, nthOp ops i = some o ∧ (∀ c a w, Q (.panic c) (a.put o.dst v) w → Q (.panic c) a w) ∧ YieldsIf P ops.toArray S o v a ∧ wpSchG P ops Q r S (a.put o.dst v) w
  | (false, i) :: r, S, a, w => ∃ o, nthOp ops i = some o ∧ ∀ K' : Act → World → Prop, Shut (∀ a w, S w → (S w → ∃ S' : World → Prop, (∀ w, S' w → S w) ∧ S' w ∧ wpSchG P ops Q r S' a w) → K' a w) →
      if Region.wanted o (yielded ops.toArray a.tmps) = true then Oper.wp P o a w K' Q else K' (a.put o.dst undef) w
theorem wpAnyH_of_schG (hs : Region.noSelect ops.toArray = true) : ∀ (l : List (Bool × Nat)) (S : World → Prop) (fuel : Nat) (listed : Array Bool) (a : Act) (w : World), l.length ≤ fuel → schOK ops l listed = true → S w → wpSchG P ops Q l S a w → wpAnyH P .any ops.toArray Q S fuel listed a w
  | [], S, fuel, listed, a, w, _, hc, _, h => wpAnyH_done (by simpa [schOK] using hc) h fuel
  | (true, i) :: r, S, 0, listed, a, w, hf, _, _, _ => by simp at hf
  | (false, i) :: r, S, 0, listed, a, w, hf, _, _, _ => by simp at hf
  | (true, i) :: r, S, fuel + 1, listed, a, w, hf, hc, hS, h => by
    obtain ⟨o, v, ho, hQ, hy, h⟩ := h
    simp only [schOK, Bool.and_eq_true] at hc
    exact wpAnyH_take (by rw [nthOp_get, ho]) hs hc.1.2 hc.1.1 hQ hy hS (wpAnyH_of_schG hs r S fuel _ _ _ (by simp at hf; omega) hc.2 hS h)
  | (false, i) :: r, S, fuel + 1, listed, a, w, hf, hc, hS, h => by
    obtain ⟨o, ho, h⟩ := h
    simp only [schOK, Bool.and_eq_true, beq_iff_eq] at hc
    refine wpAnyH_ready hc.1 (by simp) (AllReadyH.cons (o := o) (by rw [nthOp_get, ho]) (fun K hK => h K (fun a w hS' hW => ?_)) AllReadyH.nil)
    exact hK.out a w hS' (fun hS' => by
      obtain ⟨S', hm, hs', hw⟩ := hW hS'
      exact wpAnyH_more hm _ _ _ _ (wpAnyH_of_schG hs r S' fuel _ _ _ (by simp at hf; omega) hc.2 hs' hw))
/-- The beginning. -/
theorem wp_region_grow (S : World → Prop) (l : List (Bool × Nat)) {id : Nat} {a : Act} {w : World} (hm : P.follows .mixedOrders = true) (hs : Region.noSelect ops.toArray = true) (hl : Nat.ble l.length ops.toArray.size = true)
    (hc : schOK ops l (Array.replicate ops.toArray.size false) = true) (hS : S w.drew) (h : wpSchG P ops Q l S a w.drew) : (Code.region id ops.toArray true).wp P Q a w :=
  wp_region_held_drew hm hS (fun hS => wpAnyH_of_schG hs l S _ _ _ _ (Nat.le_of_ble_eq_true hl) hc hS h)
variable {S : World → Prop}
theorem wpSchG_nil {a : Act} {w : World} (h : Q .normal a w) : wpSchG P ops Q [] S a w := h
theorem wpSchG_yes {i : Nat} {r : List (Bool × Nat)} {a : Act} {w : World} {o : Oper} {v : Value} (ho : nthOp ops i = some o) (hQ : ∀ c a w, Q (.panic c) (a.put o.dst v) w → Q (.panic c) a w)
    (hw : Region.wanted o (yielded ops.toArray a.tmps) = true) (hy : ∀ w, S w → (execOp a.eval o).run P w = .ok (.value v) w) (h : wpSchG P ops Q r S (a.put o.dst v) w) : wpSchG P ops Q ((true, i) :: r) S a w :=
  ⟨o, v, ho, hQ, .inl ⟨hw, hy⟩, h⟩
theorem wpSchG_call {i : Nat} {r : List (Bool × Nat)} {a : Act} {w : World} {o : Oper} (ho : nthOp ops i = some o)
    (hw : Region.wanted o (yielded ops.toArray a.tmps) = true) (h : ∀ K' : Act → World → Prop, Shut (∀ a w, S w → (S w → ∃ S' : World → Prop, (∀ w, S' w → S w) ∧ S' w ∧ wpSchG P ops Q r S' a w) → K' a w) → Oper.wp P o a w K' Q) : wpSchG P ops Q ((false, i) :: r) S a w :=
  ⟨o, ho, fun K hK => by rw [if_pos hw]; exact h K hK⟩
end
end Go.Proofs.YtcjgpkjhfbamfaaGreat
set_option linter.unusedVariables false
set_option linter.unusedSimpArgs false
namespace Go.Proofs.YtcjgpkjhfbamfaaGreat
open Go.RowKit
set_option maxRecDepth 100000
def clampS (m : Int) : Int := if m < 100 then 100 else if 9000 < m then 9000 else m
theorem clampS_bd {m : Int} : 100 ≤ clampS m ∧ clampS m ≤ 9000 := by unfold clampS; split; omega; split <;> omega
set_option maxHeartbeats 4000000 in
theorem mnew_any (m : Int) (w : World) (hm : Num m) : Calls Tryz.prog 4 #[.int .u64 m] w fun e w' => ∃ g, e = .returned (.pointer (some ⟨g, 0, none⟩)) ∧ w.heap.size ≤ g ∧ MdlAt ⟨69, [], []⟩ 0 w' g (newM (clampS m)) ∧ Keep (fun _ => False) w w' := by
  obtain ⟨h, hh⟩ : ∃ h, clampS m = h := ⟨_, rfl⟩
  have hb : 100 ≤ h ∧ h ≤ 9000 := hh ▸ clampS_bd
  rw [hh]
  go_enter Tryz.func4, Tryz.ntmps4
  go_upto_region 1 with fail
  go_cut [0] (fun s0 wx => s0 = .int .u64 h ∧ wx = w)
  case first =>
    by_cases h1 : m < 100
    · have HH : Hid (h = 100) := Lib.hid (by rw [← hh]; simp [clampS, h1])
      have hn : ¬ 100 < m := by omega
      clear hh hb hm
      go_wp2
      go_meet
      exact ⟨by rw [HH.out], rfl⟩
    · by_cases h2 : m = 100
      · have HH : Hid (h = 100) := Lib.hid (by rw [← hh, h2]; decide)
        subst h2
        clear hh hb hm h1
        go_wp2
        go_meet
        exact ⟨by rw [HH.out], rfl⟩
      · have h3 : 100 < m := by omega
        rcases Int.lt_trichotomy m 9000 with hl | hl | hl
        · have HH : Hid (h = m) := Lib.hid (by rw [← hh]; unfold clampS; rw [if_neg h1, if_neg (by omega)])
          have hn : ¬ 9000 < m := by omega
          clear hh hb hm h2
          go_wp2
          go_meet
          exact ⟨by rw [HH.out], rfl⟩
        · have HH : Hid (h = 9000) := Lib.hid (by rw [← hh, hl]; decide)
          subst hl
          clear hh hb hm h1 h2 h3
          go_wp2
          go_meet
          exact ⟨by rw [HH.out], rfl⟩
        · have HH : Hid (h = 9000) := Lib.hid (by rw [← hh]; unfold clampS; rw [if_neg h1, if_pos hl])
          have hn : ¬ m < 9000 := by omega
          clear hh hb hm h2
          go_wp2
          go_meet
          exact ⟨by rw [HH.out], rfl⟩
  case rest =>
    obtain ⟨rfl, rfl⟩ := hcut
    have hw1 : IntKind.u64.wrap (10 * h) = 10 * h := by rw [IntKind.wrap_u64]; omega
    have hw2 : IntKind.u64.wrap (1000 * (10 * h)) = 1000 * (10 * h) := by rw [IntKind.wrap_u64]; omega
    have hr : 0 ≤ 1000 * (10 * h) ∧ 1000 * (10 * h) ≤ 18446744073709551615 := ⟨by omega, by omega⟩
    have HR := Lib.hid hr
    clear hr hb hm hh
    go_upto_region 3 with fail
    refine wp_region_grow (fun _ => True) [(true, 18), (true, 19), (true, 20), (true, 22), (false, 0), (true, 1), (true, 2), (false, 3), (true, 4), (true, 5), (false, 6), (true, 7), (true, 8), (false, 9), (true, 10), (true, 11), (false, 12), (true, 13), (true, 14), (false, 15), (true, 16), (true, 17), (false, 21), (true, 23), (false, 24), (true, 25)] (by kernel_rfl) (by kernel_rfl) (by kernel_rfl) (by kernel_rfl) trivial ?_
    (repeat (refine wpSchG_yes (v := ?_) rfl (fun _ _ _ h => h) (by rfl) ?_ ?_; rotate_left; (next => (intro w hSw; clear hSw; go_simp; (try with_reducible rfl))); (try simp only [Act.put, List.setIfInBounds_toArray, List.set_cons_zero, List.set_cons_succ])))
    have K0 := Lib.hid (Keep.refl (fun _ => False) wc).drew
    refine wpSchG_call rfl (by rfl) (fun K hK => ?_)
    go_simp
    refine (xnew_any 10 ⟨by decide, by decide⟩ _).mono ?_
    rintro e w1 ⟨rfl, h1, k1⟩
    have B1 := Lib.hid h1.whole.whole
    have K1 := Lib.hid (K0.out.trans k1)
    clear h1 k1 K0
    generalize (wc.drew).heap.size = g1 at *
    refine hK.out _ _ trivial (fun hHeld => ⟨fun W => Whole W g1 42 (maxC 10 (newT 0)).toList.toArray, fun _ _ => trivial, B1.out, ?_⟩)
    clear hK K hHeld
    (try simp only [Act.put, List.setIfInBounds_toArray, List.set_cons_zero, List.set_cons_succ])
    (repeat (refine wpSchG_yes (v := ?_) rfl (fun _ _ _ h => h) (by rfl) ?_ ?_; rotate_left; (next => (intro w hSw; have c0 : w.cell? ⟨g1, 0, none⟩ = some (.int .u64 10) := (hSw : Whole w g1 _ _).cell 0; have c1 : w.cell? ⟨g1, 1, none⟩ = some (.int .u64 0) := (hSw : Whole w g1 _ _).cell 1; have c2 : w.cell? ⟨g1, 2, none⟩ = some (.int .u64 0) := (hSw : Whole w g1 _ _).cell 2; have c3 : w.cell? ⟨g1, 3, none⟩ = some (.int .u64 0) := (hSw : Whole w g1 _ _).cell 3; have c4 : w.cell? ⟨g1, 4, none⟩ = some (.int .u64 0) := (hSw : Whole w g1 _ _).cell 4; have c5 : w.cell? ⟨g1, 5, none⟩ = some (.int .u64 0) := (hSw : Whole w g1 _ _).cell 5; have c6 : w.cell? ⟨g1, 6, none⟩ = some (.int .u64 0) := (hSw : Whole w g1 _ _).cell 6; have c7 : w.cell? ⟨g1, 7, none⟩ = some (.int .u64 0) := (hSw : Whole w g1 _ _).cell 7; clear hSw; go_simp; (try with_reducible rfl))); (try simp only [Act.put, List.setIfInBounds_toArray, List.set_cons_zero, List.set_cons_succ])))
    refine wpSchG_call rfl (by rfl) (fun K hK => ?_)
    go_simp
    refine (ronew_any _).mono ?_
    rintro e w2 ⟨rfl, h1, k1⟩
    have B2 := Lib.hid h1.whole.whole
    have K2 := Lib.hid (K1.out.trans k1)
    have B1' := Lib.hid (B1.out.keep k1 id); clear B1; have B1 := B1'; clear B1'
    clear h1 k1 K1
    generalize (w1).heap.size = g2 at *
    refine hK.out _ _ B1.out (fun hHeld => ⟨fun W => Whole W g2 46 (rndC newR).toList.toArray ∧ Whole W g1 42 (maxC 10 (newT 0)).toList.toArray, fun _ h => h.2, ⟨B2.out, B1.out⟩, ?_⟩)
    clear hK K hHeld
    (try simp only [Act.put, List.setIfInBounds_toArray, List.set_cons_zero, List.set_cons_succ])
    (repeat (refine wpSchG_yes (v := ?_) rfl (fun _ _ _ h => h) (by rfl) ?_ ?_; rotate_left; (next => (intro w hSw; have c0 : w.cell? ⟨g2, 0, none⟩ = some (.int .u64 0) := (hSw.1 : Whole w g2 _ _).cell 0; have c1 : w.cell? ⟨g2, 1, none⟩ = some (.int .u64 0) := (hSw.1 : Whole w g2 _ _).cell 1; clear hSw; go_simp; (try with_reducible rfl))); (try simp only [Act.put, List.setIfInBounds_toArray, List.set_cons_zero, List.set_cons_succ])))
    refine wpSchG_call rfl (by rfl) (fun K hK => ?_)
    go_simp
    refine (pinew_any _).mono ?_
    rintro e w3 ⟨rfl, h1, k1⟩
    have B3 := Lib.hid h1.whole.whole
    have K3 := Lib.hid (K2.out.trans k1)
    have B1' := Lib.hid (B1.out.keep k1 id); clear B1; have B1 := B1'; clear B1'
    have B2' := Lib.hid (B2.out.keep k1 id); clear B2; have B2 := B2'; clear B2'
    clear h1 k1 K2
    generalize (w2).heap.size = g3 at *
    refine hK.out _ _ ⟨B2.out, B1.out⟩ (fun hHeld => ⟨fun W => Whole W g3 50 (pipC newP).toList.toArray ∧ Whole W g2 46 (rndC newR).toList.toArray ∧ Whole W g1 42 (maxC 10 (newT 0)).toList.toArray, fun _ h => h.2, ⟨B3.out, B2.out, B1.out⟩, ?_⟩)
    clear hK K hHeld
    (try simp only [Act.put, List.setIfInBounds_toArray, List.set_cons_zero, List.set_cons_succ])
    (repeat (refine wpSchG_yes (v := ?_) rfl (fun _ _ _ h => h) (by rfl) ?_ ?_; rotate_left; (next => (intro w hSw; have c0 : w.cell? ⟨g3, 0, none⟩ = some (.int .u64 0) := (hSw.1 : Whole w g3 _ _).cell 0; have c1 : w.cell? ⟨g3, 1, none⟩ = some (.int .u64 0) := (hSw.1 : Whole w g3 _ _).cell 1; clear hSw; go_simp; (try with_reducible rfl))); (try simp only [Act.put, List.setIfInBounds_toArray, List.set_cons_zero, List.set_cons_succ])))
    refine wpSchG_call rfl (by rfl) (fun K hK => ?_)
    go_simp
    refine (cynew_any _).mono ?_
    rintro e w4 ⟨rfl, h1, k1⟩
    have B4 := Lib.hid h1.whole.whole
    have K4 := Lib.hid (K3.out.trans k1)
    have B1' := Lib.hid (B1.out.keep k1 id); clear B1; have B1 := B1'; clear B1'
    have B2' := Lib.hid (B2.out.keep k1 id); clear B2; have B2 := B2'; clear B2'
    have B3' := Lib.hid (B3.out.keep k1 id); clear B3; have B3 := B3'; clear B3'
    clear h1 k1 K3
    generalize (w3).heap.size = g4 at *
    refine hK.out _ _ ⟨B3.out, B2.out, B1.out⟩ (fun hHeld => ⟨fun W => Whole W g4 54 (cycC newC).toList.toArray ∧ Whole W g3 50 (pipC newP).toList.toArray ∧ Whole W g2 46 (rndC newR).toList.toArray ∧ Whole W g1 42 (maxC 10 (newT 0)).toList.toArray, fun _ h => h.2, ⟨B4.out, B3.out, B2.out, B1.out⟩, ?_⟩)
    clear hK K hHeld
    (try simp only [Act.put, List.setIfInBounds_toArray, List.set_cons_zero, List.set_cons_succ])
    (repeat (refine wpSchG_yes (v := ?_) rfl (fun _ _ _ h => h) (by rfl) ?_ ?_; rotate_left; (next => (intro w hSw; have c0 : w.cell? ⟨g4, 0, none⟩ = some (.int .i64 0) := (hSw.1 : Whole w g4 _ _).cell 0; have c1 : w.cell? ⟨g4, 1, none⟩ = some (.int .u64 0) := (hSw.1 : Whole w g4 _ _).cell 1; clear hSw; go_simp; (try with_reducible rfl))); (try simp only [Act.put, List.setIfInBounds_toArray, List.set_cons_zero, List.set_cons_succ])))
    refine wpSchG_call rfl (by rfl) (fun K hK => ?_)
    go_simp
    refine (prnew_any _).mono ?_
    rintro e w5 ⟨rfl, h1, k1⟩
    have B5 := Lib.hid h1.whole.whole
    have K5 := Lib.hid (K4.out.trans k1)
    have B1' := Lib.hid (B1.out.keep k1 id); clear B1; have B1 := B1'; clear B1'
    have B2' := Lib.hid (B2.out.keep k1 id); clear B2; have B2 := B2'; clear B2'
    have B3' := Lib.hid (B3.out.keep k1 id); clear B3; have B3 := B3'; clear B3'
    have B4' := Lib.hid (B4.out.keep k1 id); clear B4; have B4 := B4'; clear B4'
    clear h1 k1 K4
    generalize (w4).heap.size = g5 at *
    refine hK.out _ _ ⟨B4.out, B3.out, B2.out, B1.out⟩ (fun hHeld => ⟨fun W => Whole W g5 58 (prbC newB).toList.toArray ∧ Whole W g4 54 (cycC newC).toList.toArray ∧ Whole W g3 50 (pipC newP).toList.toArray ∧ Whole W g2 46 (rndC newR).toList.toArray ∧ Whole W g1 42 (maxC 10 (newT 0)).toList.toArray, fun _ h => h.2, ⟨B5.out, B4.out, B3.out, B2.out, B1.out⟩, ?_⟩)
    clear hK K hHeld
    (try simp only [Act.put, List.setIfInBounds_toArray, List.set_cons_zero, List.set_cons_succ])
    (repeat (refine wpSchG_yes (v := ?_) rfl (fun _ _ _ h => h) (by rfl) ?_ ?_; rotate_left; (next => (intro w hSw; have c0 : w.cell? ⟨g5, 0, none⟩ = some (.int .u64 0) := (hSw.1 : Whole w g5 _ _).cell 0; have c1 : w.cell? ⟨g5, 1, none⟩ = some (.int .u64 0) := (hSw.1 : Whole w g5 _ _).cell 1; have c2 : w.cell? ⟨g5, 2, none⟩ = some (.bool false) := (hSw.1 : Whole w g5 _ _).cell 2; have c3 : w.cell? ⟨g5, 3, none⟩ = some (.int .u64 0) := (hSw.1 : Whole w g5 _ _).cell 3; have c4 : w.cell? ⟨g5, 4, none⟩ = some (.bool false) := (hSw.1 : Whole w g5 _ _).cell 4; clear hSw; go_simp; (try with_reducible rfl))); (try simp only [Act.put, List.setIfInBounds_toArray, List.set_cons_zero, List.set_cons_succ])))
    refine wpSchG_call rfl (by rfl) (fun K hK => ?_)
    go_simp
    refine (polnew_any _).mono ?_
    rintro e w6 ⟨rfl, h1, k1⟩
    have B6 := Lib.hid h1.whole.whole
    have K6 := Lib.hid (K5.out.trans k1)
    have B1' := Lib.hid (B1.out.keep k1 id); clear B1; have B1 := B1'; clear B1'
    have B2' := Lib.hid (B2.out.keep k1 id); clear B2; have B2 := B2'; clear B2'
    have B3' := Lib.hid (B3.out.keep k1 id); clear B3; have B3 := B3'; clear B3'
    have B4' := Lib.hid (B4.out.keep k1 id); clear B4; have B4 := B4'; clear B4'
    have B5' := Lib.hid (B5.out.keep k1 id); clear B5; have B5 := B5'; clear B5'
    clear h1 k1 K5
    generalize (w5).heap.size = g6 at *
    refine hK.out _ _ ⟨B5.out, B4.out, B3.out, B2.out, B1.out⟩ (fun hHeld => ⟨fun W => Whole W g6 64 (polC newPol).toList.toArray ∧ Whole W g5 58 (prbC newB).toList.toArray ∧ Whole W g4 54 (cycC newC).toList.toArray ∧ Whole W g3 50 (pipC newP).toList.toArray ∧ Whole W g2 46 (rndC newR).toList.toArray ∧ Whole W g1 42 (maxC 10 (newT 0)).toList.toArray, fun _ h => h.2, ⟨B6.out, B5.out, B4.out, B3.out, B2.out, B1.out⟩, ?_⟩)
    clear hK K hHeld
    (try simp only [Act.put, List.setIfInBounds_toArray, List.set_cons_zero, List.set_cons_succ])
    (repeat (refine wpSchG_yes (v := ?_) rfl (fun _ _ _ h => h) (by rfl) ?_ ?_; rotate_left; (next => (intro w hSw; have c0 : w.cell? ⟨g6, 0, none⟩ = some (.bool false) := (hSw.1 : Whole w g6 _ _).cell 0; have c1 : w.cell? ⟨g6, 1, none⟩ = some (.bool false) := (hSw.1 : Whole w g6 _ _).cell 1; have c2 : w.cell? ⟨g6, 2, none⟩ = some (.int .u64 0) := (hSw.1 : Whole w g6 _ _).cell 2; have c3 : w.cell? ⟨g6, 3, none⟩ = some (.int .u64 0) := (hSw.1 : Whole w g6 _ _).cell 3; have c4 : w.cell? ⟨g6, 4, none⟩ = some (.int .u64 0) := (hSw.1 : Whole w g6 _ _).cell 4; have c5 : w.cell? ⟨g6, 5, none⟩ = some (.int .u64 0) := (hSw.1 : Whole w g6 _ _).cell 5; have c6 : w.cell? ⟨g6, 6, none⟩ = some (.int .u64 0) := (hSw.1 : Whole w g6 _ _).cell 6; have c7 : w.cell? ⟨g6, 7, none⟩ = some (.int .u64 0) := (hSw.1 : Whole w g6 _ _).cell 7; clear hSw; go_simp; (try with_reducible rfl))); (try simp only [Act.put, List.setIfInBounds_toArray, List.set_cons_zero, List.set_cons_succ])))
    refine wpSchG_call rfl (by rfl) (fun K hK => ?_)
    go_simp
    refine (rate_any _ _ HR.out.1 HR.out.2 (by decide) (by decide) _).mono ?_
    rintro e w7 ⟨rfl, k1⟩
    have K7 := Lib.hid (K6.out.trans k1)
    have C1 := Lib.hid (B1.out.keep k1 id); have C2 := Lib.hid (B2.out.keep k1 id); have C3 := Lib.hid (B3.out.keep k1 id); have C4 := Lib.hid (B4.out.keep k1 id); have C5 := Lib.hid (B5.out.keep k1 id); have C6 := Lib.hid (B6.out.keep k1 id)
    refine hK.out _ _ ⟨C6.out, C5.out, C4.out, C3.out, C2.out, C1.out⟩ (fun hHeld => ⟨_, fun _ h => h, ⟨C6.out, C5.out, C4.out, C3.out, C2.out, C1.out⟩, ?_⟩)
    clear hK K hHeld k1 K6 B1 B2 B3 B4 B5 B6
    (try simp only [Act.put, List.setIfInBounds_toArray, List.set_cons_zero, List.set_cons_succ])
    (repeat (refine wpSchG_yes (v := ?_) rfl (fun _ _ _ h => h) (by rfl) ?_ ?_; rotate_left; (next => (intro w hSw; clear hSw; go_simp; (try with_reducible rfl))); (try simp only [Act.put, List.setIfInBounds_toArray, List.set_cons_zero, List.set_cons_succ])))
    have K8 := Lib.hid (K7.out.alloc (.cells (mdlL (newM h)).toArray 69))
    have HM := Lib.hid (Whole.new w7 69 (mdlL (newM h)).toArray)
    have HL : Hid (wc.heap.size ≤ w7.heap.size) := Lib.hid K7.out.size
    refine wpSchG_call rfl (by rfl) (fun K hK => ?_)
    go_simp
    refine hK.out _ _ ⟨C6.out.alloc _, C5.out.alloc _, C4.out.alloc _, C3.out.alloc _, C2.out.alloc _, C1.out.alloc _⟩ (fun hHeld => ⟨_, fun _ h => h, ⟨C6.out.alloc _, C5.out.alloc _, C4.out.alloc _, C3.out.alloc _, C2.out.alloc _, C1.out.alloc _⟩, ?_⟩)
    clear hK K hHeld
    (try simp only [Act.put, List.setIfInBounds_toArray, List.set_cons_zero, List.set_cons_succ])
    (repeat (refine wpSchG_yes (v := ?_) rfl (fun _ _ _ h => h) (by rfl) ?_ ?_; rotate_left; (next => (intro w hSw; clear hSw; go_simp; (try with_reducible rfl))); (try simp only [Act.put, List.setIfInBounds_toArray, List.set_cons_zero, List.set_cons_succ])))
    refine wpSchG_nil ?_
    go_wp2
    go_ret
    exact ⟨_, rfl, HL.out, Part.of_whole HM.out, K8.out⟩
end Go.Proofs.YtcjgpkjhfbamfaaGreat
set_option linter.unusedVariables false
set_option linter.unusedSimpArgs false
namespace Go.Proofs.YtcjgpkjhfbamfaaGreat
open Go.RowKit
set_option maxRecDepth 100000
set_option maxHeartbeats 4000000 in
theorem rmnew_any (m : Int) (w : World) (hm : Num m) : Calls Tryz.prog 5 #[.int .u64 m] w fun e w' => ∃ g k, e = .returned (.pointer (some ⟨g, 0, none⟩)) ∧ w.heap.size ≤ g ∧ w.heap.size ≤ k ∧ RM w' g k (newM (clampS m)) 739 ∧ Keep (fun _ => False) w w' := by
  obtain ⟨h, hh⟩ : ∃ h, clampS m = h := ⟨_, rfl⟩
  have hb : 100 ≤ h ∧ h ≤ 9000 := hh ▸ clampS_bd
  rw [hh]
  go_enter Tryz.func5, Tryz.ntmps5
  go_upto_region 1 with fail
  go_cut [0] (fun s0 wx => s0 = .int .u64 h ∧ wx = w)
  case first =>
    by_cases h1 : m < 100
    · have HH : Hid (h = 100) := Lib.hid (by rw [← hh]; simp [clampS, h1])
      have h2 : m < 9000 := by omega
      have hn : ¬ 100 < m := by omega
      clear hh hb hm
      go_wp2
      go_meet
      exact ⟨by rw [HH.out], rfl⟩
    · by_cases h2 : m = 100
      · have HH : Hid (h = 100) := Lib.hid (by rw [← hh, h2]; decide)
        subst h2
        clear hh hb hm h1
        go_wp2
        go_meet
        exact ⟨by rw [HH.out], rfl⟩
      · have h3 : 100 < m := by omega
        rcases Int.lt_trichotomy m 9000 with hl | hl | hl
        · have HH : Hid (h = m) := Lib.hid (by rw [← hh]; unfold clampS; rw [if_neg h1, if_neg (by omega)])
          have hn : ¬ 9000 < m := by omega
          clear hh hb hm h2
          go_wp2
          go_meet
          exact ⟨by rw [HH.out], rfl⟩
        · have HH : Hid (h = 9000) := Lib.hid (by rw [← hh, hl]; decide)
          subst hl
          clear hh hb hm h1 h2 h3
          go_wp2
          go_meet
          exact ⟨by rw [HH.out], rfl⟩
        · have HH : Hid (h = 9000) := Lib.hid (by rw [← hh]; unfold clampS; rw [if_neg h1, if_pos hl])
          have hn : ¬ m < 9000 := by omega
          clear hh hb hm h2
          go_wp2
          go_meet
          exact ⟨by rw [HH.out], rfl⟩
  case rest =>
    obtain ⟨rfl, rfl⟩ := hcut
    have hw1 : IntKind.u64.wrap (10 * h) = 10 * h := by rw [IntKind.wrap_u64]; omega
    have hw2 : IntKind.u64.wrap (10 * h * 1000) = 1000 * (10 * h) := by rw [IntKind.wrap_u64]; omega
    have hr : 0 ≤ 1000 * (10 * h) ∧ 1000 * (10 * h) ≤ 18446744073709551615 := ⟨by omega, by omega⟩
    have HR := Lib.hid hr
    clear hr hb hm hh
    go_wp2_with fail
    refine (rnew_false 10 ⟨by decide, by decide⟩ _).mono ?_
    rintro e w1 ⟨rfl, h1, k1⟩
    have HW := Lib.hid h1
    have K1 := Lib.hid k1
    clear h1 k1
    generalize hk : wc.heap.size = k at HW ⊢
    have HK : Hid (wc.heap.size ≤ k) := Lib.hid (by omega)
    clear hk
    go_upto_region 3 with fail
    generalize hw3 : World.alloc w1 _ = w2
    generalize hg : w1.heap.size = g
    have HM0 : Hid (RM w2 g k { newM h with t := 0, w := 0 } 739) := Lib.hid (by
      rw [← hw3, ← hg]
      exact ⟨⟨⟨false, 0, 0⟩, Part.of_whole (Whole.new w1 83 (rmL { newM h with t := 0, w := 0 } k 739 ⟨false, 0, 0⟩).toArray), fun h => (by cases h), fun h => (by rcases h with h | h <;> cases h)⟩, HW.out.alloc _, Nat.ne_of_gt HW.out.lt⟩)
    have K2 : Hid (Keep (fun _ => False) wc w2) := Lib.hid (by rw [← hw3]; exact K1.out.alloc _)
    have HG : Hid (wc.heap.size ≤ g) := Lib.hid (by rw [← hg]; exact K1.out.size)
    clear hw3 hg HW K1
    have m2 := HM0.out.own'.2.2.1
    have f2 := HM0.out.free 25
    have HM1 := Lib.hid (HM0.out.put (y := { newM h with t := 0 }) (H := 739) 25 (.int .u64 (10 * h)) (by decide) (fun _ => rfl) rfl rfl rfl)
    have K3 := Lib.hid (K2.out.setCell (p := ⟨g, 25, none⟩) (.inr HG.out) (.int .u64 (10 * h)))
    go_upto_region 4 with fail
    clear m2 f2 HM0 K2
    generalize World.setCell _ _ _ = w3 at *
    have m2 : w3.cell? ⟨g, 25, none⟩ = some (.int .u64 (10 * h)) := HM1.out.own'.2.2.1
    have m1 : w3.cell? ⟨g, 24, none⟩ = some (.int .u64 0) := HM1.out.own'.2.1
    have f1 := HM1.out.free 24
    have HM2 := Lib.hid (HM1.out.put (y := newM h) (H := 739) 24 (.int .u64 (rateV (1000 * (10 * h)) 739)) (by decide) (fun _ => rfl) rfl rfl rfl)
    have K4 := Lib.hid (K3.out.setCell (p := ⟨g, 24, none⟩) (.inr HG.out) (.int .u64 (rateV (1000 * (10 * h)) 739)))
    go_wp2_with fail
    refine (rrate_any _ _ HR.out.1 HR.out.2 (by decide) (by decide) _).mono ?_
    rintro e w' ⟨rfl, rfl⟩
    go_wp2
    go_ret
    exact ⟨g, k, rfl, HG.out, HK.out, HM2.out, K4.out⟩
end Go.Proofs.YtcjgpkjhfbamfaaGreat
