/-
  The calls of package cycle (New, Start, Update, Phase, Gain) answer what the document says. Conditions: the Cycle lies in memory as New makes it, or is nil; numbers are of 64 bits.
-/
import Derived.Test.YtcjgpkjhfbamfaaGreatJ01
import Derived.Test.YtcjgpkjhfbamfaaGreatJ05
import Derived.Test.YtcjgpkjhfbamfaaGreatJ02
import Derived.Test.YtcjgpkjhfbamfaaGreatChecked
import Derived.WalkSpells
import Derived.WalkLawsBesides
import Derived.LoopTactic
import Derived.LoopN
import Derived.Deep.QuietTactic
import Derived.Deep.DeepCutAuto
import Derived.Deep.Draws
import Derived.BigQuiet
import Derived.Laws.ResultCell
set_option linter.unusedVariables false
namespace Go.Proofs.YtcjgpkjhfbamfaaGreat
open Go.RowKit
set_option maxRecDepth 100000
variable {Fm : Fr} {oo : Nat}

/-- A cycle: its phase; when that began. -/
structure Cst where
  p : Int
  s : Int
structure Cst.Fit (x : Cst) : Prop where
  p0 : 0 ≤ x.p
  p7 : x.p ≤ 7
  s : Num x.s
abbrev newC : Cst := ⟨0, 0⟩
theorem fit_newC : newC.Fit := ⟨by decide, by decide, ⟨by decide, by decide⟩⟩
/-- What an Update is told. -/
structure CLok where
  n : Int
  r : Int
  l : Int
  f : Int
  u : Int
  o : Int
abbrev CLok.c (l : CLok) : Array Value := #[.int .u64 l.n, .int .u64 l.r, .int .u64 l.l, .int .u64 l.f, .int .u64 l.u, .int .u64 l.o]
def startC (n p : Int) : Cst := ⟨p % 8, n⟩
def gainC (x : Cst) : Int := if x.p = 0 then 320 else if x.p = 1 then 192 else 256
def overC (x : Cst) (l : CLok) : Bool := decide (l.r < satSub l.n x.s)
/-- Does the next phase begin? -/
def begC (x : Cst) (l : CLok) : Bool := if x.p = 0 then overC x l && !(l.l == 0 && decide (l.f < l.u)) else if x.p = 1 then overC x l || !(decide (l.o < l.f)) else overC x l
def updC (x : Cst) (l : CLok) : Cst := if begC x l = true then startC l.n (x.p + 1) else x
theorem fit_start {n : Int} (h : Num n) (p : Int) : (startC n p).Fit := ⟨by show 0 ≤ p % 8; omega, by show p % 8 ≤ 7; omega, h⟩
theorem Cst.Fit.upd {x : Cst} {l : CLok} (h : x.Fit) (hn : Num l.n) : (updC x l).Fit := by
  unfold updC; split
  · exact fit_start hn _
  · exact h

abbrev cycC (x : Cst) : Array Value := #[.int .i64 x.p, .int .u64 x.s]
/-- A Cycle of package cycle. -/
structure CycAt (Fm : Fr) (oo : Nat) (w : World) (g : Nat) (x : Cst) : Prop where
  whole : Part Fm oo w g (cycC x).toList
  fit : x.Fit
section
variable {w w' : World} {g : Nat} {x : Cst} {R : Nat → Prop}
theorem CycAt.keep (h : CycAt Fm oo w g x) (hk : Keep R w w') (hg : ¬ R g) : CycAt Fm oo w' g x := ⟨h.whole.keep hk hg, h.fit⟩
theorem CycAt.drewN (h : CycAt Fm oo w g x) (m : Nat) : CycAt Fm oo (w.drewN m) g x := ⟨h.whole.drewN m, h.fit⟩
theorem CycAt.drew (h : CycAt Fm oo w g x) : CycAt Fm oo w.drew g x := ⟨h.whole.drew, h.fit⟩
theorem CycAt.alloc (h : CycAt Fm oo w g x) (o : Obj) : CycAt Fm oo (w.alloc o) g x := ⟨h.whole.alloc o, h.fit⟩
theorem CycAt.lt (h : CycAt Fm oo w g x) : g < w.heap.size := h.whole.lt
end

set_option maxHeartbeats 400000 in
theorem cynew_any (w : World) : Calls Tryz.prog 15 #[] w fun e w' => e = .returned (.pointer (some ⟨w.heap.size, 0, none⟩)) ∧ CycAt ⟨54, [], []⟩ 0 w' w.heap.size newC ∧ Keep (fun _ => False) w w' := by
  go_enter Tryz.func15, Tryz.ntmps15
  go_wp2
  go_ret
  exact ⟨rfl, ⟨Part.of_whole (Whole.new _ _ _), fit_newC⟩, (Keep.refl _ _).alloc _⟩
theorem cystart_nil (n p : Int) (w : World) : Calls Tryz.prog 94 #[.pointer none, .int .u64 n, .int .i64 p] w fun e w' => (∃ v, e = .returned v) ∧ w = w' := by
  go_enter Tryz.func94, Tryz.ntmps94
  go_wp2
  refine bodyPost_ret (results_none rfl _ _ _) rfl ?_
  exact ⟨⟨_, rfl⟩, rfl⟩
set_option maxHeartbeats 400000 in
theorem cystart_any (g : Nat) (x : Cst) (n p : Int) (w : World) (h : CycAt Fm oo w g x) (hn : Num n) : Calls Tryz.prog 94 #[.pointer (some ⟨g, oo, none⟩), .int .u64 n, .int .i64 p] w fun e w' => (∃ v, e = .returned v) ∧ CycAt Fm oo w' g (startC n p) ∧ Keep (fun k => k = g) w w' := by
  obtain ⟨T, hT⟩ : ∃ T, p.tmod 8 = T := ⟨_, rfl⟩
  have hT1 : -7 ≤ T ∧ T ≤ 7 ∧ (T + 8) % 8 = p % 8 := by
    rcases Int.le_total 0 p with h0 | h0
    · rw [Int.tmod_eq_emod_of_nonneg h0] at hT; omega
    · have h1 : (-p).tmod 8 = -T := by rw [Int.neg_tmod, hT]
      rw [Int.tmod_eq_emod_of_nonneg (by omega)] at h1; omega
  have hw1 : IntKind.i64.wrap (T + 8) = T + 8 := by rw [IntKind.wrap_i64]; omega
  have hm : (T + 8).tmod 8 = p % 8 := by rw [Int.tmod_eq_emod_of_nonneg (by omega)]; exact hT1.2.2
  have c0 : w.cell? ⟨g, oo, none⟩ = some (.int .i64 x.p) := h.whole.cell0
  have f0 := h.whole.free0
  have HP0 := Lib.hid (h.whole.put0 (.int .i64 (p % 8)))
  have c1 : (w.setCell ⟨g, oo, none⟩ (.int .i64 (p % 8))).cell? ⟨g, oo + 1, none⟩ = some (.int .u64 x.s) := HP0.out.cell 1
  have f1 := HP0.out.free 1
  have HP1 := Lib.hid (HP0.out.put 1 (.int .u64 n))
  have HK := Lib.hid (((Keep.refl (fun k => k = g) w).setCell (p := ⟨g, oo, none⟩) (.inl rfl) (.int .i64 (p % 8))).setCell (p := ⟨g, oo + 1, none⟩) (.inl rfl) (.int .u64 n))
  have HF := Lib.hid (fit_start hn p)
  clear h hT1 hn
  go_enter Tryz.func94, Tryz.ntmps94
  go_wp2
  go_end0
  exact ⟨⟨_, rfl⟩, ⟨HP1.out, HF.out⟩, HK.out⟩
theorem cyphase_nil (w : World) : Calls Tryz.prog 21 #[.pointer none] w fun e w' => e = .returned (.int .i64 0) ∧ w = w' := by
  go_enter Tryz.func21, Tryz.ntmps21
  go_wp2
  go_ret
  exact ⟨rfl, rfl⟩
set_option maxHeartbeats 400000 in
theorem cyphase_any (g : Nat) (x : Cst) (w : World) (h : CycAt Fm oo w g x) : Calls Tryz.prog 21 #[.pointer (some ⟨g, oo, none⟩)] w fun e w' => e = .returned (.int .i64 x.p) ∧ w = w' := by
  have c0 : w.cell? ⟨g, oo, none⟩ = some (.int .i64 x.p) := h.whole.cell0
  clear h
  go_enter Tryz.func21, Tryz.ntmps21
  go_wp2
  go_ret
  exact ⟨rfl, rfl⟩
theorem cygain_nil (w : World) : Calls Tryz.prog 51 #[.pointer none] w fun e w' => e = .returned (.int .u64 256) ∧ w = w' := by
  go_enter Tryz.func51, Tryz.ntmps51
  go_wp2
  go_ret
  exact ⟨rfl, rfl⟩
set_option maxHeartbeats 400000 in
theorem cygain_any (g : Nat) (x : Cst) (w : World) (h : CycAt Fm oo w g x) : Calls Tryz.prog 51 #[.pointer (some ⟨g, oo, none⟩)] w fun e w' => e = .returned (.int .u64 (gainC x)) ∧ w = w' := by
  have c0 : w.cell? ⟨g, oo, none⟩ = some (.int .i64 x.p) := h.whole.cell0
  clear h
  obtain ⟨p, s⟩ := x
  by_cases h0 : p = 0
  · subst h0
    go_enter Tryz.func51, Tryz.ntmps51
    go_wp2
    go_ret
    exact ⟨rfl, rfl⟩
  · by_cases h1 : p = 1
    · subst h1
      go_enter Tryz.func51, Tryz.ntmps51
      go_wp2
      go_ret
      exact ⟨rfl, rfl⟩
    · have HG : Hid (256 = gainC ⟨p, s⟩) := Lib.hid (by simp [gainC, h0, h1])
      have e0 : (p == 0) = false := by simp [h0]
      have e1 : (p == 1) = false := by simp [h1]
      clear h0 h1
      go_enter Tryz.func51, Tryz.ntmps51
      go_wp2
      go_ret
      exact ⟨ret_i HG.out, rfl⟩
theorem cyupd_nil (n r l f u o : Int) (w : World) : Calls Tryz.prog 57 #[.pointer none, .int .u64 n, .int .u64 r, .int .u64 l, .int .u64 f, .int .u64 u, .int .u64 o] w fun e w' => e = .returned (.bool false) ∧ w = w' := by
  go_enter Tryz.func57, Tryz.ntmps57
  go_wp2
  go_ret
  exact ⟨rfl, rfl⟩
set_option maxHeartbeats 2000000 in
theorem cywalk_any (g b : Nat) (x : Cst) (l : CLok) (w : World) (h : CycAt Fm oo w g x) (hb : Whole w b 128 l.c) (hn : Num l.n) :
    Calls Tryz.prog 92 #[.pointer (some ⟨g, oo, none⟩), .slice (some ⟨b, 0, none⟩) 1 1] w fun e w' => e = .returned (.int .i64 (if begC x l = true then (1 : Int) else 0)) ∧ CycAt Fm oo w' g (updC x l) ∧ Keep (fun k => k = g) w w' := by
  by_cases hp0 : x.p = 0
  · have q0 : (x.p == 0) = true := by simp [hp0]
    by_cases ho : l.r < satSub l.n x.s
    · by_cases hl : l.l = 0
      · have ql : (l.l == 0) = true := by simp [hl]
        by_cases hf : l.f < l.u
        · have hbg : begC x l = false := by simp [begC, hp0, hl, hf]
          have HU : Hid (updC x l = x) := Lib.hid (by simp [updC, hbg])
          have HB1 : Hid (0 = if begC x l = true then (1 : Int) else 0) := Lib.hid (by simp [hbg])
          clear hbg
          generalize (if begC x l = true then (1 : Int) else 0) = N at *
          clear hp0 hl
          have CS := Lib.hid (fun w => (sub_any l.n x.s hn.1 hn.2 h.fit.s.1 h.fit.s.2 w).mono (R' := fun e w' => e = .returned (.int .u64 (satSub l.n x.s)) ∧ w' = w) fun _ _ h => ⟨h.1, h.2.symm⟩)
          have HNN := Lib.hid hn
          have b0 : w.cell? ⟨b, 0, none⟩ = some (.int .u64 l.n) := hb.cell0
          have b1 : w.cell? ⟨b, 1, none⟩ = some (.int .u64 l.r) := hb.cell 1
          have b2 : w.cell? ⟨b, 2, none⟩ = some (.int .u64 l.l) := hb.cell 2
          have b3 : w.cell? ⟨b, 3, none⟩ = some (.int .u64 l.f) := hb.cell 3
          have b4 : w.cell? ⟨b, 4, none⟩ = some (.int .u64 l.u) := hb.cell 4
          have b5 : w.cell? ⟨b, 5, none⟩ = some (.int .u64 l.o) := hb.cell 5
          have HN := Lib.hid (Whole.new w 128 l.c)
          have HG1 := Lib.hid (h.alloc (.cells l.c 128))
          have HK := Lib.hid ((Keep.refl (fun k => k = g) w).alloc (.cells l.c 128))
          have hgn := Nat.ne_of_lt h.lt
          clear h hb hn
          generalize satSub l.n x.s = Z at *
          go_enter Tryz.func92, Tryz.ntmps92
          go_wp2
          go_step3
          go_wp2
          go_step3
          go_wp2
          refine wp_loop_rounds 2 ?_
          rw [rounds_succ]
          go_wp2
          generalize hw1 : w.alloc _ = w1 at *
          generalize w.heap.size = B at *
          have d0 : w1.cell? ⟨B, 0, none⟩ = some (.int .u64 l.n) := HN.out.cell0
          have d1 : w1.cell? ⟨B, 1, none⟩ = some (.int .u64 l.r) := HN.out.cell 1
          have e1 : w1.cell? ⟨g, oo + 1, none⟩ = some (.int .u64 x.s) := HG1.out.whole.cell 1
          clear hw1 b0 b1 b2 b3 b4 b5
          go_quiet ((go_at_call 55; exact Calls.quiet_of_same (CS.out _)))
          have HG2 := Lib.hid (HG1.out.drewN nq)
          have HN2 := Lib.hid (HN.out.drewN nq)
          have HK2 := Lib.hid (HK.out.drewN nq)
          clear d0 d1 e1 HN HG1 HK CS
          generalize w1.drewN nq = w2 at *
          have d2 : w2.cell? ⟨B, 2, none⟩ = some (.int .u64 l.l) := HN2.out.cell 2
          have d3 : w2.cell? ⟨B, 3, none⟩ = some (.int .u64 l.f) := HN2.out.cell 3
          have d4 : w2.cell? ⟨B, 4, none⟩ = some (.int .u64 l.u) := HN2.out.cell 4
          have d5 : w2.cell? ⟨B, 5, none⟩ = some (.int .u64 l.o) := HN2.out.cell 5
          have e0 : w2.cell? ⟨g, oo, none⟩ = some (.int .i64 x.p) := HG2.out.whole.cell0
          go_wp2
          (try rw [Exit.noGoto_normal])
          (try rw [Exit.noGoto_ret])
          go_ret
          refine ⟨ret_i HB1.out, ?_, HK2.out⟩
          rw [HU.out]
          exact HG2.out
        · have hbg : begC x l = true := by simp [begC, hp0, hf, overC, ho]
          have HU : Hid (updC x l = startC l.n (x.p + 1)) := Lib.hid (by simp [updC, hbg])
          have HB1 : Hid (1 = if begC x l = true then (1 : Int) else 0) := Lib.hid (by simp [hbg])
          clear hbg
          generalize (if begC x l = true then (1 : Int) else 0) = N at *
          clear hp0 hl
          have hwp : IntKind.i64.wrap (x.p + 1) = x.p + 1 := by have := h.fit.p0; have := h.fit.p7; rw [IntKind.wrap_i64]; omega
          have CS := Lib.hid (fun w => (sub_any l.n x.s hn.1 hn.2 h.fit.s.1 h.fit.s.2 w).mono (R' := fun e w' => e = .returned (.int .u64 (satSub l.n x.s)) ∧ w' = w) fun _ _ h => ⟨h.1, h.2.symm⟩)
          have HNN := Lib.hid hn
          have b0 : w.cell? ⟨b, 0, none⟩ = some (.int .u64 l.n) := hb.cell0
          have b1 : w.cell? ⟨b, 1, none⟩ = some (.int .u64 l.r) := hb.cell 1
          have b2 : w.cell? ⟨b, 2, none⟩ = some (.int .u64 l.l) := hb.cell 2
          have b3 : w.cell? ⟨b, 3, none⟩ = some (.int .u64 l.f) := hb.cell 3
          have b4 : w.cell? ⟨b, 4, none⟩ = some (.int .u64 l.u) := hb.cell 4
          have b5 : w.cell? ⟨b, 5, none⟩ = some (.int .u64 l.o) := hb.cell 5
          have HN := Lib.hid (Whole.new w 128 l.c)
          have HG1 := Lib.hid (h.alloc (.cells l.c 128))
          have HK := Lib.hid ((Keep.refl (fun k => k = g) w).alloc (.cells l.c 128))
          have hgn := Nat.ne_of_lt h.lt
          clear h hb hn
          generalize satSub l.n x.s = Z at *
          go_enter Tryz.func92, Tryz.ntmps92
          go_wp2
          go_step3
          go_wp2
          go_step3
          go_wp2
          refine wp_loop_rounds 2 ?_
          rw [rounds_succ]
          go_wp2
          generalize hw1 : w.alloc _ = w1 at *
          generalize w.heap.size = B at *
          have d0 : w1.cell? ⟨B, 0, none⟩ = some (.int .u64 l.n) := HN.out.cell0
          have d1 : w1.cell? ⟨B, 1, none⟩ = some (.int .u64 l.r) := HN.out.cell 1
          have e1 : w1.cell? ⟨g, oo + 1, none⟩ = some (.int .u64 x.s) := HG1.out.whole.cell 1
          clear hw1 b0 b1 b2 b3 b4 b5
          go_quiet ((go_at_call 55; exact Calls.quiet_of_same (CS.out _)))
          have HG2 := Lib.hid (HG1.out.drewN nq)
          have HN2 := Lib.hid (HN.out.drewN nq)
          have HK2 := Lib.hid (HK.out.drewN nq)
          clear d0 d1 e1 HN HG1 HK CS
          generalize w1.drewN nq = w2 at *
          have d2 : w2.cell? ⟨B, 2, none⟩ = some (.int .u64 l.l) := HN2.out.cell 2
          have d3 : w2.cell? ⟨B, 3, none⟩ = some (.int .u64 l.f) := HN2.out.cell 3
          have d4 : w2.cell? ⟨B, 4, none⟩ = some (.int .u64 l.u) := HN2.out.cell 4
          have d5 : w2.cell? ⟨B, 5, none⟩ = some (.int .u64 l.o) := HN2.out.cell 5
          have e0 : w2.cell? ⟨g, oo, none⟩ = some (.int .i64 x.p) := HG2.out.whole.cell0
          go_wp2
          refine wp_region_late (fun W => W.cell? ⟨B, 0, none⟩ = some (.int .u64 l.n) ∧ W.cell? ⟨g, oo, none⟩ = some (.int .i64 x.p)) [8] (.yes 0 (.yes 1 (.yes 2 (.yes 3 (.yes 4 (.yes 5 (.yes 6 (.yes 7 (.one 8 .nil))))))))) (by kernel_rfl) (by kernel_rfl) (by kernel_rfl) (by kernel_rfl) ⟨HN2.out.drew.cell0, e0⟩ ?_
          (repeat (refine wpSchL_yes (v := ?_) rfl (fun _ _ _ h => h) (by rfl) ?_ ?_; rotate_left; (next => (intro w hSw; (try dsimp only at hSw); obtain ⟨hS1, hS2⟩ := hSw; go_simp; (try with_reducible rfl))); (try simp only [Act.put, List.setIfInBounds_toArray, List.set_cons_zero, List.set_cons_succ])))
          refine wpSchL_one ?_
          refine wpOneL_call rfl (by rfl) (fun K hK => ?_)
          go_simp
          refine (cystart_any _ _ l.n (x.p + 1) _ HG2.out.drew HNN.out).mono ?_
          rintro e w3 ⟨⟨_, rfl⟩, h3, k3⟩
          have H3 := Lib.hid h3; have K3 := Lib.hid (HK2.out.drew.trans k3)
          clear h3 k3
          refine hK.out _ _ ?_ (fun hHeld => ?_)
          · exact fun h => absurd h (by decide)
          clear hK K hHeld
          (try simp only [Act.put, List.setIfInBounds_toArray, List.set_cons_zero, List.set_cons_succ])
          refine wpSchL_nil ?_
          go_wp2
          rw [rounds_succ]
          go_wp2
          (try rw [Exit.noGoto_normal])
          (try rw [Exit.noGoto_ret])
          go_ret
          refine ⟨ret_i HB1.out, ?_, K3.out⟩
          rw [HU.out]
          exact H3.out
      · have ql : (l.l == 0) = false := by simp [hl]
        have hbg : begC x l = true := by simp [begC, hp0, hl, overC, ho]
        have HU : Hid (updC x l = startC l.n (x.p + 1)) := Lib.hid (by simp [updC, hbg])
        have HB1 : Hid (1 = if begC x l = true then (1 : Int) else 0) := Lib.hid (by simp [hbg])
        clear hbg
        generalize (if begC x l = true then (1 : Int) else 0) = N at *
        clear hp0 hl
        have hwp : IntKind.i64.wrap (x.p + 1) = x.p + 1 := by have := h.fit.p0; have := h.fit.p7; rw [IntKind.wrap_i64]; omega
        have CS := Lib.hid (fun w => (sub_any l.n x.s hn.1 hn.2 h.fit.s.1 h.fit.s.2 w).mono (R' := fun e w' => e = .returned (.int .u64 (satSub l.n x.s)) ∧ w' = w) fun _ _ h => ⟨h.1, h.2.symm⟩)
        have HNN := Lib.hid hn
        have b0 : w.cell? ⟨b, 0, none⟩ = some (.int .u64 l.n) := hb.cell0
        have b1 : w.cell? ⟨b, 1, none⟩ = some (.int .u64 l.r) := hb.cell 1
        have b2 : w.cell? ⟨b, 2, none⟩ = some (.int .u64 l.l) := hb.cell 2
        have b3 : w.cell? ⟨b, 3, none⟩ = some (.int .u64 l.f) := hb.cell 3
        have b4 : w.cell? ⟨b, 4, none⟩ = some (.int .u64 l.u) := hb.cell 4
        have b5 : w.cell? ⟨b, 5, none⟩ = some (.int .u64 l.o) := hb.cell 5
        have HN := Lib.hid (Whole.new w 128 l.c)
        have HG1 := Lib.hid (h.alloc (.cells l.c 128))
        have HK := Lib.hid ((Keep.refl (fun k => k = g) w).alloc (.cells l.c 128))
        have hgn := Nat.ne_of_lt h.lt
        clear h hb hn
        generalize satSub l.n x.s = Z at *
        go_enter Tryz.func92, Tryz.ntmps92
        go_wp2
        go_step3
        go_wp2
        go_step3
        go_wp2
        refine wp_loop_rounds 2 ?_
        rw [rounds_succ]
        go_wp2
        generalize hw1 : w.alloc _ = w1 at *
        generalize w.heap.size = B at *
        have d0 : w1.cell? ⟨B, 0, none⟩ = some (.int .u64 l.n) := HN.out.cell0
        have d1 : w1.cell? ⟨B, 1, none⟩ = some (.int .u64 l.r) := HN.out.cell 1
        have e1 : w1.cell? ⟨g, oo + 1, none⟩ = some (.int .u64 x.s) := HG1.out.whole.cell 1
        clear hw1 b0 b1 b2 b3 b4 b5
        go_quiet ((go_at_call 55; exact Calls.quiet_of_same (CS.out _)))
        have HG2 := Lib.hid (HG1.out.drewN nq)
        have HN2 := Lib.hid (HN.out.drewN nq)
        have HK2 := Lib.hid (HK.out.drewN nq)
        clear d0 d1 e1 HN HG1 HK CS
        generalize w1.drewN nq = w2 at *
        have d2 : w2.cell? ⟨B, 2, none⟩ = some (.int .u64 l.l) := HN2.out.cell 2
        have d3 : w2.cell? ⟨B, 3, none⟩ = some (.int .u64 l.f) := HN2.out.cell 3
        have d4 : w2.cell? ⟨B, 4, none⟩ = some (.int .u64 l.u) := HN2.out.cell 4
        have d5 : w2.cell? ⟨B, 5, none⟩ = some (.int .u64 l.o) := HN2.out.cell 5
        have e0 : w2.cell? ⟨g, oo, none⟩ = some (.int .i64 x.p) := HG2.out.whole.cell0
        go_wp2
        refine wp_region_late (fun W => W.cell? ⟨B, 0, none⟩ = some (.int .u64 l.n) ∧ W.cell? ⟨g, oo, none⟩ = some (.int .i64 x.p)) [8] (.yes 0 (.yes 1 (.yes 2 (.yes 3 (.yes 4 (.yes 5 (.yes 6 (.yes 7 (.one 8 .nil))))))))) (by kernel_rfl) (by kernel_rfl) (by kernel_rfl) (by kernel_rfl) ⟨HN2.out.drew.cell0, e0⟩ ?_
        (repeat (refine wpSchL_yes (v := ?_) rfl (fun _ _ _ h => h) (by rfl) ?_ ?_; rotate_left; (next => (intro w hSw; (try dsimp only at hSw); obtain ⟨hS1, hS2⟩ := hSw; go_simp; (try with_reducible rfl))); (try simp only [Act.put, List.setIfInBounds_toArray, List.set_cons_zero, List.set_cons_succ])))
        refine wpSchL_one ?_
        refine wpOneL_call rfl (by rfl) (fun K hK => ?_)
        go_simp
        refine (cystart_any _ _ l.n (x.p + 1) _ HG2.out.drew HNN.out).mono ?_
        rintro e w3 ⟨⟨_, rfl⟩, h3, k3⟩
        have H3 := Lib.hid h3; have K3 := Lib.hid (HK2.out.drew.trans k3)
        clear h3 k3
        refine hK.out _ _ ?_ (fun hHeld => ?_)
        · exact fun h => absurd h (by decide)
        clear hK K hHeld
        (try simp only [Act.put, List.setIfInBounds_toArray, List.set_cons_zero, List.set_cons_succ])
        refine wpSchL_nil ?_
        go_wp2
        rw [rounds_succ]
        go_wp2
        (try rw [Exit.noGoto_normal])
        (try rw [Exit.noGoto_ret])
        go_ret
        refine ⟨ret_i HB1.out, ?_, K3.out⟩
        rw [HU.out]
        exact H3.out
    · have hbg : begC x l = false := by simp [begC, hp0, overC, ho]
      have HU : Hid (updC x l = x) := Lib.hid (by simp [updC, hbg])
      have HB1 : Hid (0 = if begC x l = true then (1 : Int) else 0) := Lib.hid (by simp [hbg])
      clear hbg
      generalize (if begC x l = true then (1 : Int) else 0) = N at *
      clear hp0
      have CS := Lib.hid (fun w => (sub_any l.n x.s hn.1 hn.2 h.fit.s.1 h.fit.s.2 w).mono (R' := fun e w' => e = .returned (.int .u64 (satSub l.n x.s)) ∧ w' = w) fun _ _ h => ⟨h.1, h.2.symm⟩)
      have HNN := Lib.hid hn
      have b0 : w.cell? ⟨b, 0, none⟩ = some (.int .u64 l.n) := hb.cell0
      have b1 : w.cell? ⟨b, 1, none⟩ = some (.int .u64 l.r) := hb.cell 1
      have b2 : w.cell? ⟨b, 2, none⟩ = some (.int .u64 l.l) := hb.cell 2
      have b3 : w.cell? ⟨b, 3, none⟩ = some (.int .u64 l.f) := hb.cell 3
      have b4 : w.cell? ⟨b, 4, none⟩ = some (.int .u64 l.u) := hb.cell 4
      have b5 : w.cell? ⟨b, 5, none⟩ = some (.int .u64 l.o) := hb.cell 5
      have HN := Lib.hid (Whole.new w 128 l.c)
      have HG1 := Lib.hid (h.alloc (.cells l.c 128))
      have HK := Lib.hid ((Keep.refl (fun k => k = g) w).alloc (.cells l.c 128))
      have hgn := Nat.ne_of_lt h.lt
      clear h hb hn
      generalize satSub l.n x.s = Z at *
      go_enter Tryz.func92, Tryz.ntmps92
      go_wp2
      go_step3
      go_wp2
      go_step3
      go_wp2
      refine wp_loop_rounds 2 ?_
      rw [rounds_succ]
      go_wp2
      generalize hw1 : w.alloc _ = w1 at *
      generalize w.heap.size = B at *
      have d0 : w1.cell? ⟨B, 0, none⟩ = some (.int .u64 l.n) := HN.out.cell0
      have d1 : w1.cell? ⟨B, 1, none⟩ = some (.int .u64 l.r) := HN.out.cell 1
      have e1 : w1.cell? ⟨g, oo + 1, none⟩ = some (.int .u64 x.s) := HG1.out.whole.cell 1
      clear hw1 b0 b1 b2 b3 b4 b5
      go_quiet ((go_at_call 55; exact Calls.quiet_of_same (CS.out _)))
      have HG2 := Lib.hid (HG1.out.drewN nq)
      have HN2 := Lib.hid (HN.out.drewN nq)
      have HK2 := Lib.hid (HK.out.drewN nq)
      clear d0 d1 e1 HN HG1 HK CS
      generalize w1.drewN nq = w2 at *
      have d2 : w2.cell? ⟨B, 2, none⟩ = some (.int .u64 l.l) := HN2.out.cell 2
      have d3 : w2.cell? ⟨B, 3, none⟩ = some (.int .u64 l.f) := HN2.out.cell 3
      have d4 : w2.cell? ⟨B, 4, none⟩ = some (.int .u64 l.u) := HN2.out.cell 4
      have d5 : w2.cell? ⟨B, 5, none⟩ = some (.int .u64 l.o) := HN2.out.cell 5
      have e0 : w2.cell? ⟨g, oo, none⟩ = some (.int .i64 x.p) := HG2.out.whole.cell0
      go_wp2
      (try rw [Exit.noGoto_normal])
      (try rw [Exit.noGoto_ret])
      go_ret
      refine ⟨ret_i HB1.out, ?_, HK2.out⟩
      rw [HU.out]
      exact HG2.out
  · have q0 : (x.p == 0) = false := by simp [hp0]
    by_cases hp1 : x.p = 1
    · have q1 : (x.p == 1) = true := by simp [hp1]
      by_cases ho : l.r < satSub l.n x.s
      · have hbg : begC x l = true := by simp [begC, hp1, overC, ho]
        have HU : Hid (updC x l = startC l.n (x.p + 1)) := Lib.hid (by simp [updC, hbg])
        have HB1 : Hid (1 = if begC x l = true then (1 : Int) else 0) := Lib.hid (by simp [hbg])
        clear hbg
        generalize (if begC x l = true then (1 : Int) else 0) = N at *
        clear hp0 hp1
        have hwp : IntKind.i64.wrap (x.p + 1) = x.p + 1 := by have := h.fit.p0; have := h.fit.p7; rw [IntKind.wrap_i64]; omega
        have CS := Lib.hid (fun w => (sub_any l.n x.s hn.1 hn.2 h.fit.s.1 h.fit.s.2 w).mono (R' := fun e w' => e = .returned (.int .u64 (satSub l.n x.s)) ∧ w' = w) fun _ _ h => ⟨h.1, h.2.symm⟩)
        have HNN := Lib.hid hn
        have b0 : w.cell? ⟨b, 0, none⟩ = some (.int .u64 l.n) := hb.cell0
        have b1 : w.cell? ⟨b, 1, none⟩ = some (.int .u64 l.r) := hb.cell 1
        have b2 : w.cell? ⟨b, 2, none⟩ = some (.int .u64 l.l) := hb.cell 2
        have b3 : w.cell? ⟨b, 3, none⟩ = some (.int .u64 l.f) := hb.cell 3
        have b4 : w.cell? ⟨b, 4, none⟩ = some (.int .u64 l.u) := hb.cell 4
        have b5 : w.cell? ⟨b, 5, none⟩ = some (.int .u64 l.o) := hb.cell 5
        have HN := Lib.hid (Whole.new w 128 l.c)
        have HG1 := Lib.hid (h.alloc (.cells l.c 128))
        have HK := Lib.hid ((Keep.refl (fun k => k = g) w).alloc (.cells l.c 128))
        have hgn := Nat.ne_of_lt h.lt
        clear h hb hn
        generalize satSub l.n x.s = Z at *
        go_enter Tryz.func92, Tryz.ntmps92
        go_wp2
        go_step3
        go_wp2
        go_step3
        go_wp2
        refine wp_loop_rounds 2 ?_
        rw [rounds_succ]
        go_wp2
        generalize hw1 : w.alloc _ = w1 at *
        generalize w.heap.size = B at *
        have d0 : w1.cell? ⟨B, 0, none⟩ = some (.int .u64 l.n) := HN.out.cell0
        have d1 : w1.cell? ⟨B, 1, none⟩ = some (.int .u64 l.r) := HN.out.cell 1
        have e1 : w1.cell? ⟨g, oo + 1, none⟩ = some (.int .u64 x.s) := HG1.out.whole.cell 1
        clear hw1 b0 b1 b2 b3 b4 b5
        go_quiet ((go_at_call 55; exact Calls.quiet_of_same (CS.out _)))
        have HG2 := Lib.hid (HG1.out.drewN nq)
        have HN2 := Lib.hid (HN.out.drewN nq)
        have HK2 := Lib.hid (HK.out.drewN nq)
        clear d0 d1 e1 HN HG1 HK CS
        generalize w1.drewN nq = w2 at *
        have d2 : w2.cell? ⟨B, 2, none⟩ = some (.int .u64 l.l) := HN2.out.cell 2
        have d3 : w2.cell? ⟨B, 3, none⟩ = some (.int .u64 l.f) := HN2.out.cell 3
        have d4 : w2.cell? ⟨B, 4, none⟩ = some (.int .u64 l.u) := HN2.out.cell 4
        have d5 : w2.cell? ⟨B, 5, none⟩ = some (.int .u64 l.o) := HN2.out.cell 5
        have e0 : w2.cell? ⟨g, oo, none⟩ = some (.int .i64 x.p) := HG2.out.whole.cell0
        go_wp2
        refine wp_region_late (fun W => W.cell? ⟨B, 0, none⟩ = some (.int .u64 l.n) ∧ W.cell? ⟨g, oo, none⟩ = some (.int .i64 x.p)) [8] (.yes 0 (.yes 1 (.yes 2 (.yes 3 (.yes 4 (.yes 5 (.yes 6 (.yes 7 (.one 8 .nil))))))))) (by kernel_rfl) (by kernel_rfl) (by kernel_rfl) (by kernel_rfl) ⟨HN2.out.drew.cell0, e0⟩ ?_
        (repeat (refine wpSchL_yes (v := ?_) rfl (fun _ _ _ h => h) (by rfl) ?_ ?_; rotate_left; (next => (intro w hSw; (try dsimp only at hSw); obtain ⟨hS1, hS2⟩ := hSw; go_simp; (try with_reducible rfl))); (try simp only [Act.put, List.setIfInBounds_toArray, List.set_cons_zero, List.set_cons_succ])))
        refine wpSchL_one ?_
        refine wpOneL_call rfl (by rfl) (fun K hK => ?_)
        go_simp
        refine (cystart_any _ _ l.n (x.p + 1) _ HG2.out.drew HNN.out).mono ?_
        rintro e w3 ⟨⟨_, rfl⟩, h3, k3⟩
        have H3 := Lib.hid h3; have K3 := Lib.hid (HK2.out.drew.trans k3)
        clear h3 k3
        refine hK.out _ _ ?_ (fun hHeld => ?_)
        · exact fun h => absurd h (by decide)
        clear hK K hHeld
        (try simp only [Act.put, List.setIfInBounds_toArray, List.set_cons_zero, List.set_cons_succ])
        refine wpSchL_nil ?_
        go_wp2
        rw [rounds_succ]
        go_wp2
        (try rw [Exit.noGoto_normal])
        (try rw [Exit.noGoto_ret])
        go_ret
        refine ⟨ret_i HB1.out, ?_, K3.out⟩
        rw [HU.out]
        exact H3.out
      · by_cases hf : l.o < l.f
        · have hbg : begC x l = false := by simp [begC, hp1, overC, ho, hf]
          have hoD : decide (l.r < satSub l.n x.s) = false := by simp [ho]
          have HU : Hid (updC x l = x) := Lib.hid (by simp [updC, hbg])
          have HB1 : Hid (0 = if begC x l = true then (1 : Int) else 0) := Lib.hid (by simp [hbg])
          clear hbg
          generalize (if begC x l = true then (1 : Int) else 0) = N at *
          clear hp0 hp1
          have CS := Lib.hid (fun w => (sub_any l.n x.s hn.1 hn.2 h.fit.s.1 h.fit.s.2 w).mono (R' := fun e w' => e = .returned (.int .u64 (satSub l.n x.s)) ∧ w' = w) fun _ _ h => ⟨h.1, h.2.symm⟩)
          have HNN := Lib.hid hn
          have b0 : w.cell? ⟨b, 0, none⟩ = some (.int .u64 l.n) := hb.cell0
          have b1 : w.cell? ⟨b, 1, none⟩ = some (.int .u64 l.r) := hb.cell 1
          have b2 : w.cell? ⟨b, 2, none⟩ = some (.int .u64 l.l) := hb.cell 2
          have b3 : w.cell? ⟨b, 3, none⟩ = some (.int .u64 l.f) := hb.cell 3
          have b4 : w.cell? ⟨b, 4, none⟩ = some (.int .u64 l.u) := hb.cell 4
          have b5 : w.cell? ⟨b, 5, none⟩ = some (.int .u64 l.o) := hb.cell 5
          have HN := Lib.hid (Whole.new w 128 l.c)
          have HG1 := Lib.hid (h.alloc (.cells l.c 128))
          have HK := Lib.hid ((Keep.refl (fun k => k = g) w).alloc (.cells l.c 128))
          have hgn := Nat.ne_of_lt h.lt
          clear h hb hn
          generalize satSub l.n x.s = Z at *
          go_enter Tryz.func92, Tryz.ntmps92
          go_wp2
          go_step3
          go_wp2
          go_step3
          go_wp2
          refine wp_loop_rounds 2 ?_
          rw [rounds_succ]
          go_wp2
          generalize hw1 : w.alloc _ = w1 at *
          generalize w.heap.size = B at *
          have d0 : w1.cell? ⟨B, 0, none⟩ = some (.int .u64 l.n) := HN.out.cell0
          have d1 : w1.cell? ⟨B, 1, none⟩ = some (.int .u64 l.r) := HN.out.cell 1
          have e1 : w1.cell? ⟨g, oo + 1, none⟩ = some (.int .u64 x.s) := HG1.out.whole.cell 1
          clear hw1 b0 b1 b2 b3 b4 b5
          go_quiet ((go_at_call 55; exact Calls.quiet_of_same (CS.out _)))
          have HG2 := Lib.hid (HG1.out.drewN nq)
          have HN2 := Lib.hid (HN.out.drewN nq)
          have HK2 := Lib.hid (HK.out.drewN nq)
          clear d0 d1 e1 HN HG1 HK CS
          generalize w1.drewN nq = w2 at *
          have d2 : w2.cell? ⟨B, 2, none⟩ = some (.int .u64 l.l) := HN2.out.cell 2
          have d3 : w2.cell? ⟨B, 3, none⟩ = some (.int .u64 l.f) := HN2.out.cell 3
          have d4 : w2.cell? ⟨B, 4, none⟩ = some (.int .u64 l.u) := HN2.out.cell 4
          have d5 : w2.cell? ⟨B, 5, none⟩ = some (.int .u64 l.o) := HN2.out.cell 5
          have e0 : w2.cell? ⟨g, oo, none⟩ = some (.int .i64 x.p) := HG2.out.whole.cell0
          go_wp2
          (try rw [Exit.noGoto_normal])
          (try rw [Exit.noGoto_ret])
          go_ret
          refine ⟨ret_i HB1.out, ?_, HK2.out⟩
          rw [HU.out]
          exact HG2.out
        · have hbg : begC x l = true := by simp [begC, hp1, hf]
          have HU : Hid (updC x l = startC l.n (x.p + 1)) := Lib.hid (by simp [updC, hbg])
          have HB1 : Hid (1 = if begC x l = true then (1 : Int) else 0) := Lib.hid (by simp [hbg])
          clear hbg
          generalize (if begC x l = true then (1 : Int) else 0) = N at *
          clear hp0 hp1
          have hwp : IntKind.i64.wrap (x.p + 1) = x.p + 1 := by have := h.fit.p0; have := h.fit.p7; rw [IntKind.wrap_i64]; omega
          have CS := Lib.hid (fun w => (sub_any l.n x.s hn.1 hn.2 h.fit.s.1 h.fit.s.2 w).mono (R' := fun e w' => e = .returned (.int .u64 (satSub l.n x.s)) ∧ w' = w) fun _ _ h => ⟨h.1, h.2.symm⟩)
          have HNN := Lib.hid hn
          have b0 : w.cell? ⟨b, 0, none⟩ = some (.int .u64 l.n) := hb.cell0
          have b1 : w.cell? ⟨b, 1, none⟩ = some (.int .u64 l.r) := hb.cell 1
          have b2 : w.cell? ⟨b, 2, none⟩ = some (.int .u64 l.l) := hb.cell 2
          have b3 : w.cell? ⟨b, 3, none⟩ = some (.int .u64 l.f) := hb.cell 3
          have b4 : w.cell? ⟨b, 4, none⟩ = some (.int .u64 l.u) := hb.cell 4
          have b5 : w.cell? ⟨b, 5, none⟩ = some (.int .u64 l.o) := hb.cell 5
          have HN := Lib.hid (Whole.new w 128 l.c)
          have HG1 := Lib.hid (h.alloc (.cells l.c 128))
          have HK := Lib.hid ((Keep.refl (fun k => k = g) w).alloc (.cells l.c 128))
          have hgn := Nat.ne_of_lt h.lt
          clear h hb hn
          generalize satSub l.n x.s = Z at *
          go_enter Tryz.func92, Tryz.ntmps92
          go_wp2
          go_step3
          go_wp2
          go_step3
          go_wp2
          refine wp_loop_rounds 2 ?_
          rw [rounds_succ]
          go_wp2
          generalize hw1 : w.alloc _ = w1 at *
          generalize w.heap.size = B at *
          have d0 : w1.cell? ⟨B, 0, none⟩ = some (.int .u64 l.n) := HN.out.cell0
          have d1 : w1.cell? ⟨B, 1, none⟩ = some (.int .u64 l.r) := HN.out.cell 1
          have e1 : w1.cell? ⟨g, oo + 1, none⟩ = some (.int .u64 x.s) := HG1.out.whole.cell 1
          clear hw1 b0 b1 b2 b3 b4 b5
          go_quiet ((go_at_call 55; exact Calls.quiet_of_same (CS.out _)))
          have HG2 := Lib.hid (HG1.out.drewN nq)
          have HN2 := Lib.hid (HN.out.drewN nq)
          have HK2 := Lib.hid (HK.out.drewN nq)
          clear d0 d1 e1 HN HG1 HK CS
          generalize w1.drewN nq = w2 at *
          have d2 : w2.cell? ⟨B, 2, none⟩ = some (.int .u64 l.l) := HN2.out.cell 2
          have d3 : w2.cell? ⟨B, 3, none⟩ = some (.int .u64 l.f) := HN2.out.cell 3
          have d4 : w2.cell? ⟨B, 4, none⟩ = some (.int .u64 l.u) := HN2.out.cell 4
          have d5 : w2.cell? ⟨B, 5, none⟩ = some (.int .u64 l.o) := HN2.out.cell 5
          have e0 : w2.cell? ⟨g, oo, none⟩ = some (.int .i64 x.p) := HG2.out.whole.cell0
          go_wp2
          refine wp_region_late (fun W => W.cell? ⟨B, 0, none⟩ = some (.int .u64 l.n) ∧ W.cell? ⟨g, oo, none⟩ = some (.int .i64 x.p)) [8] (.yes 0 (.yes 1 (.yes 2 (.yes 3 (.yes 4 (.yes 5 (.yes 6 (.yes 7 (.one 8 .nil))))))))) (by kernel_rfl) (by kernel_rfl) (by kernel_rfl) (by kernel_rfl) ⟨HN2.out.drew.cell0, e0⟩ ?_
          (repeat (refine wpSchL_yes (v := ?_) rfl (fun _ _ _ h => h) (by rfl) ?_ ?_; rotate_left; (next => (intro w hSw; (try dsimp only at hSw); obtain ⟨hS1, hS2⟩ := hSw; go_simp; (try with_reducible rfl))); (try simp only [Act.put, List.setIfInBounds_toArray, List.set_cons_zero, List.set_cons_succ])))
          refine wpSchL_one ?_
          refine wpOneL_call rfl (by rfl) (fun K hK => ?_)
          go_simp
          refine (cystart_any _ _ l.n (x.p + 1) _ HG2.out.drew HNN.out).mono ?_
          rintro e w3 ⟨⟨_, rfl⟩, h3, k3⟩
          have H3 := Lib.hid h3; have K3 := Lib.hid (HK2.out.drew.trans k3)
          clear h3 k3
          refine hK.out _ _ ?_ (fun hHeld => ?_)
          · exact fun h => absurd h (by decide)
          clear hK K hHeld
          (try simp only [Act.put, List.setIfInBounds_toArray, List.set_cons_zero, List.set_cons_succ])
          refine wpSchL_nil ?_
          go_wp2
          rw [rounds_succ]
          go_wp2
          (try rw [Exit.noGoto_normal])
          (try rw [Exit.noGoto_ret])
          go_ret
          refine ⟨ret_i HB1.out, ?_, K3.out⟩
          rw [HU.out]
          exact H3.out
    · have q1 : (x.p == 1) = false := by simp [hp1]
      by_cases ho : l.r < satSub l.n x.s
      · have hbg : begC x l = true := by simp [begC, hp0, hp1, overC, ho]
        have HU : Hid (updC x l = startC l.n (x.p + 1)) := Lib.hid (by simp [updC, hbg])
        have HB1 : Hid (1 = if begC x l = true then (1 : Int) else 0) := Lib.hid (by simp [hbg])
        clear hbg
        generalize (if begC x l = true then (1 : Int) else 0) = N at *
        clear hp0 hp1
        have hwp : IntKind.i64.wrap (x.p + 1) = x.p + 1 := by have := h.fit.p0; have := h.fit.p7; rw [IntKind.wrap_i64]; omega
        have CS := Lib.hid (fun w => (sub_any l.n x.s hn.1 hn.2 h.fit.s.1 h.fit.s.2 w).mono (R' := fun e w' => e = .returned (.int .u64 (satSub l.n x.s)) ∧ w' = w) fun _ _ h => ⟨h.1, h.2.symm⟩)
        have HNN := Lib.hid hn
        have b0 : w.cell? ⟨b, 0, none⟩ = some (.int .u64 l.n) := hb.cell0
        have b1 : w.cell? ⟨b, 1, none⟩ = some (.int .u64 l.r) := hb.cell 1
        have b2 : w.cell? ⟨b, 2, none⟩ = some (.int .u64 l.l) := hb.cell 2
        have b3 : w.cell? ⟨b, 3, none⟩ = some (.int .u64 l.f) := hb.cell 3
        have b4 : w.cell? ⟨b, 4, none⟩ = some (.int .u64 l.u) := hb.cell 4
        have b5 : w.cell? ⟨b, 5, none⟩ = some (.int .u64 l.o) := hb.cell 5
        have HN := Lib.hid (Whole.new w 128 l.c)
        have HG1 := Lib.hid (h.alloc (.cells l.c 128))
        have HK := Lib.hid ((Keep.refl (fun k => k = g) w).alloc (.cells l.c 128))
        have hgn := Nat.ne_of_lt h.lt
        clear h hb hn
        generalize satSub l.n x.s = Z at *
        go_enter Tryz.func92, Tryz.ntmps92
        go_wp2
        go_step3
        go_wp2
        go_step3
        go_wp2
        refine wp_loop_rounds 2 ?_
        rw [rounds_succ]
        go_wp2
        generalize hw1 : w.alloc _ = w1 at *
        generalize w.heap.size = B at *
        have d0 : w1.cell? ⟨B, 0, none⟩ = some (.int .u64 l.n) := HN.out.cell0
        have d1 : w1.cell? ⟨B, 1, none⟩ = some (.int .u64 l.r) := HN.out.cell 1
        have e1 : w1.cell? ⟨g, oo + 1, none⟩ = some (.int .u64 x.s) := HG1.out.whole.cell 1
        clear hw1 b0 b1 b2 b3 b4 b5
        go_quiet ((go_at_call 55; exact Calls.quiet_of_same (CS.out _)))
        have HG2 := Lib.hid (HG1.out.drewN nq)
        have HN2 := Lib.hid (HN.out.drewN nq)
        have HK2 := Lib.hid (HK.out.drewN nq)
        clear d0 d1 e1 HN HG1 HK CS
        generalize w1.drewN nq = w2 at *
        have d2 : w2.cell? ⟨B, 2, none⟩ = some (.int .u64 l.l) := HN2.out.cell 2
        have d3 : w2.cell? ⟨B, 3, none⟩ = some (.int .u64 l.f) := HN2.out.cell 3
        have d4 : w2.cell? ⟨B, 4, none⟩ = some (.int .u64 l.u) := HN2.out.cell 4
        have d5 : w2.cell? ⟨B, 5, none⟩ = some (.int .u64 l.o) := HN2.out.cell 5
        have e0 : w2.cell? ⟨g, oo, none⟩ = some (.int .i64 x.p) := HG2.out.whole.cell0
        go_wp2
        refine wp_region_late (fun W => W.cell? ⟨B, 0, none⟩ = some (.int .u64 l.n) ∧ W.cell? ⟨g, oo, none⟩ = some (.int .i64 x.p)) [8] (.yes 0 (.yes 1 (.yes 2 (.yes 3 (.yes 4 (.yes 5 (.yes 6 (.yes 7 (.one 8 .nil))))))))) (by kernel_rfl) (by kernel_rfl) (by kernel_rfl) (by kernel_rfl) ⟨HN2.out.drew.cell0, e0⟩ ?_
        (repeat (refine wpSchL_yes (v := ?_) rfl (fun _ _ _ h => h) (by rfl) ?_ ?_; rotate_left; (next => (intro w hSw; (try dsimp only at hSw); obtain ⟨hS1, hS2⟩ := hSw; go_simp; (try with_reducible rfl))); (try simp only [Act.put, List.setIfInBounds_toArray, List.set_cons_zero, List.set_cons_succ])))
        refine wpSchL_one ?_
        refine wpOneL_call rfl (by rfl) (fun K hK => ?_)
        go_simp
        refine (cystart_any _ _ l.n (x.p + 1) _ HG2.out.drew HNN.out).mono ?_
        rintro e w3 ⟨⟨_, rfl⟩, h3, k3⟩
        have H3 := Lib.hid h3; have K3 := Lib.hid (HK2.out.drew.trans k3)
        clear h3 k3
        refine hK.out _ _ ?_ (fun hHeld => ?_)
        · exact fun h => absurd h (by decide)
        clear hK K hHeld
        (try simp only [Act.put, List.setIfInBounds_toArray, List.set_cons_zero, List.set_cons_succ])
        refine wpSchL_nil ?_
        go_wp2
        rw [rounds_succ]
        go_wp2
        (try rw [Exit.noGoto_normal])
        (try rw [Exit.noGoto_ret])
        go_ret
        refine ⟨ret_i HB1.out, ?_, K3.out⟩
        rw [HU.out]
        exact H3.out
      · have hbg : begC x l = false := by simp [begC, hp0, hp1, overC, ho]
        have hoD : decide (l.r < satSub l.n x.s) = false := by simp [ho]
        have HU : Hid (updC x l = x) := Lib.hid (by simp [updC, hbg])
        have HB1 : Hid (0 = if begC x l = true then (1 : Int) else 0) := Lib.hid (by simp [hbg])
        clear hbg
        generalize (if begC x l = true then (1 : Int) else 0) = N at *
        clear hp0 hp1
        have CS := Lib.hid (fun w => (sub_any l.n x.s hn.1 hn.2 h.fit.s.1 h.fit.s.2 w).mono (R' := fun e w' => e = .returned (.int .u64 (satSub l.n x.s)) ∧ w' = w) fun _ _ h => ⟨h.1, h.2.symm⟩)
        have HNN := Lib.hid hn
        have b0 : w.cell? ⟨b, 0, none⟩ = some (.int .u64 l.n) := hb.cell0
        have b1 : w.cell? ⟨b, 1, none⟩ = some (.int .u64 l.r) := hb.cell 1
        have b2 : w.cell? ⟨b, 2, none⟩ = some (.int .u64 l.l) := hb.cell 2
        have b3 : w.cell? ⟨b, 3, none⟩ = some (.int .u64 l.f) := hb.cell 3
        have b4 : w.cell? ⟨b, 4, none⟩ = some (.int .u64 l.u) := hb.cell 4
        have b5 : w.cell? ⟨b, 5, none⟩ = some (.int .u64 l.o) := hb.cell 5
        have HN := Lib.hid (Whole.new w 128 l.c)
        have HG1 := Lib.hid (h.alloc (.cells l.c 128))
        have HK := Lib.hid ((Keep.refl (fun k => k = g) w).alloc (.cells l.c 128))
        have hgn := Nat.ne_of_lt h.lt
        clear h hb hn
        generalize satSub l.n x.s = Z at *
        go_enter Tryz.func92, Tryz.ntmps92
        go_wp2
        go_step3
        go_wp2
        go_step3
        go_wp2
        refine wp_loop_rounds 2 ?_
        rw [rounds_succ]
        go_wp2
        generalize hw1 : w.alloc _ = w1 at *
        generalize w.heap.size = B at *
        have d0 : w1.cell? ⟨B, 0, none⟩ = some (.int .u64 l.n) := HN.out.cell0
        have d1 : w1.cell? ⟨B, 1, none⟩ = some (.int .u64 l.r) := HN.out.cell 1
        have e1 : w1.cell? ⟨g, oo + 1, none⟩ = some (.int .u64 x.s) := HG1.out.whole.cell 1
        clear hw1 b0 b1 b2 b3 b4 b5
        go_quiet ((go_at_call 55; exact Calls.quiet_of_same (CS.out _)))
        have HG2 := Lib.hid (HG1.out.drewN nq)
        have HN2 := Lib.hid (HN.out.drewN nq)
        have HK2 := Lib.hid (HK.out.drewN nq)
        clear d0 d1 e1 HN HG1 HK CS
        generalize w1.drewN nq = w2 at *
        have d2 : w2.cell? ⟨B, 2, none⟩ = some (.int .u64 l.l) := HN2.out.cell 2
        have d3 : w2.cell? ⟨B, 3, none⟩ = some (.int .u64 l.f) := HN2.out.cell 3
        have d4 : w2.cell? ⟨B, 4, none⟩ = some (.int .u64 l.u) := HN2.out.cell 4
        have d5 : w2.cell? ⟨B, 5, none⟩ = some (.int .u64 l.o) := HN2.out.cell 5
        have e0 : w2.cell? ⟨g, oo, none⟩ = some (.int .i64 x.p) := HG2.out.whole.cell0
        go_wp2
        (try rw [Exit.noGoto_normal])
        (try rw [Exit.noGoto_ret])
        go_ret
        refine ⟨ret_i HB1.out, ?_, HK2.out⟩
        rw [HU.out]
        exact HG2.out

set_option maxHeartbeats 1000000 in
theorem cyupd_any (g : Nat) (x : Cst) (l : CLok) (w : World) (h : CycAt Fm oo w g x) (hn : Num l.n) :
    Calls Tryz.prog 57 #[.pointer (some ⟨g, oo, none⟩), .int .u64 l.n, .int .u64 l.r, .int .u64 l.l, .int .u64 l.f, .int .u64 l.u, .int .u64 l.o] w fun e w' => e = .returned (.bool (begC x l)) ∧ CycAt Fm oo w' g (updC x l) ∧ Keep (fun k => k = g) w w' := by
  have HN := Lib.hid hn
  have HG1 := Lib.hid (h.alloc (.cells l.c 128))
  have HB := Lib.hid (Whole.new w 128 l.c)
  have HK := Lib.hid ((Keep.refl (fun k => k = g) w).alloc (.cells l.c 128))
  clear h hn
  go_enter Tryz.func57, Tryz.ntmps57
  go_wp2_with fail
  refine (cywalk_any _ _ _ l _ HG1.out HB.out HN.out).mono ?_
  rintro e w' ⟨rfl, h', k'⟩
  have H' := Lib.hid h'; have K' := Lib.hid (HK.out.trans k')
  clear h' k' HG1 HB HK HN
  cases hb : begC x l
  · have HB := Lib.hid hb
    clear hb
    rw [if_neg (by simp)]
    go_wp2
    go_ret
    exact ⟨ret_b HB.out.symm, H'.out, K'.out⟩
  · have HB := Lib.hid hb
    clear hb
    rw [if_pos rfl]
    go_wp2
    go_ret
    exact ⟨ret_b HB.out.symm, H'.out, K'.out⟩
end Go.Proofs.YtcjgpkjhfbamfaaGreat
