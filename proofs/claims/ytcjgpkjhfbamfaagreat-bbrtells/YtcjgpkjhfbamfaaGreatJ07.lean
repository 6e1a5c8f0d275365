/-
  The calls of package pipe (New, Update, Full) answer what the document says. Conditions: the Pipe lies in memory as New makes it, or is nil; the bandwidth is a number of 64 bits.
-/
import Derived.Test.YtcjgpkjhfbamfaaGreatJ01
import Derived.Test.YtcjgpkjhfbamfaaGreatJ06
import Derived.Test.YtcjgpkjhfbamfaaGreatChecked
import Derived.WalkSpells
import Derived.WalkLawsBesides
import Derived.LoopTactic
import Derived.LoopN
import Derived.Deep.QuietTactic
import Derived.Deep.DeepCutAuto
import Derived.Deep.Draws
import Derived.BigQuiet
import Derived.Laws.ResultCell
set_option linter.unusedVariables false
namespace Go.Proofs.YtcjgpkjhfbamfaaGreat
open Go.RowKit
set_option maxRecDepth 100000
variable {Fm : Fr} {oo : Nat}

/-- A pipe: best; how many rounds came since without growth. -/
structure Pst where
  b : Int
  c : Int
structure Pst.Fit (x : Pst) : Prop where
  b : Num x.b
  c0 : 0 ≤ x.c
  c3 : x.c ≤ 3
abbrev newP : Pst := ⟨0, 0⟩
theorem fit_newP : newP.Fit := ⟨⟨by decide, by decide⟩, by decide, by decide⟩
def fullP (x : Pst) : Bool := decide (3 ≤ x.c)
/-- What growth is: best times FullGrowth, divided by Unit. -/
def edgeP (b : Int) : Int := mulDivV b 320 256
/-- A round that counts. -/
def stepP (x : Pst) (bw : Int) : Pst := if fullP x = true then x else if edgeP x.b ≤ bw then ⟨bw, 0⟩ else ⟨x.b, x.c + 1⟩
def updP (x : Pst) (st lim : Bool) (bw : Int) : Pst := if (st && !lim) = true then stepP x bw else x
theorem Pst.Fit.step {x : Pst} {bw : Int} (h : x.Fit) (hb : Num bw) : (stepP x bw).Fit := by
  unfold stepP
  obtain ⟨h1, h2, h3⟩ := h
  split
  · exact ⟨h1, h2, h3⟩
  · rename_i hf
    simp [fullP] at hf
    split
    · exact ⟨hb, Int.le_refl 0, show (0 : Int) ≤ 3 by decide⟩
    · exact ⟨h1, by show 0 ≤ x.c + 1; omega, by show x.c + 1 ≤ 3; omega⟩
theorem Pst.Fit.upd {x : Pst} {st lim : Bool} {bw : Int} (h : x.Fit) (hb : Num bw) : (updP x st lim bw).Fit := by
  unfold updP; split
  · exact h.step hb
  · exact h
theorem edgeP_num {b : Int} (h : 0 ≤ b) : Num (edgeP b) := mulDivV_bd h (by decide) (by decide)

abbrev pipC (x : Pst) : Array Value := #[.int .u64 x.b, .int .u64 x.c]
/-- A Pipe of package pipe. -/
structure PipAt (Fm : Fr) (oo : Nat) (w : World) (g : Nat) (x : Pst) : Prop where
  whole : Part Fm oo w g (pipC x).toList
  fit : x.Fit
section
variable {w w' : World} {g : Nat} {x : Pst} {R : Nat → Prop}
theorem PipAt.keep (h : PipAt Fm oo w g x) (hk : Keep R w w') (hg : ¬ R g) : PipAt Fm oo w' g x := ⟨h.whole.keep hk hg, h.fit⟩
theorem PipAt.drewN (h : PipAt Fm oo w g x) (m : Nat) : PipAt Fm oo (w.drewN m) g x := ⟨h.whole.drewN m, h.fit⟩
theorem PipAt.drew (h : PipAt Fm oo w g x) : PipAt Fm oo w.drew g x := ⟨h.whole.drew, h.fit⟩
theorem PipAt.alloc (h : PipAt Fm oo w g x) (o : Obj) : PipAt Fm oo (w.alloc o) g x := ⟨h.whole.alloc o, h.fit⟩
theorem PipAt.lt (h : PipAt Fm oo w g x) : g < w.heap.size := h.whole.lt
end

set_option maxHeartbeats 400000 in
theorem pinew_any (w : World) : Calls Tryz.prog 14 #[] w fun e w' => e = .returned (.pointer (some ⟨w.heap.size, 0, none⟩)) ∧ PipAt ⟨50, [], []⟩ 0 w' w.heap.size newP ∧ Keep (fun _ => False) w w' := by
  go_enter Tryz.func14, Tryz.ntmps14
  go_wp2
  go_ret
  exact ⟨rfl, ⟨Part.of_whole (Whole.new _ _ _), fit_newP⟩, (Keep.refl _ _).alloc _⟩
theorem pifull_nil (w : World) : Calls Tryz.prog 26 #[.pointer none] w fun e w' => e = .returned (.bool false) ∧ w = w' := by
  go_enter Tryz.func26, Tryz.ntmps26
  go_wp2
  go_ret
  exact ⟨rfl, rfl⟩
set_option maxHeartbeats 400000 in
theorem pifull_any (g : Nat) (x : Pst) (w : World) (h : PipAt Fm oo w g x) : Calls Tryz.prog 26 #[.pointer (some ⟨g, oo, none⟩)] w fun e w' => e = .returned (.bool (fullP x)) ∧ w = w' := by
  have c1 : w.cell? ⟨g, oo + 1, none⟩ = some (.int .u64 x.c) := h.whole.cell 1
  have HE : Hid (decide (3 ≤ x.c) = fullP x) := Lib.hid rfl
  clear h
  go_enter Tryz.func26, Tryz.ntmps26
  go_wp2
  go_ret
  exact ⟨ret_b HE.out, rfl⟩
theorem piupd_nil (st lim : Bool) (bw : Int) (w : World) : Calls Tryz.prog 33 #[.pointer none, .bool st, .bool lim, .int .u64 bw] w fun e w' => e = .returned (.bool false) ∧ w = w' := by
  go_enter Tryz.func33, Tryz.ntmps33
  go_wp2
  go_ret
  exact ⟨rfl, rfl⟩

set_option maxHeartbeats 1000000 in
theorem piwalk_any (g b : Nat) (x : Pst) (bw : Int) (w : World) (h : PipAt Fm oo w g x) (hb : Whole w b 22 #[.int .u64 bw]) (hn : Num bw) :
    Calls Tryz.prog 59 #[.pointer (some ⟨g, oo, none⟩), .slice (some ⟨b, 0, none⟩) 1 1] w fun e w' => (∃ v, e = .returned v) ∧ PipAt Fm oo w' g (stepP x bw) ∧ Keep (fun k => k = g) w w' := by
  have HF := Lib.hid (h.fit.step hn)
  by_cases hf : fullP x = true
  · have HE : Hid (stepP x bw = x) := Lib.hid (by simp [stepP, hf])
    have b0 : w.cell? ⟨b, 0, none⟩ = some (.int .u64 bw) := hb.cell0
    have e0 : w.cell? ⟨g, oo, none⟩ = some (.int .u64 x.b) := h.whole.cell0
    have e1 : w.cell? ⟨g, oo + 1, none⟩ = some (.int .u64 x.c) := h.whole.cell 1
    have f0 : w.frozen? ⟨g, oo, none⟩ = false := h.whole.free0
    have f1 : w.frozen? ⟨g, oo + 1, none⟩ = false := h.whole.free 1
    have HG := Lib.hid h
    have NB := Lib.hid h.fit.b
    clear h hb
    go_enter Tryz.func59, Tryz.ntmps59
    go_wp2
    go_step3
    go_wp2
    go_step3
    go_wp2
    refine wp_loop_rounds 2 ?_
    rw [rounds_succ]
    go_wp2_with fail
    refine (pifull_any _ _ _ HG.out).mono ?_
    rintro e w' ⟨rfl, rfl⟩
    rw [hf]
    clear hf
    go_wp2
    try rw [Exit.noGoto_normal]
    go_end0
    exact ⟨⟨_, rfl⟩, (by rw [HE.out]; exact HG.out), Keep.refl _ _⟩
  · have hf' : fullP x = false := by simpa using hf
    by_cases hg : edgeP x.b ≤ bw
    · have HE : Hid (stepP x bw = ⟨bw, 0⟩) := Lib.hid (by simp [stepP, hf', hg])
      have HP0 := Lib.hid (h.whole.put0 (.int .u64 bw))
      have g1 : (w.setCell ⟨g, oo, none⟩ (.int .u64 bw)).cell? ⟨g, oo + 1, none⟩ = some (.int .u64 x.c) := HP0.out.cell 1
      have k1 : (w.setCell ⟨g, oo, none⟩ (.int .u64 bw)).frozen? ⟨g, oo + 1, none⟩ = false := HP0.out.free 1
      have HP1 := Lib.hid (HP0.out.put 1 (.int .u64 0))
      have HK := Lib.hid (((Keep.refl (fun k => k = g) w).setCell (p := ⟨g, oo, none⟩) (.inl rfl) (.int .u64 bw)).setCell (p := ⟨g, oo + 1, none⟩) (.inl rfl) (.int .u64 0))
      have b0 : w.cell? ⟨b, 0, none⟩ = some (.int .u64 bw) := hb.cell0
      have e0 : w.cell? ⟨g, oo, none⟩ = some (.int .u64 x.b) := h.whole.cell0
      have e1 : w.cell? ⟨g, oo + 1, none⟩ = some (.int .u64 x.c) := h.whole.cell 1
      have f0 : w.frozen? ⟨g, oo, none⟩ = false := h.whole.free0
      have f1 : w.frozen? ⟨g, oo + 1, none⟩ = false := h.whole.free 1
      have HG := Lib.hid h
      have NB := Lib.hid h.fit.b
      clear h hb
      go_enter Tryz.func59, Tryz.ntmps59
      go_wp2
      go_step3
      go_wp2
      go_step3
      go_wp2
      refine wp_loop_rounds 2 ?_
      rw [rounds_succ]
      go_wp2_with fail
      refine (pifull_any _ _ _ HG.out).mono ?_
      rintro e w' ⟨rfl, rfl⟩
      rw [hf']
      clear hf hf'
      go_wp2_with fail
      refine (wmuldiv_any _ _ _ NB.out.1 NB.out.2 (by decide) (by decide) (by decide) (by decide) _).mono ?_
      rintro e w' ⟨rfl, rfl⟩
      rw [show mulDivV x.b 320 256 = edgeP x.b from rfl]
      go_wp2
      rw [rounds_succ]
      go_wp2
      try rw [Exit.noGoto_normal]
      go_end0
      refine ⟨⟨_, rfl⟩, ⟨?_, HF.out⟩, HK.out⟩
      rw [HE.out]
      exact HP1.out
    · have HE : Hid (stepP x bw = ⟨x.b, x.c + 1⟩) := Lib.hid (by simp [stepP, hf', hg])
      have hwr : IntKind.u64.wrap (x.c + 1) = x.c + 1 := by have := h.fit.c0; have := h.fit.c3; rw [IntKind.wrap_u64]; omega
      have HP0 := Lib.hid (h.whole.put 1 (.int .u64 (x.c + 1)))
      have HK := Lib.hid ((Keep.refl (fun k => k = g) w).setCell (p := ⟨g, oo + 1, none⟩) (.inl rfl) (.int .u64 (x.c + 1)))
      have b0 : w.cell? ⟨b, 0, none⟩ = some (.int .u64 bw) := hb.cell0
      have e0 : w.cell? ⟨g, oo, none⟩ = some (.int .u64 x.b) := h.whole.cell0
      have e1 : w.cell? ⟨g, oo + 1, none⟩ = some (.int .u64 x.c) := h.whole.cell 1
      have f0 : w.frozen? ⟨g, oo, none⟩ = false := h.whole.free0
      have f1 : w.frozen? ⟨g, oo + 1, none⟩ = false := h.whole.free 1
      have HG := Lib.hid h
      have NB := Lib.hid h.fit.b
      clear h hb
      go_enter Tryz.func59, Tryz.ntmps59
      go_wp2
      go_step3
      go_wp2
      go_step3
      go_wp2
      refine wp_loop_rounds 2 ?_
      rw [rounds_succ]
      go_wp2_with fail
      refine (pifull_any _ _ _ HG.out).mono ?_
      rintro e w' ⟨rfl, rfl⟩
      rw [hf']
      clear hf hf'
      go_wp2_with fail
      refine (wmuldiv_any _ _ _ NB.out.1 NB.out.2 (by decide) (by decide) (by decide) (by decide) _).mono ?_
      rintro e w' ⟨rfl, rfl⟩
      rw [show mulDivV x.b 320 256 = edgeP x.b from rfl]
      go_wp2
      rw [rounds_succ]
      go_wp2
      try rw [Exit.noGoto_normal]
      go_end0
      refine ⟨⟨_, rfl⟩, ⟨?_, HF.out⟩, HK.out⟩
      rw [HE.out]
      exact HP0.out

set_option maxHeartbeats 1000000 in
theorem piupd_any (g : Nat) (x : Pst) (st lim : Bool) (bw : Int) (w : World) (h : PipAt Fm oo w g x) (hn : Num bw) :
    Calls Tryz.prog 33 #[.pointer (some ⟨g, oo, none⟩), .bool st, .bool lim, .int .u64 bw] w fun e w' => e = .returned (.bool (fullP (updP x st lim bw))) ∧ PipAt Fm oo w' g (updP x st lim bw) ∧ Keep (fun k => k = g) w w' := by
  have HG := Lib.hid h
  have HN := Lib.hid hn
  by_cases hs : (st && !lim) = true
  · obtain ⟨rfl, rfl⟩ : st = true ∧ lim = false := by simpa using hs
    have HE : Hid (updP x true false bw = stepP x bw) := Lib.hid (by simp [updP])
    have HG1 := Lib.hid (h.alloc (.cells #[.int .u64 bw] 22))
    have HB := Lib.hid (Whole.new w 22 #[.int .u64 bw])
    have HK := Lib.hid ((Keep.refl (fun k => k = g) w).alloc (.cells #[.int .u64 bw] 22))
    clear h hn hs
    rw [HE.out]
    go_enter Tryz.func33, Tryz.ntmps33
    go_wp2_with fail
    refine (piwalk_any _ _ _ bw _ HG1.out HB.out HN.out).mono ?_
    rintro e w' ⟨⟨_, rfl⟩, h', k'⟩
    have H' := Lib.hid h'; have K' := Lib.hid (HK.out.trans k')
    clear h' k' HG HG1 HB HK HE
    go_wp2_with fail
    refine (pifull_any _ _ _ H'.out).mono ?_
    rintro e w'' ⟨rfl, rfl⟩
    go_wp2
    go_ret
    exact ⟨rfl, H'.out, K'.out⟩
  · have HE : Hid (updP x st lim bw = x) := Lib.hid (by simp only [updP, if_neg hs])
    rw [HE.out]
    cases st
    · clear h hn hs
      go_enter Tryz.func33, Tryz.ntmps33
      go_wp2_with fail
      refine (pifull_any _ _ _ HG.out).mono ?_
      rintro e w'' ⟨rfl, rfl⟩
      go_wp2
      go_ret
      exact ⟨rfl, HG.out, Keep.refl _ _⟩
    · obtain rfl : lim = true := by simpa using hs
      clear h hn hs
      go_enter Tryz.func33, Tryz.ntmps33
      go_wp2_with fail
      refine (pifull_any _ _ _ HG.out).mono ?_
      rintro e w'' ⟨rfl, rfl⟩
      go_wp2
      go_ret
      exact ⟨rfl, HG.out, Keep.refl _ _⟩
end Go.Proofs.YtcjgpkjhfbamfaaGreat
