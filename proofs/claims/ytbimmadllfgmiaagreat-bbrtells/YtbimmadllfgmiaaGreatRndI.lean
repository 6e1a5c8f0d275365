/-
  The calls of package rounds (New, Update, Count) answer what the document says. Conditions: the Rounds lie in memory as New makes them, or are nil; fewer than 2^64-1 rounds have begun.
-/
import Derived.Test.YtbimmadllfgmiaaGreatPart
import Derived.Test.YtbimmadllfgmiaaGreatSplSt
import Derived.Test.YtbimmadllfgmiaaGreatObj
import Derived.Test.YtbimmadllfgmiaaGreatChecked
import Derived.WalkSpells
import Derived.WalkLawsBesides
import Derived.LoopTactic
import Derived.LoopN
import Derived.Deep.QuietTactic
import Derived.Deep.DeepCutAuto
import Derived.Deep.Draws
import Derived.BigQuiet
import Derived.Laws.ResultCell
namespace Go.Proofs.YtbimmadllfgmiaaGreat
open Go.RowKit
set_option maxRecDepth 100000
variable {Fm : Fr} {oo : Nat}

/-- Rounds: next; how many have begun. -/
structure Rst where
  n : Int
  c : Int
structure Rst.Fit (x : Rst) : Prop where
  n : Num x.n
  c : Num x.c
abbrev newR : Rst := ⟨0, 0⟩
theorem fit_newR : newR.Fit := ⟨⟨by decide, by decide⟩, ⟨by decide, by decide⟩⟩
/-- Does a round begin? -/
def begR (x : Rst) (s : Spl) : Bool := !(s.a == 0 || decide (s.p < x.n))
def updR (x : Rst) (s : Spl) : Rst := if begR x s = true then ⟨s.d, x.c + 1⟩ else x
theorem updR_c (x : Rst) (s : Spl) : (updR x s).c = x.c + (if begR x s = true then 1 else 0) := by
  unfold updR; split <;> simp
theorem Rst.Fit.upd {x : Rst} {s : Spl} (h : x.Fit) (hd : Num s.d) (hc : x.c < 18446744073709551615) : (updR x s).Fit := by
  unfold updR
  obtain ⟨h1, h2, h3⟩ := h
  split
  · exact ⟨hd, ⟨by show 0 ≤ x.c + 1; omega, by show x.c + 1 ≤ _; omega⟩⟩
  · exact ⟨h1, h2, h3⟩

abbrev rndC (x : Rst) : Array Value := #[.int .u64 x.n, .int .u64 x.c]
/-- Rounds of package rounds. -/
structure RndAt (Fm : Fr) (oo : Nat) (w : World) (g : Nat) (x : Rst) : Prop where
  whole : Part Fm oo w g (rndC x).toList
  fit : x.Fit
section
variable {w w' : World} {g : Nat} {x : Rst} {R : Nat → Prop}
theorem RndAt.keep (h : RndAt Fm oo w g x) (hk : Keep R w w') (hg : ¬ R g) : RndAt Fm oo w' g x := ⟨h.whole.keep hk hg, h.fit⟩
theorem RndAt.drewN (h : RndAt Fm oo w g x) (m : Nat) : RndAt Fm oo (w.drewN m) g x := ⟨h.whole.drewN m, h.fit⟩
theorem RndAt.drew (h : RndAt Fm oo w g x) : RndAt Fm oo w.drew g x := ⟨h.whole.drew, h.fit⟩
theorem RndAt.alloc (h : RndAt Fm oo w g x) (o : Obj) : RndAt Fm oo (w.alloc o) g x := ⟨h.whole.alloc o, h.fit⟩
theorem RndAt.lt (h : RndAt Fm oo w g x) : g < w.heap.size := h.whole.lt
end

set_option maxHeartbeats 400000 in
theorem ronew_any (w : World) : Calls Tryz.prog 13 #[] w fun e w' => e = .returned (.pointer (some ⟨w.heap.size, 0, none⟩)) ∧ RndAt ⟨46, [], []⟩ 0 w' w.heap.size newR ∧ Keep (fun _ => False) w w' := by
  go_enter Tryz.func13, Tryz.ntmps13
  go_wp2
  go_ret
  exact ⟨rfl, ⟨Part.of_whole (Whole.new _ _ _), fit_newR⟩, (Keep.refl _ _).alloc _⟩
theorem rcount_nil (w : World) : Calls Tryz.prog 25 #[.pointer none] w fun e w' => e = .returned (.int .u64 0) ∧ w = w' := by
  go_enter Tryz.func25, Tryz.ntmps25
  go_wp2
  go_ret
  exact ⟨rfl, rfl⟩
set_option maxHeartbeats 400000 in
theorem rcount_any (g : Nat) (x : Rst) (w : World) (h : RndAt Fm oo w g x) : Calls Tryz.prog 25 #[.pointer (some ⟨g, oo, none⟩)] w fun e w' => e = .returned (.int .u64 x.c) ∧ w = w' := by
  have c1 : w.cell? ⟨g, oo + 1, none⟩ = some (.int .u64 x.c) := h.whole.cell 1
  clear h
  go_enter Tryz.func25, Tryz.ntmps25
  go_wp2
  go_ret
  exact ⟨rfl, rfl⟩
theorem rupd_nil (s : Spl) (w : World) : Calls Tryz.prog 29 #[.pointer none, s.v] w fun e w' => e = .returned (.bool false) ∧ Keep (fun _ => False) w w' := by
  go_enter Tryz.func29, Tryz.ntmps29
  go_wp2
  go_ret
  exact ⟨rfl, (Keep.refl _ _).alloc _⟩

set_option maxHeartbeats 1000000 in
theorem rwalk_any (g b : Nat) (x : Rst) (s : Spl) (w : World) (h : RndAt Fm oo w g x) (hb : Whole w b 34 s.c) (hd : Num s.d) (hc : x.c < 18446744073709551615) :
    Calls Tryz.prog 52 #[.pointer (some ⟨g, oo, none⟩), .slice (some ⟨b, 0, none⟩) 1 1] w fun e w' => (∃ v, e = .returned v) ∧ RndAt Fm oo w' g (updR x s) ∧ Keep (fun k => k = g) w w' := by
  by_cases ha : s.a = 0
  · have hbeg : updR x s = x := by simp [updR, begR, ha]
    have HE := Lib.hid hbeg
    have ha' : (s.a == 0) = true := by simp [ha]
    clear ha hbeg
    have HG := Lib.hid h
    have hlt := h.lt
    have hblt := hb.lt
    have HB := Lib.hid hb
    have b0 : w.cell? ⟨b, 0, none⟩ = some (.int .u64 s.n) := hb.cell0
    have b1 : w.cell? ⟨b, 1, none⟩ = some (.int .u64 s.d) := hb.cell 1
    have b2 : w.cell? ⟨b, 2, none⟩ = some (.int .u64 s.p) := hb.cell 2
    have b3 : w.cell? ⟨b, 3, none⟩ = some (.int .u64 s.i) := hb.cell 3
    have b4 : w.cell? ⟨b, 4, none⟩ = some (.int .u64 s.r) := hb.cell 4
    have b5 : w.cell? ⟨b, 5, none⟩ = some (.int .u64 s.a) := hb.cell 5
    have b6 : w.cell? ⟨b, 6, none⟩ = some (.int .u64 s.o) := hb.cell 6
    have b7 : w.cell? ⟨b, 7, none⟩ = some (.int .u64 s.f) := hb.cell 7
    have b8 : w.cell? ⟨b, 8, none⟩ = some (.bool s.l) := hb.cell 8
    have HN := Lib.hid (Whole.new w 34 s.c)
    have HG1 := Lib.hid (h.alloc (.cells s.c 34))
    have HK := Lib.hid ((Keep.refl (fun k => k = g) w).alloc (.cells s.c 34))
    have hgn := Nat.ne_of_lt h.lt
    clear h hb
    go_enter Tryz.func52, Tryz.ntmps52
    go_wp2
    go_step3
    go_wp2
    go_step3
    go_wp2
    refine wp_loop_rounds 2 ?_
    rw [rounds_succ]
    go_wp2
    generalize hw1 : w.alloc _ = w1 at *
    generalize w.heap.size = B at *
    have d1 : w1.cell? ⟨B, 1, none⟩ = some (.int .u64 s.d) := HN.out.cell 1
    have d2 : w1.cell? ⟨B, 2, none⟩ = some (.int .u64 s.p) := HN.out.cell 2
    have d5 : w1.cell? ⟨B, 5, none⟩ = some (.int .u64 s.a) := HN.out.cell 5
    have e0 : w1.cell? ⟨g, oo, none⟩ = some (.int .u64 x.n) := HG1.out.whole.cell0
    have e1 : w1.cell? ⟨g, oo + 1, none⟩ = some (.int .u64 x.c) := HG1.out.whole.cell 1
    clear hw1 b0 b1 b2 b3 b4 b5 b6 b7 b8 HB HG
    go_quiet (fail)
    have HG2 := Lib.hid (HG1.out.drewN nq)
    have HK2 := Lib.hid (HK.out.drewN nq)
    clear d1 d2 d5 e0 e1 HN HG1 HK
    generalize w1.drewN nq = w2 at *
    go_wp2
    rw [rounds_succ]
    go_wp2
    rw [Exit.noGoto_normal]
    go_end0
    exact ⟨⟨_, rfl⟩, (by rw [HE.out]; exact HG2.out), HK2.out⟩
  · have ha' : (s.a == 0) = false := by simp [ha]
    by_cases hp : s.p < x.n
    · have hbeg : updR x s = x := by simp [updR, begR, hp]
      have HE := Lib.hid hbeg
      clear ha hbeg
      have HG := Lib.hid h
      have hlt := h.lt
      have hblt := hb.lt
      have HB := Lib.hid hb
      have b0 : w.cell? ⟨b, 0, none⟩ = some (.int .u64 s.n) := hb.cell0
      have b1 : w.cell? ⟨b, 1, none⟩ = some (.int .u64 s.d) := hb.cell 1
      have b2 : w.cell? ⟨b, 2, none⟩ = some (.int .u64 s.p) := hb.cell 2
      have b3 : w.cell? ⟨b, 3, none⟩ = some (.int .u64 s.i) := hb.cell 3
      have b4 : w.cell? ⟨b, 4, none⟩ = some (.int .u64 s.r) := hb.cell 4
      have b5 : w.cell? ⟨b, 5, none⟩ = some (.int .u64 s.a) := hb.cell 5
      have b6 : w.cell? ⟨b, 6, none⟩ = some (.int .u64 s.o) := hb.cell 6
      have b7 : w.cell? ⟨b, 7, none⟩ = some (.int .u64 s.f) := hb.cell 7
      have b8 : w.cell? ⟨b, 8, none⟩ = some (.bool s.l) := hb.cell 8
      have HN := Lib.hid (Whole.new w 34 s.c)
      have HG1 := Lib.hid (h.alloc (.cells s.c 34))
      have HK := Lib.hid ((Keep.refl (fun k => k = g) w).alloc (.cells s.c 34))
      have hgn := Nat.ne_of_lt h.lt
      clear h hb
      go_enter Tryz.func52, Tryz.ntmps52
      go_wp2
      go_step3
      go_wp2
      go_step3
      go_wp2
      refine wp_loop_rounds 2 ?_
      rw [rounds_succ]
      go_wp2
      generalize hw1 : w.alloc _ = w1 at *
      generalize w.heap.size = B at *
      have d1 : w1.cell? ⟨B, 1, none⟩ = some (.int .u64 s.d) := HN.out.cell 1
      have d2 : w1.cell? ⟨B, 2, none⟩ = some (.int .u64 s.p) := HN.out.cell 2
      have d5 : w1.cell? ⟨B, 5, none⟩ = some (.int .u64 s.a) := HN.out.cell 5
      have e0 : w1.cell? ⟨g, oo, none⟩ = some (.int .u64 x.n) := HG1.out.whole.cell0
      have e1 : w1.cell? ⟨g, oo + 1, none⟩ = some (.int .u64 x.c) := HG1.out.whole.cell 1
      clear hw1 b0 b1 b2 b3 b4 b5 b6 b7 b8 HB HG
      go_quiet (fail)
      have HG2 := Lib.hid (HG1.out.drewN nq)
      have HK2 := Lib.hid (HK.out.drewN nq)
      clear d1 d2 d5 e0 e1 HN HG1 HK
      generalize w1.drewN nq = w2 at *
      go_wp2
      rw [rounds_succ]
      go_wp2
      rw [Exit.noGoto_normal]
      go_end0
      exact ⟨⟨_, rfl⟩, (by rw [HE.out]; exact HG2.out), HK2.out⟩
    · have hbeg : updR x s = ⟨s.d, x.c + 1⟩ := by simp [updR, begR, hp, ha]
      have HE := Lib.hid hbeg
      clear ha hbeg
      have hwr : IntKind.u64.wrap (x.c + 1) = x.c + 1 := by have := h.fit.c.1; rw [IntKind.wrap_u64]; omega
      have HF := Lib.hid (h.fit.upd (s := s) hd hc)
      clear hc hd
      have HG := Lib.hid h
      have hlt := h.lt
      have hblt := hb.lt
      have HB := Lib.hid hb
      have b0 : w.cell? ⟨b, 0, none⟩ = some (.int .u64 s.n) := hb.cell0
      have b1 : w.cell? ⟨b, 1, none⟩ = some (.int .u64 s.d) := hb.cell 1
      have b2 : w.cell? ⟨b, 2, none⟩ = some (.int .u64 s.p) := hb.cell 2
      have b3 : w.cell? ⟨b, 3, none⟩ = some (.int .u64 s.i) := hb.cell 3
      have b4 : w.cell? ⟨b, 4, none⟩ = some (.int .u64 s.r) := hb.cell 4
      have b5 : w.cell? ⟨b, 5, none⟩ = some (.int .u64 s.a) := hb.cell 5
      have b6 : w.cell? ⟨b, 6, none⟩ = some (.int .u64 s.o) := hb.cell 6
      have b7 : w.cell? ⟨b, 7, none⟩ = some (.int .u64 s.f) := hb.cell 7
      have b8 : w.cell? ⟨b, 8, none⟩ = some (.bool s.l) := hb.cell 8
      have HN := Lib.hid (Whole.new w 34 s.c)
      have HG1 := Lib.hid (h.alloc (.cells s.c 34))
      have HK := Lib.hid ((Keep.refl (fun k => k = g) w).alloc (.cells s.c 34))
      have hgn := Nat.ne_of_lt h.lt
      clear h hb
      go_enter Tryz.func52, Tryz.ntmps52
      go_wp2
      go_step3
      go_wp2
      go_step3
      go_wp2
      refine wp_loop_rounds 2 ?_
      rw [rounds_succ]
      go_wp2
      generalize hw1 : w.alloc _ = w1 at *
      generalize w.heap.size = B at *
      have d1 : w1.cell? ⟨B, 1, none⟩ = some (.int .u64 s.d) := HN.out.cell 1
      have d2 : w1.cell? ⟨B, 2, none⟩ = some (.int .u64 s.p) := HN.out.cell 2
      have d5 : w1.cell? ⟨B, 5, none⟩ = some (.int .u64 s.a) := HN.out.cell 5
      have e0 : w1.cell? ⟨g, oo, none⟩ = some (.int .u64 x.n) := HG1.out.whole.cell0
      have e1 : w1.cell? ⟨g, oo + 1, none⟩ = some (.int .u64 x.c) := HG1.out.whole.cell 1
      clear hw1 b0 b1 b2 b3 b4 b5 b6 b7 b8 HB HG
      go_quiet (fail)
      have HG2 := Lib.hid (HG1.out.drewN nq)
      have HN2 := Lib.hid (HN.out.drewN nq)
      have HK2 := Lib.hid (HK.out.drewN nq)
      clear d1 d2 d5 e0 e1 HN HG1 HK
      generalize w1.drewN nq = w2 at *
      have d1 : w2.cell? ⟨B, 1, none⟩ = some (.int .u64 s.d) := HN2.out.cell 1
      have e0 : w2.cell? ⟨g, oo, none⟩ = some (.int .u64 x.n) := HG2.out.whole.cell0
      have f0 : w2.frozen? ⟨g, oo, none⟩ = false := HG2.out.whole.free0
      have HP0 := Lib.hid (HG2.out.whole.put0 (.int .u64 s.d))
      have e1 : (w2.setCell ⟨g, oo, none⟩ (.int .u64 s.d)).cell? ⟨g, oo + 1, none⟩ = some (.int .u64 x.c) := HP0.out.cell 1
      have f1 : (w2.setCell ⟨g, oo, none⟩ (.int .u64 s.d)).frozen? ⟨g, oo + 1, none⟩ = false := HP0.out.free 1
      have HP1 := Lib.hid (HP0.out.put 1 (.int .u64 (x.c + 1)))
      have HK3 := Lib.hid ((HK2.out.setCell (p := ⟨g, oo, none⟩) (.inl rfl) (.int .u64 s.d)).setCell (p := ⟨g, oo + 1, none⟩) (.inl rfl) (.int .u64 (x.c + 1)))
      go_wp2
      rw [rounds_succ]
      go_wp2
      rw [Exit.noGoto_normal]
      go_end0
      refine ⟨⟨_, rfl⟩, ⟨?_, HF.out⟩, HK3.out⟩
      rw [HE.out]
      exact HP1.out

set_option maxHeartbeats 1000000 in
theorem rupd_any (g : Nat) (x : Rst) (s : Spl) (w : World) (h : RndAt Fm oo w g x) (hd : Num s.d) (hc : x.c < 18446744073709551615) :
    Calls Tryz.prog 29 #[.pointer (some ⟨g, oo, none⟩), s.v] w fun e w' => e = .returned (.bool (begR x s)) ∧ RndAt Fm oo w' g (updR x s) ∧ Keep (fun k => k = g) w w' := by
  have hlt := h.lt
  have c1 : w.cell? ⟨g, oo + 1, none⟩ = some (.int .u64 x.c) := h.whole.cell 1
  have HD := Lib.hid hd; have HC := Lib.hid hc
  have HG := Lib.hid ((h.alloc (.cells s.c 34)).alloc (.cells s.c 34))
  have HB : Hid (Whole ((w.alloc (.cells s.c 34)).alloc (.cells s.c 34)) (w.heap.size + 1) 34 s.c) := Lib.hid (by
    have := Whole.new (w.alloc (.cells s.c 34)) 34 s.c
    rwa [show (w.alloc (.cells s.c 34)).heap.size = w.heap.size + 1 by simp] at this)
  have HK := Lib.hid (((Keep.refl (fun k => k = g) w).alloc (.cells s.c 34)).alloc (.cells s.c 34))
  have HX : Hid (∀ v, (updR x s).c = v → decide (x.c < v) = begR x s) := Lib.hid (fun v e => by
    rw [← e, updR_c]
    cases hb : begR x s
    · simp
    · simp; omega)
  clear h hd hc
  go_enter Tryz.func29, Tryz.ntmps29
  go_wp2_with fail
  refine (rwalk_any _ _ _ s _ HG.out HB.out HD.out HC.out).mono ?_
  rintro e w' ⟨⟨_, rfl⟩, h', k'⟩
  have H' := Lib.hid h'; have K' := Lib.hid (HK.out.trans k')
  have d1 : w'.cell? ⟨g, oo + 1, none⟩ = some (.int .u64 (updR x s).c) := h'.whole.cell 1
  have HY := Lib.hid (HX.out _ rfl)
  clear h' k' HG HB HK hlt c1 HX
  generalize (updR x s).c = v at *
  go_wp2
  go_ret
  exact ⟨ret_b HY.out, H'.out, K'.out⟩
end Go.Proofs.YtbimmadllfgmiaaGreat
