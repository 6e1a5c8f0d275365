/-
  Package winmax's Update and Reset answer what the document says, and leave what it says. Conditions: the window lies in memory as New makes it, or is nil; the numbers are of their kind.
  Samples (api.Sample), as numbers. No program is spoken of. Conditions: none.
  The calls of package rounds (New, Update, Count) answer what the document says. Conditions: the Rounds lie in memory as New makes them, or are nil; fewer than 2^64-1 rounds have begun.
  The calls of package sat (Add, Sub, Mul, Int) answer what the document says, at every pair of numbers of 64 bits. Conditions: none beyond that the arguments are numbers of their kind.
-/
import Derived.Test.YtcjgpkjhfbamfaaGreatJ01
import Derived.Test.YtcjgpkjhfbamfaaGreatJ04
import Derived.Test.YtcjgpkjhfbamfaaGreatChecked
import Derived.WalkSpells
import Derived.WalkLawsBesides
import Derived.LoopTactic
import Derived.LoopN
import Derived.Deep.QuietTactic
import Derived.Deep.DeepCutAuto
import Derived.Deep.Draws
import Derived.BigQuiet
import Derived.Laws.ResultCell
import Derived.WalkKit
import Derived.Lib.Mul64
import Derived.Laws.Bits64b
import Derived.Laws.Externs
import Derived.Lib.Hide
namespace Go.Proofs.YtcjgpkjhfbamfaaGreat
open Go.RowKit
set_option maxRecDepth 100000
variable {Fm : Fr} {oo : Nat}

theorem xupd_nil (t v : Int) (w : World) : Calls Tryz.prog 56 #[.pointer none, .int .u64 t, .int .u64 v] w fun e w' => e = .returned (.int .u64 0) ∧ w = w' := by
  go_enter Tryz.func56, Tryz.ntmps56
  go_wp2
  go_ret
  exact ⟨rfl, rfl⟩
theorem MaxAt.last {w : World} {g : Nat} {win t : Int} {x : Tri} (h : MaxAt Fm oo w g win x) (ht : x.l ≤ t) (ht1 : t ≤ 18446744073709551615) : MaxAt Fm oo (w.setCell ⟨g, oo + 1, none⟩ (.int .u64 t)) g win (lastT x t) :=
  ⟨h.whole.put 1 _, h.fit.last ht ht1, h.win⟩
set_option maxHeartbeats 1000000 in
theorem xupd_any (g : Nat) (win t v : Int) (x : Tri) (w : World) (h : MaxAt Fm oo w g win x) (ht : Num t) (hv : Num v) :
    Calls Tryz.prog 56 #[.pointer (some ⟨g, oo, none⟩), .int .u64 t, .int .u64 v] w fun e w' => e = .returned (.int .u64 (updT false win x t v).v0) ∧ MaxAt Fm oo w' g win (updT false win x t v) ∧ Keep (fun k => k = g) w w' := by
  have H := Lib.hid h
  have HV := Lib.hid hv
  obtain ⟨L, hL⟩ : ∃ L, L = x.l := ⟨_, rfl⟩
  obtain ⟨T, hT⟩ : ∃ T, T = topT t L := ⟨_, rfl⟩
  obtain ⟨t0, h0⟩ : ∃ t0, t0 = t := ⟨_, rfl⟩
  have c1 : w.cell? ⟨g, oo + 1, none⟩ = some (.int .u64 L) := hL ▸ h.whole.cell 1
  have HU : Hid (updT false win x t0 v = ageT win (rankT false win (lastT x T) T v) T v) := Lib.hid (by subst h0; subst hT; subst hL; rfl)
  have hT1 : x.l ≤ T := by subst hT; subst hL; exact topT_ge.2
  have hT2 : T ≤ 18446744073709551615 := by subst hT; subst hL; exact topT_num ht.2 h.fit.l1
  rw [show updT false win x t v = updT false win x t0 v from h0 ▸ rfl]
  clear h hv ht hL h0
  by_cases hc : L ≤ t
  · obtain rfl : T = t := hT.trans (if_pos hc)
    clear hT
    have hlt := H.out.lt
    have f1 := H.out.whole.free 1
    have B0 := Lib.hid (Whole.new (w.setCell ⟨g, oo + 1, none⟩ (.int .u64 T)) 39 #[.int .u64 T, .int .u64 v])
    have H0 := Lib.hid ((H.out.last hT1 hT2).alloc (.cells #[.int .u64 T, .int .u64 v] 39))
    have K0 := Lib.hid (((Keep.refl (fun k => k = g) w).setCell (p := ⟨g, oo + 1, none⟩) (.inl rfl) (.int .u64 T)).alloc (.cells #[.int .u64 T, .int .u64 v] 39))
    have hs : (w.setCell ⟨g, oo + 1, none⟩ (.int .u64 T)).heap.size = w.heap.size := by simp [World.setCell]
    rw [hs] at B0
    clear hs
    go_enter Tryz.func56, Tryz.ntmps56
    go_wp2_with fail
    refine (rank_any g win v _ _ H0.out HV.out).mono ?_
    rintro e w1 ⟨⟨_, rfl⟩, h1, k1⟩
    have HN := Lib.hid (H.out.lt)
    have H1 : Hid (MaxAt Fm oo w1 g win (rankT false win (lastT x T) T v)) := Lib.hid h1
    have B1 := Lib.hid (B0.out.keep k1 (by omega)); have K1 := Lib.hid (K0.out.trans k1); clear h1 k1 K0 B0 H0
    have b0 : w1.cell? ⟨w.heap.size, 0, none⟩ = some (.int .u64 T) := B1.out.cell0
    have b1 : w1.cell? ⟨w.heap.size, 1, none⟩ = some (.int .u64 v) := B1.out.cell 1
    have HA : Hid (Calls Tryz.prog 91 #[.pointer (some ⟨g, oo, none⟩), .agg #[.int .u64 T, .int .u64 v]] w1 fun e w' => (∃ v, e = .returned v) ∧ MaxAt Fm oo w' g win (updT false win x t0 v) ∧ Keep (fun k => k = g) w1 w') := Lib.hid (by
      have := age_any g win v _ _ H1.out HV.out
      rw [rankT_l] at this
      rw [HU.out]
      exact this)
    go_wp2_with fail
    refine HA.out.mono ?_
    rintro e w2 ⟨⟨_, rfl⟩, h2, k2⟩
    have H2 := Lib.hid h2; have K2 := Lib.hid (K1.out.trans k2); clear h2 k2 HA
    go_wp2_with (go_at_call 34; refine (xbest_any g win _ _ H2.out).mono ?_; rintro e w3 ⟨rfl, rfl⟩)
    go_ret
    exact ⟨rfl, H2.out, K2.out⟩
  · obtain rfl : T = L := hT.trans (if_neg hc)
    have hc : t < T := by omega
    clear hT
    have hlt := H.out.lt
    have f1 := H.out.whole.free 1
    have B0 := Lib.hid (Whole.new (w.setCell ⟨g, oo + 1, none⟩ (.int .u64 T)) 39 #[.int .u64 T, .int .u64 v])
    have H0 := Lib.hid ((H.out.last hT1 hT2).alloc (.cells #[.int .u64 T, .int .u64 v] 39))
    have K0 := Lib.hid (((Keep.refl (fun k => k = g) w).setCell (p := ⟨g, oo + 1, none⟩) (.inl rfl) (.int .u64 T)).alloc (.cells #[.int .u64 T, .int .u64 v] 39))
    have hs : (w.setCell ⟨g, oo + 1, none⟩ (.int .u64 T)).heap.size = w.heap.size := by simp [World.setCell]
    rw [hs] at B0
    clear hs
    go_enter Tryz.func56, Tryz.ntmps56
    go_wp2_with fail
    refine (rank_any g win v _ _ H0.out HV.out).mono ?_
    rintro e w1 ⟨⟨_, rfl⟩, h1, k1⟩
    have HN := Lib.hid (H.out.lt)
    have H1 : Hid (MaxAt Fm oo w1 g win (rankT false win (lastT x T) T v)) := Lib.hid h1
    have B1 := Lib.hid (B0.out.keep k1 (by omega)); have K1 := Lib.hid (K0.out.trans k1); clear h1 k1 K0 B0 H0
    have b0 : w1.cell? ⟨w.heap.size, 0, none⟩ = some (.int .u64 T) := B1.out.cell0
    have b1 : w1.cell? ⟨w.heap.size, 1, none⟩ = some (.int .u64 v) := B1.out.cell 1
    have HA : Hid (Calls Tryz.prog 91 #[.pointer (some ⟨g, oo, none⟩), .agg #[.int .u64 T, .int .u64 v]] w1 fun e w' => (∃ v, e = .returned v) ∧ MaxAt Fm oo w' g win (updT false win x t0 v) ∧ Keep (fun k => k = g) w1 w') := Lib.hid (by
      have := age_any g win v _ _ H1.out HV.out
      rw [rankT_l] at this
      rw [HU.out]
      exact this)
    go_wp2_with fail
    refine HA.out.mono ?_
    rintro e w2 ⟨⟨_, rfl⟩, h2, k2⟩
    have H2 := Lib.hid h2; have K2 := Lib.hid (K1.out.trans k2); clear h2 k2 HA
    go_wp2_with (go_at_call 34; refine (xbest_any g win _ _ H2.out).mono ?_; rintro e w3 ⟨rfl, rfl⟩)
    go_ret
    exact ⟨rfl, H2.out, K2.out⟩

end Go.Proofs.YtcjgpkjhfbamfaaGreat
namespace Go.Proofs.YtcjgpkjhfbamfaaGreat
open Go.RowKit
set_option maxRecDepth 100000

/-- A sample: now, delivered, prior, interval, round trip, acknowledged, lost, under way; limited. -/
structure Spl where
  n : Int
  d : Int
  p : Int
  i : Int
  r : Int
  a : Int
  o : Int
  f : Int
  l : Bool
abbrev Spl.c (x : Spl) : Array Value := #[.int .u64 x.n, .int .u64 x.d, .int .u64 x.p, .int .u64 x.i, .int .u64 x.r, .int .u64 x.a, .int .u64 x.o, .int .u64 x.f, .bool x.l]
abbrev Spl.v (x : Spl) : Value := .agg #[.int .u64 x.n, .int .u64 x.d, .int .u64 x.p, .int .u64 x.i, .int .u64 x.r, .int .u64 x.a, .int .u64 x.o, .int .u64 x.f, .bool x.l]
structure Spl.Fit (x : Spl) : Prop where
  n : Num x.n
  d : Num x.d
  p : Num x.p
  i : Num x.i
  r : Num x.r
  a : Num x.a
  o : Num x.o
  f : Num x.f
end Go.Proofs.YtcjgpkjhfbamfaaGreat
namespace Go.Proofs.YtcjgpkjhfbamfaaGreat
open Go.RowKit
set_option maxRecDepth 100000
variable {Fm : Fr} {oo : Nat}

/-- Rounds: next; how many have begun. -/
structure Rst where
  n : Int
  c : Int
structure Rst.Fit (x : Rst) : Prop where
  n : Num x.n
  c : Num x.c
abbrev newR : Rst := ⟨0, 0⟩
theorem fit_newR : newR.Fit := ⟨⟨by decide, by decide⟩, ⟨by decide, by decide⟩⟩
/-- Does a round begin? -/
def begR (x : Rst) (s : Spl) : Bool := !(s.a == 0 || decide (s.p < x.n))
def updR (x : Rst) (s : Spl) : Rst := if begR x s = true then ⟨s.d, x.c + 1⟩ else x
theorem updR_c (x : Rst) (s : Spl) : (updR x s).c = x.c + (if begR x s = true then 1 else 0) := by
  unfold updR; split <;> simp
theorem Rst.Fit.upd {x : Rst} {s : Spl} (h : x.Fit) (hd : Num s.d) (hc : x.c < 18446744073709551615) : (updR x s).Fit := by
  unfold updR
  obtain ⟨h1, h2, h3⟩ := h
  split
  · exact ⟨hd, ⟨by show 0 ≤ x.c + 1; omega, by show x.c + 1 ≤ _; omega⟩⟩
  · exact ⟨h1, h2, h3⟩

abbrev rndC (x : Rst) : Array Value := #[.int .u64 x.n, .int .u64 x.c]
/-- Rounds of package rounds. -/
structure RndAt (Fm : Fr) (oo : Nat) (w : World) (g : Nat) (x : Rst) : Prop where
  whole : Part Fm oo w g (rndC x).toList
  fit : x.Fit
section
variable {w w' : World} {g : Nat} {x : Rst} {R : Nat → Prop}
theorem RndAt.keep (h : RndAt Fm oo w g x) (hk : Keep R w w') (hg : ¬ R g) : RndAt Fm oo w' g x := ⟨h.whole.keep hk hg, h.fit⟩
theorem RndAt.drewN (h : RndAt Fm oo w g x) (m : Nat) : RndAt Fm oo (w.drewN m) g x := ⟨h.whole.drewN m, h.fit⟩
theorem RndAt.drew (h : RndAt Fm oo w g x) : RndAt Fm oo w.drew g x := ⟨h.whole.drew, h.fit⟩
theorem RndAt.alloc (h : RndAt Fm oo w g x) (o : Obj) : RndAt Fm oo (w.alloc o) g x := ⟨h.whole.alloc o, h.fit⟩
theorem RndAt.lt (h : RndAt Fm oo w g x) : g < w.heap.size := h.whole.lt
end

set_option maxHeartbeats 400000 in
theorem ronew_any (w : World) : Calls Tryz.prog 13 #[] w fun e w' => e = .returned (.pointer (some ⟨w.heap.size, 0, none⟩)) ∧ RndAt ⟨46, [], []⟩ 0 w' w.heap.size newR ∧ Keep (fun _ => False) w w' := by
  go_enter Tryz.func13, Tryz.ntmps13
  go_wp2
  go_ret
  exact ⟨rfl, ⟨Part.of_whole (Whole.new _ _ _), fit_newR⟩, (Keep.refl _ _).alloc _⟩
theorem rcount_nil (w : World) : Calls Tryz.prog 25 #[.pointer none] w fun e w' => e = .returned (.int .u64 0) ∧ w = w' := by
  go_enter Tryz.func25, Tryz.ntmps25
  go_wp2
  go_ret
  exact ⟨rfl, rfl⟩
set_option maxHeartbeats 400000 in
theorem rcount_any (g : Nat) (x : Rst) (w : World) (h : RndAt Fm oo w g x) : Calls Tryz.prog 25 #[.pointer (some ⟨g, oo, none⟩)] w fun e w' => e = .returned (.int .u64 x.c) ∧ w = w' := by
  have c1 : w.cell? ⟨g, oo + 1, none⟩ = some (.int .u64 x.c) := h.whole.cell 1
  clear h
  go_enter Tryz.func25, Tryz.ntmps25
  go_wp2
  go_ret
  exact ⟨rfl, rfl⟩
theorem rupd_nil (s : Spl) (w : World) : Calls Tryz.prog 29 #[.pointer none, s.v] w fun e w' => e = .returned (.bool false) ∧ Keep (fun _ => False) w w' := by
  go_enter Tryz.func29, Tryz.ntmps29
  go_wp2
  go_ret
  exact ⟨rfl, (Keep.refl _ _).alloc _⟩

set_option maxHeartbeats 1000000 in
theorem rwalk_any (g b : Nat) (x : Rst) (s : Spl) (w : World) (h : RndAt Fm oo w g x) (hb : Whole w b 34 s.c) (hd : Num s.d) (hc : x.c < 18446744073709551615) :
    Calls Tryz.prog 52 #[.pointer (some ⟨g, oo, none⟩), .slice (some ⟨b, 0, none⟩) 1 1] w fun e w' => (∃ v, e = .returned v) ∧ RndAt Fm oo w' g (updR x s) ∧ Keep (fun k => k = g) w w' := by
  by_cases ha : s.a = 0
  · have hbeg : updR x s = x := by simp [updR, begR, ha]
    have HE := Lib.hid hbeg
    have ha' : (s.a == 0) = true := by simp [ha]
    clear ha hbeg
    have HG := Lib.hid h
    have hlt := h.lt
    have hblt := hb.lt
    have HB := Lib.hid hb
    have b0 : w.cell? ⟨b, 0, none⟩ = some (.int .u64 s.n) := hb.cell0
    have b1 : w.cell? ⟨b, 1, none⟩ = some (.int .u64 s.d) := hb.cell 1
    have b2 : w.cell? ⟨b, 2, none⟩ = some (.int .u64 s.p) := hb.cell 2
    have b3 : w.cell? ⟨b, 3, none⟩ = some (.int .u64 s.i) := hb.cell 3
    have b4 : w.cell? ⟨b, 4, none⟩ = some (.int .u64 s.r) := hb.cell 4
    have b5 : w.cell? ⟨b, 5, none⟩ = some (.int .u64 s.a) := hb.cell 5
    have b6 : w.cell? ⟨b, 6, none⟩ = some (.int .u64 s.o) := hb.cell 6
    have b7 : w.cell? ⟨b, 7, none⟩ = some (.int .u64 s.f) := hb.cell 7
    have b8 : w.cell? ⟨b, 8, none⟩ = some (.bool s.l) := hb.cell 8
    have HN := Lib.hid (Whole.new w 34 s.c)
    have HG1 := Lib.hid (h.alloc (.cells s.c 34))
    have HK := Lib.hid ((Keep.refl (fun k => k = g) w).alloc (.cells s.c 34))
    have hgn := Nat.ne_of_lt h.lt
    clear h hb
    go_enter Tryz.func52, Tryz.ntmps52
    go_wp2
    go_step3
    go_wp2
    go_step3
    go_wp2
    refine wp_loop_rounds 2 ?_
    rw [rounds_succ]
    go_wp2
    generalize hw1 : w.alloc _ = w1 at *
    generalize w.heap.size = B at *
    have d1 : w1.cell? ⟨B, 1, none⟩ = some (.int .u64 s.d) := HN.out.cell 1
    have d2 : w1.cell? ⟨B, 2, none⟩ = some (.int .u64 s.p) := HN.out.cell 2
    have d5 : w1.cell? ⟨B, 5, none⟩ = some (.int .u64 s.a) := HN.out.cell 5
    have e0 : w1.cell? ⟨g, oo, none⟩ = some (.int .u64 x.n) := HG1.out.whole.cell0
    have e1 : w1.cell? ⟨g, oo + 1, none⟩ = some (.int .u64 x.c) := HG1.out.whole.cell 1
    clear hw1 b0 b1 b2 b3 b4 b5 b6 b7 b8 HB HG
    go_quiet (fail)
    have HG2 := Lib.hid (HG1.out.drewN nq)
    have HK2 := Lib.hid (HK.out.drewN nq)
    clear d1 d2 d5 e0 e1 HN HG1 HK
    generalize w1.drewN nq = w2 at *
    go_wp2
    rw [rounds_succ]
    go_wp2
    rw [Exit.noGoto_normal]
    go_end0
    exact ⟨⟨_, rfl⟩, (by rw [HE.out]; exact HG2.out), HK2.out⟩
  · have ha' : (s.a == 0) = false := by simp [ha]
    by_cases hp : s.p < x.n
    · have hbeg : updR x s = x := by simp [updR, begR, hp]
      have HE := Lib.hid hbeg
      clear ha hbeg
      have HG := Lib.hid h
      have hlt := h.lt
      have hblt := hb.lt
      have HB := Lib.hid hb
      have b0 : w.cell? ⟨b, 0, none⟩ = some (.int .u64 s.n) := hb.cell0
      have b1 : w.cell? ⟨b, 1, none⟩ = some (.int .u64 s.d) := hb.cell 1
      have b2 : w.cell? ⟨b, 2, none⟩ = some (.int .u64 s.p) := hb.cell 2
      have b3 : w.cell? ⟨b, 3, none⟩ = some (.int .u64 s.i) := hb.cell 3
      have b4 : w.cell? ⟨b, 4, none⟩ = some (.int .u64 s.r) := hb.cell 4
      have b5 : w.cell? ⟨b, 5, none⟩ = some (.int .u64 s.a) := hb.cell 5
      have b6 : w.cell? ⟨b, 6, none⟩ = some (.int .u64 s.o) := hb.cell 6
      have b7 : w.cell? ⟨b, 7, none⟩ = some (.int .u64 s.f) := hb.cell 7
      have b8 : w.cell? ⟨b, 8, none⟩ = some (.bool s.l) := hb.cell 8
      have HN := Lib.hid (Whole.new w 34 s.c)
      have HG1 := Lib.hid (h.alloc (.cells s.c 34))
      have HK := Lib.hid ((Keep.refl (fun k => k = g) w).alloc (.cells s.c 34))
      have hgn := Nat.ne_of_lt h.lt
      clear h hb
      go_enter Tryz.func52, Tryz.ntmps52
      go_wp2
      go_step3
      go_wp2
      go_step3
      go_wp2
      refine wp_loop_rounds 2 ?_
      rw [rounds_succ]
      go_wp2
      generalize hw1 : w.alloc _ = w1 at *
      generalize w.heap.size = B at *
      have d1 : w1.cell? ⟨B, 1, none⟩ = some (.int .u64 s.d) := HN.out.cell 1
      have d2 : w1.cell? ⟨B, 2, none⟩ = some (.int .u64 s.p) := HN.out.cell 2
      have d5 : w1.cell? ⟨B, 5, none⟩ = some (.int .u64 s.a) := HN.out.cell 5
      have e0 : w1.cell? ⟨g, oo, none⟩ = some (.int .u64 x.n) := HG1.out.whole.cell0
      have e1 : w1.cell? ⟨g, oo + 1, none⟩ = some (.int .u64 x.c) := HG1.out.whole.cell 1
      clear hw1 b0 b1 b2 b3 b4 b5 b6 b7 b8 HB HG
      go_quiet (fail)
      have HG2 := Lib.hid (HG1.out.drewN nq)
      have HK2 := Lib.hid (HK.out.drewN nq)
      clear d1 d2 d5 e0 e1 HN HG1 HK
      generalize w1.drewN nq = w2 at *
      go_wp2
      rw [rounds_succ]
      go_wp2
      rw [Exit.noGoto_normal]
      go_end0
      exact ⟨⟨_, rfl⟩, (by rw [HE.out]; exact HG2.out), HK2.out⟩
    · have hbeg : updR x s = ⟨s.d, x.c + 1⟩ := by simp [updR, begR, hp, ha]
      have HE := Lib.hid hbeg
      clear ha hbeg
      have hwr : IntKind.u64.wrap (x.c + 1) = x.c + 1 := by have := h.fit.c.1; rw [IntKind.wrap_u64]; omega
      have HF := Lib.hid (h.fit.upd (s := s) hd hc)
      clear hc hd
      have HG := Lib.hid h
      have hlt := h.lt
      have hblt := hb.lt
      have HB := Lib.hid hb
      have b0 : w.cell? ⟨b, 0, none⟩ = some (.int .u64 s.n) := hb.cell0
      have b1 : w.cell? ⟨b, 1, none⟩ = some (.int .u64 s.d) := hb.cell 1
      have b2 : w.cell? ⟨b, 2, none⟩ = some (.int .u64 s.p) := hb.cell 2
      have b3 : w.cell? ⟨b, 3, none⟩ = some (.int .u64 s.i) := hb.cell 3
      have b4 : w.cell? ⟨b, 4, none⟩ = some (.int .u64 s.r) := hb.cell 4
      have b5 : w.cell? ⟨b, 5, none⟩ = some (.int .u64 s.a) := hb.cell 5
      have b6 : w.cell? ⟨b, 6, none⟩ = some (.int .u64 s.o) := hb.cell 6
      have b7 : w.cell? ⟨b, 7, none⟩ = some (.int .u64 s.f) := hb.cell 7
      have b8 : w.cell? ⟨b, 8, none⟩ = some (.bool s.l) := hb.cell 8
      have HN := Lib.hid (Whole.new w 34 s.c)
      have HG1 := Lib.hid (h.alloc (.cells s.c 34))
      have HK := Lib.hid ((Keep.refl (fun k => k = g) w).alloc (.cells s.c 34))
      have hgn := Nat.ne_of_lt h.lt
      clear h hb
      go_enter Tryz.func52, Tryz.ntmps52
      go_wp2
      go_step3
      go_wp2
      go_step3
      go_wp2
      refine wp_loop_rounds 2 ?_
      rw [rounds_succ]
      go_wp2
      generalize hw1 : w.alloc _ = w1 at *
      generalize w.heap.size = B at *
      have d1 : w1.cell? ⟨B, 1, none⟩ = some (.int .u64 s.d) := HN.out.cell 1
      have d2 : w1.cell? ⟨B, 2, none⟩ = some (.int .u64 s.p) := HN.out.cell 2
      have d5 : w1.cell? ⟨B, 5, none⟩ = some (.int .u64 s.a) := HN.out.cell 5
      have e0 : w1.cell? ⟨g, oo, none⟩ = some (.int .u64 x.n) := HG1.out.whole.cell0
      have e1 : w1.cell? ⟨g, oo + 1, none⟩ = some (.int .u64 x.c) := HG1.out.whole.cell 1
      clear hw1 b0 b1 b2 b3 b4 b5 b6 b7 b8 HB HG
      go_quiet (fail)
      have HG2 := Lib.hid (HG1.out.drewN nq)
      have HN2 := Lib.hid (HN.out.drewN nq)
      have HK2 := Lib.hid (HK.out.drewN nq)
      clear d1 d2 d5 e0 e1 HN HG1 HK
      generalize w1.drewN nq = w2 at *
      have d1 : w2.cell? ⟨B, 1, none⟩ = some (.int .u64 s.d) := HN2.out.cell 1
      have e0 : w2.cell? ⟨g, oo, none⟩ = some (.int .u64 x.n) := HG2.out.whole.cell0
      have f0 : w2.frozen? ⟨g, oo, none⟩ = false := HG2.out.whole.free0
      have HP0 := Lib.hid (HG2.out.whole.put0 (.int .u64 s.d))
      have e1 : (w2.setCell ⟨g, oo, none⟩ (.int .u64 s.d)).cell? ⟨g, oo + 1, none⟩ = some (.int .u64 x.c) := HP0.out.cell 1
      have f1 : (w2.setCell ⟨g, oo, none⟩ (.int .u64 s.d)).frozen? ⟨g, oo + 1, none⟩ = false := HP0.out.free 1
      have HP1 := Lib.hid (HP0.out.put 1 (.int .u64 (x.c + 1)))
      have HK3 := Lib.hid ((HK2.out.setCell (p := ⟨g, oo, none⟩) (.inl rfl) (.int .u64 s.d)).setCell (p := ⟨g, oo + 1, none⟩) (.inl rfl) (.int .u64 (x.c + 1)))
      go_wp2
      rw [rounds_succ]
      go_wp2
      rw [Exit.noGoto_normal]
      go_end0
      refine ⟨⟨_, rfl⟩, ⟨?_, HF.out⟩, HK3.out⟩
      rw [HE.out]
      exact HP1.out

set_option maxHeartbeats 1000000 in
theorem rupd_any (g : Nat) (x : Rst) (s : Spl) (w : World) (h : RndAt Fm oo w g x) (hd : Num s.d) (hc : x.c < 18446744073709551615) :
    Calls Tryz.prog 29 #[.pointer (some ⟨g, oo, none⟩), s.v] w fun e w' => e = .returned (.bool (begR x s)) ∧ RndAt Fm oo w' g (updR x s) ∧ Keep (fun k => k = g) w w' := by
  have hlt := h.lt
  have c1 : w.cell? ⟨g, oo + 1, none⟩ = some (.int .u64 x.c) := h.whole.cell 1
  have HD := Lib.hid hd; have HC := Lib.hid hc
  have HG := Lib.hid ((h.alloc (.cells s.c 34)).alloc (.cells s.c 34))
  have HB : Hid (Whole ((w.alloc (.cells s.c 34)).alloc (.cells s.c 34)) (w.heap.size + 1) 34 s.c) := Lib.hid (by
    have := Whole.new (w.alloc (.cells s.c 34)) 34 s.c
    rwa [show (w.alloc (.cells s.c 34)).heap.size = w.heap.size + 1 by simp] at this)
  have HK := Lib.hid (((Keep.refl (fun k => k = g) w).alloc (.cells s.c 34)).alloc (.cells s.c 34))
  have HX : Hid (∀ v, (updR x s).c = v → decide (x.c < v) = begR x s) := Lib.hid (fun v e => by
    rw [← e, updR_c]
    cases hb : begR x s
    · simp
    · simp; omega)
  clear h hd hc
  go_enter Tryz.func29, Tryz.ntmps29
  go_wp2_with fail
  refine (rwalk_any _ _ _ s _ HG.out HB.out HD.out HC.out).mono ?_
  rintro e w' ⟨⟨_, rfl⟩, h', k'⟩
  have H' := Lib.hid h'; have K' := Lib.hid (HK.out.trans k')
  have d1 : w'.cell? ⟨g, oo + 1, none⟩ = some (.int .u64 (updR x s).c) := h'.whole.cell 1
  have HY := Lib.hid (HX.out _ rfl)
  clear h' k' HG HB HK hlt c1 HX
  generalize (updR x s).c = v at *
  go_wp2
  go_ret
  exact ⟨ret_b HY.out, H'.out, K'.out⟩
end Go.Proofs.YtcjgpkjhfbamfaaGreat
namespace Go.Proofs.YtcjgpkjhfbamfaaGreat
open Go.RowKit
set_option maxRecDepth 100000

/-! ### The plain mathematics -/
def satAdd (a b : Int) : Int := if a + b ≤ 18446744073709551615 then a + b else 18446744073709551615
def satSub (a b : Int) : Int := if a < b then 0 else a - b
def satMul (a b : Int) : Int := if a * b ≤ 18446744073709551615 then a * b else 18446744073709551615
def satInt (v : Int) : Int := if 9223372036854775807 < v then 9223372036854775807 else v

theorem satAdd_le {a b : Int} (h : a + b ≤ 18446744073709551615) : satAdd a b = a + b := if_pos h
theorem satAdd_gt {a b : Int} (h : 18446744073709551615 < a + b) : satAdd a b = 18446744073709551615 := if_neg (by omega)
theorem satSub_lt {a b : Int} (h : a < b) : satSub a b = 0 := if_pos h
theorem satSub_ge {a b : Int} (h : b ≤ a) : satSub a b = a - b := if_neg (by omega)
theorem satMul_le {a b : Int} (h : a * b ≤ 18446744073709551615) : satMul a b = a * b := if_pos h
theorem satMul_gt {a b : Int} (h : 18446744073709551615 < a * b) : satMul a b = 18446744073709551615 := if_neg (by omega)
theorem satInt_gt {a : Int} (h : 9223372036854775807 < a) : satInt a = 9223372036854775807 := if_pos h
theorem satInt_le {a : Int} (h : a ≤ 9223372036854775807) : satInt a = a := if_neg (by omega)
theorem ret_int {k : IntKind} {a b : Int} (h : a = b) : Ending.returned (.int k a) = .returned (.int k b) := by rw [h]

/-! ### math/bits.Add64, as the walk spells it -/
theorem add64_0 (x y : Int) (hx : 0 ≤ x) (hy : 0 ≤ y) (w : World) : (callFunc 97 #[.int .u64 x, .int .u64 y, .int .u64 0]).run Tryz.prog w =
    .ok (.value (.tuple #[.int .u64 ((x + y) % 18446744073709551616), .int .u64 ((x + y) / 18446744073709551616)])) w := by
  rw [run_callFunc_extern Tryz.func97 (by kernel_rfl) (by kernel_rfl) (by kernel_rfl) (e := add64Entry) (by kernel_rfl), run_add64 x y 0 hx hy (by omega) (by omega)]
  simp only [Result.andThen, Int.add_zero]

set_option maxHeartbeats 400000 in
theorem add_any (a b : Int) (ha0 : 0 ≤ a) (ha : a ≤ 18446744073709551615) (hb0 : 0 ≤ b) (hb : b ≤ 18446744073709551615) (w : World) :
    Calls Tryz.prog 65 #[.int .u64 a, .int .u64 b] w fun e w' => e = .returned (.int .u64 (satAdd a b)) ∧ w = w' := by
  by_cases h : a + b ≤ 18446744073709551615
  · have Hf : Hid ((a + b) % 18446744073709551616 = satAdd a b) := Lib.hid (by rw [satAdd_le h]; omega)
    have hq : ((a + b) / 18446744073709551616 != 0) = false := by
      have : (a + b) / 18446744073709551616 = 0 := by omega
      rw [this]; rfl
    go_enter Tryz.func65, Tryz.ntmps65
    go_wp2_with (simp only [add64_0 a b ha0 hb0])
    go_ret
    exact ⟨ret_int Hf.out, rfl⟩
  · have h : 18446744073709551615 < a + b := by omega
    have Hf := Lib.hid (satAdd_gt h)
    have hq : ((a + b) / 18446744073709551616 != 0) = true := by
      have : (a + b) / 18446744073709551616 = 1 := by omega
      rw [this]; rfl
    go_enter Tryz.func65, Tryz.ntmps65
    go_wp2_with (simp only [add64_0 a b ha0 hb0])
    go_ret
    exact ⟨ret_int Hf.out.symm, rfl⟩

set_option maxHeartbeats 400000 in
theorem sub_any (a b : Int) (ha0 : 0 ≤ a) (ha : a ≤ 18446744073709551615) (hb0 : 0 ≤ b) (hb : b ≤ 18446744073709551615) (w : World) :
    Calls Tryz.prog 55 #[.int .u64 a, .int .u64 b] w fun e w' => e = .returned (.int .u64 (satSub a b)) ∧ w = w' := by
  by_cases h : a < b
  · have Hf := Lib.hid (satSub_lt h)
    go_enter Tryz.func55, Tryz.ntmps55
    go_wp2
    go_ret
    exact ⟨ret_int Hf.out.symm, rfl⟩
  · have h : b ≤ a := by omega
    have Hf := Lib.hid (satSub_ge h)
    go_enter Tryz.func55, Tryz.ntmps55
    go_wp2
    go_ret
    exact ⟨ret_int Hf.out.symm, rfl⟩


/-! ### math/bits.Mul64: the library's own Go text, by halves -/
theorem ret_two {k l : IntKind} {a b c d : Int} (h : a = b) (g : c = d) : Ending.returned (.tuple #[.int k a, .int l c]) = .returned (.tuple #[.int k b, .int l d]) := by rw [h, g]
theorem low32 (a : Nat) (ha : a < 18446744073709551616) : bits .and .u64 (a : Int) 4294967295 = ((a % 4294967296 : Nat) : Int) := by
  have h := bits_and_u64_nat a 4294967295 ha (by omega)
  rw [show a &&& 4294967295 = a % 4294967296 from Nat.and_two_pow_sub_one_eq_mod a 32] at h
  exact h
theorem wrap_in {a : Nat} (ha : a < 18446744073709551616) : IntKind.u64.wrap (a : Int) = (a : Int) := by rw [IntKind.wrap_u64]; omega

/-- What the Go text reckons as the upper half is the upper half. -/
theorem upper (x y : Nat) (hx : x < 18446744073709551616) (hy : y < 18446744073709551616) :
    IntKind.u64.wrap (IntKind.u64.wrap (IntKind.u64.wrap ((x : Int) / 4294967296 * ((y : Int) / 4294967296)) + IntKind.u64.wrap (IntKind.u64.wrap ((x : Int) / 4294967296 * bits .and .u64 (y : Int) 4294967295) + IntKind.u64.wrap (bits .and .u64 (x : Int) 4294967295 * bits .and .u64 (y : Int) 4294967295) / 4294967296) / 4294967296) +
      IntKind.u64.wrap (bits .and .u64 (IntKind.u64.wrap (IntKind.u64.wrap ((x : Int) / 4294967296 * bits .and .u64 (y : Int) 4294967295) + IntKind.u64.wrap (bits .and .u64 (x : Int) 4294967295 * bits .and .u64 (y : Int) 4294967295) / 4294967296)) 4294967295 + IntKind.u64.wrap (bits .and .u64 (x : Int) 4294967295 * ((y : Int) / 4294967296))) / 4294967296)
      = ((x * y / 18446744073709551616 : Nat) : Int) := by
  obtain ⟨g1, g2, g3, g4⟩ := Lib.mul64_hi x y hx hy
  have e1 := Lib.half_mul_le (a := x / 4294967296) (b := y / 4294967296) (by omega) (by omega)
  have e2 := Lib.half_mul_le (a := x / 4294967296) (b := y % 4294967296) (by omega) (by omega)
  have e3 := Lib.half_mul_le (a := x % 4294967296) (b := y / 4294967296) (by omega) (by omega)
  have cx : (x : Int) / 4294967296 = ((x / 4294967296 : Nat) : Int) := by omega
  have cy : (y : Int) / 4294967296 = ((y / 4294967296 : Nat) : Int) := by omega
  rw [low32 x hx, low32 y hy, cx, cy, ← g4]
  generalize x / 4294967296 = x1 at *
  generalize y / 4294967296 = y1 at *
  generalize x % 4294967296 = x0 at *
  generalize y % 4294967296 = y0 at *
  simp only [← Int.natCast_mul]
  generalize x1 * y1 = p at *
  generalize x1 * y0 = q at *
  generalize x0 * y1 = r at *
  generalize x0 * y0 = s at *
  rw [wrap_in (a := p) (by omega), wrap_in (a := q) (by omega), wrap_in (a := r) (by omega), wrap_in (a := s) (by omega)]
  rw [show (q : Int) + (s : Int) / 4294967296 = ((q + s / 4294967296 : Nat) : Int) from by omega]
  generalize q + s / 4294967296 = t at *
  rw [wrap_in (a := t) (by omega), low32 t (by omega)]
  simp only [IntKind.wrap_u64]
  omega

set_option maxHeartbeats 1000000 in
theorem mul64_nat (x y : Nat) (hx : x < 18446744073709551616) (hy : y < 18446744073709551616) (w : World) :
    Calls Tryz.prog 105 #[.int .u64 x, .int .u64 y] w fun e w' => e = .returned (.tuple #[.int .u64 ((x * y / 18446744073709551616 : Nat) : Int), .int .u64 ((x * y % 18446744073709551616 : Nat) : Int)]) ∧ w = w' := by
  have Hu := Lib.hid (upper x y hx hy)
  have Hl : Hid (IntKind.u64.wrap ((x : Int) * (y : Int)) = ((x * y % 18446744073709551616 : Nat) : Int)) := Lib.hid (by rw [IntKind.wrap_u64, ← Int.natCast_mul]; omega)
  go_enter Tryz.func105, Tryz.ntmps105
  go_wp2
  go_ret2
  exact ⟨ret_two Hu.out Hl.out, rfl⟩

theorem mul64_any (x y : Int) (hx0 : 0 ≤ x) (hx : x ≤ 18446744073709551615) (hy0 : 0 ≤ y) (hy : y ≤ 18446744073709551615) (w : World) :
    Calls Tryz.prog 105 #[.int .u64 x, .int .u64 y] w fun e w' => e = .returned (.tuple #[.int .u64 (x * y / 18446744073709551616), .int .u64 (x * y % 18446744073709551616)]) ∧ w = w' := by
  obtain ⟨x, rfl⟩ := Int.eq_ofNat_of_zero_le hx0
  obtain ⟨y, rfl⟩ := Int.eq_ofNat_of_zero_le hy0
  refine (mul64_nat x y (by omega) (by omega) w).mono ?_
  rintro e w' ⟨rfl, rfl⟩
  exact ⟨ret_two (by rw [← Int.natCast_mul]; omega) (by rw [← Int.natCast_mul]; omega), rfl⟩

set_option maxHeartbeats 400000 in
theorem mul_any (a b : Int) (ha0 : 0 ≤ a) (ha : a ≤ 18446744073709551615) (hb0 : 0 ≤ b) (hb : b ≤ 18446744073709551615) (w : World) :
    Calls Tryz.prog 96 #[.int .u64 a, .int .u64 b] w fun e w' => e = .returned (.int .u64 (satMul a b)) ∧ w = w' := by
  have hp : 0 ≤ a * b := Int.mul_nonneg ha0 hb0
  by_cases h : a * b ≤ 18446744073709551615
  · have Hf : Hid (a * b % 18446744073709551616 = satMul a b) := Lib.hid (by rw [satMul_le h]; omega)
    have hq : (a * b / 18446744073709551616 != 0) = false := by
      have : a * b / 18446744073709551616 = 0 := by omega
      rw [this]; rfl
    go_enter Tryz.func96, Tryz.ntmps96
    go_wp2_with (go_at_call 105; refine (mul64_any a b ha0 ha hb0 hb _).mono ?_; rintro e w' ⟨rfl, rfl⟩)
    go_ret
    exact ⟨ret_int Hf.out, rfl⟩
  · have h : 18446744073709551615 < a * b := by omega
    have Hf := Lib.hid (satMul_gt h)
    have hq : (a * b / 18446744073709551616 != 0) = true := by
      have : a * b / 18446744073709551616 ≠ 0 := by omega
      simpa using this
    go_enter Tryz.func96, Tryz.ntmps96
    go_wp2_with (go_at_call 105; refine (mul64_any a b ha0 ha hb0 hb _).mono ?_; rintro e w' ⟨rfl, rfl⟩)
    go_ret
    exact ⟨ret_int Hf.out.symm, rfl⟩

end Go.Proofs.YtcjgpkjhfbamfaaGreat
