/-
  The calls of package policer (New, Update, Use) answer what the document says. Conditions: the Policer lies in memory as New makes it, or is nil; the sample's numbers are of 64 bits.
-/
import Derived.Test.YtcjgpkjhfbamfaaGreatJ01
import Derived.Test.YtcjgpkjhfbamfaaGreatJ10
import Derived.Test.YtcjgpkjhfbamfaaGreatJ05
import Derived.Test.YtcjgpkjhfbamfaaGreatJ02
import Derived.Test.YtcjgpkjhfbamfaaGreatChecked
import Derived.WalkSpells
import Derived.WalkLawsBesides
import Derived.LoopTactic
import Derived.LoopN
import Derived.Deep.QuietTactic
import Derived.Deep.DeepCutAuto
import Derived.Deep.Draws
import Derived.BigQuiet
import Derived.BigRegion
import Derived.Laws.ResultCell
set_option linter.unusedVariables false
set_option linter.unusedSimpArgs false
namespace Go.Proofs.YtcjgpkjhfbamfaaGreat
open Go.RowKit
set_option maxRecDepth 100000
variable {Fm : Fr} {oo : Nat}

abbrev polC (x : Pol) : Array Value := #[.bool x.u, .bool x.m, .int .u64 x.n, .int .u64 x.d, .int .u64 x.l, .int .u64 x.b, .int .u64 x.r, .int .u64 x.o]
/-- The cells of a Policer of package policer. -/
def PolW (Fm : Fr) (oo : Nat) (w : World) (g : Nat) (x : Pol) : Prop := Part Fm oo w g (polC x).toList
structure PolAt (Fm : Fr) (oo : Nat) (w : World) (g : Nat) (x : Pol) : Prop where
  whole : PolW Fm oo w g x
  fit : x.Fit
section
variable {w w' : World} {g : Nat} {x : Pol} {R : Nat → Prop}
theorem PolAt.keep (h : PolAt Fm oo w g x) (hk : Keep R w w') (hg : ¬ R g) : PolAt Fm oo w' g x := ⟨Part.keep h.whole hk hg, h.fit⟩
theorem PolAt.lt (h : PolAt Fm oo w g x) : g < w.heap.size := Part.lt h.whole
end
theorem ret_ib {a b : Int} {c d : Bool} (h : a = b) (k : c = d) : Ending.returned (.tuple #[.int .u64 a, .bool c]) = .returned (.tuple #[.int .u64 b, .bool d]) := by rw [h, k]

set_option maxHeartbeats 400000 in
theorem polnew_any (w : World) : Calls Tryz.prog 17 #[] w fun e w' => e = .returned (.pointer (some ⟨w.heap.size, 0, none⟩)) ∧ PolAt ⟨64, [], []⟩ 0 w' w.heap.size newPol ∧ Keep (fun _ => False) w w' := by
  go_enter Tryz.func17, Tryz.ntmps17
  go_wp2
  go_ret
  exact ⟨rfl, ⟨Part.of_whole (Whole.new _ _ _), fit_newPol⟩, (Keep.refl _ _).alloc _⟩
def useV (x : Pol) : Int := if x.u = true then x.b else 0
theorem poluse_nil (w : World) : Calls Tryz.prog 50 #[.pointer none] w fun e w' => e = .returned (.tuple #[.int .u64 0, .bool false]) ∧ w = w' := by
  go_enter Tryz.func50, Tryz.ntmps50
  go_wp2
  go_ret2
  exact ⟨rfl, rfl⟩
set_option maxHeartbeats 400000 in
theorem poluse_any (g : Nat) (x : Pol) (w : World) (h : PolAt Fm oo w g x) : Calls Tryz.prog 50 #[.pointer (some ⟨g, oo, none⟩)] w fun e w' => e = .returned (.tuple #[.int .u64 (useV x), .bool x.u]) ∧ w = w' := by
  have c0 : w.cell? ⟨g, oo, none⟩ = some (.bool x.u) := Part.cell0 h.whole
  have c5 : w.cell? ⟨g, oo + 5, none⟩ = some (.int .u64 x.b) := Part.cell h.whole 5
  clear h
  obtain ⟨u, m, n, d, l, b, r, o⟩ := x
  cases u
  · go_enter Tryz.func50, Tryz.ntmps50
    go_wp2
    go_ret2
    exact ⟨rfl, rfl⟩
  · go_enter Tryz.func50, Tryz.ntmps50
    go_wp2
    go_ret2
    exact ⟨rfl, rfl⟩
theorem polupd_nil (st : Bool) (s : Spl) (w : World) : Calls Tryz.prog 30 #[.pointer none, .bool st, s.v] w fun e w' => (∃ v, e = .returned v) ∧ Keep (fun _ => False) w w' := by
  go_enter Tryz.func30, Tryz.ntmps30
  go_wp2
  go_end0
  exact ⟨⟨_, rfl⟩, (Keep.refl _ _).alloc _⟩
set_option maxHeartbeats 400000 in
theorem polround_any (g : Nat) (x : Pol) (st : Bool) (w : World) (h : PolW Fm oo w g x) (h0 : 0 ≤ x.r) (h1 : x.r ≤ 1000) : Calls Tryz.prog 84 #[.pointer (some ⟨g, oo, none⟩), .bool st] w fun e w' => (∃ v, e = .returned v) ∧ PolW Fm oo w' g (rndPol x st) ∧ Keep (fun k => k = g) w w' := by
  have H := Lib.hid h
  have c6 : w.cell? ⟨g, oo + 6, none⟩ = some (.int .u64 x.r) := Part.cell h 6
  have f6 := Part.free h 6
  have HP := Lib.hid (Part.put h 6 (.int .u64 (x.r + 1)))
  have HK := Lib.hid ((Keep.refl (fun k => k = g) w).setCell (p := ⟨g, oo + 6, none⟩) (.inl rfl) (.int .u64 (x.r + 1)))
  have hw : IntKind.u64.wrap (x.r + 1) = x.r + 1 := by rw [IntKind.wrap_u64]; omega
  clear h h0 h1
  cases st
  · go_enter Tryz.func84, Tryz.ntmps84
    go_wp2
    go_end0
    exact ⟨⟨_, rfl⟩, H.out, Keep.refl _ _⟩
  · go_enter Tryz.func84, Tryz.ntmps84
    go_wp2
    go_end0
    exact ⟨⟨_, rfl⟩, HP.out, HK.out⟩
set_option maxHeartbeats 400000 in
theorem polforget_any (g : Nat) (x : Pol) (w : World) (h : PolW Fm oo w g x) : Calls Tryz.prog 85 #[.pointer (some ⟨g, oo, none⟩)] w fun e w' => (∃ v, e = .returned v) ∧ PolW Fm oo w' g (forPol x) ∧ Keep (fun k => k = g) w w' := by
  have c1 : w.cell? ⟨g, oo + 1, none⟩ = some (.bool x.m) := Part.cell h 1
  have f1 := Part.free h 1
  have HP1 := Lib.hid (Part.put h 1 (.bool false))
  have c5 : (w.setCell ⟨g, oo + 1, none⟩ (.bool false)).cell? ⟨g, oo + 5, none⟩ = some (.int .u64 x.b) := HP1.out.cell 5
  have f5 := HP1.out.free 5
  have HP2 := Lib.hid (HP1.out.put 5 (.int .u64 0))
  have c6 : ((w.setCell ⟨g, oo + 1, none⟩ (.bool false)).setCell ⟨g, oo + 5, none⟩ (.int .u64 0)).cell? ⟨g, oo + 6, none⟩ = some (.int .u64 x.r) := HP2.out.cell 6
  have f6 := HP2.out.free 6
  have HP3 := Lib.hid (HP2.out.put 6 (.int .u64 0))
  have HK := Lib.hid ((((Keep.refl (fun k => k = g) w).setCell (p := ⟨g, oo + 1, none⟩) (.inl rfl) (.bool false)).setCell (p := ⟨g, oo + 5, none⟩) (.inl rfl) (.int .u64 0)).setCell (p := ⟨g, oo + 6, none⟩) (.inl rfl) (.int .u64 0))
  clear h HP1 HP2
  go_enter Tryz.func85, Tryz.ntmps85
  go_wp2
  go_end0
  exact ⟨⟨_, rfl⟩, HP3.out, HK.out⟩
set_option maxHeartbeats 1000000 in
theorem polbegin_any (g : Nat) (x : Pol) (s : Spl) (w : World) (h : PolW Fm oo w g x) : Calls Tryz.prog 86 #[.pointer (some ⟨g, oo, none⟩), s.v] w fun e w' => (∃ v, e = .returned v) ∧ PolW Fm oo w' g (begPol x s) ∧ Keep (fun k => k = g) w w' := by
  have H1 := Lib.hid (Part.alloc h (.cells s.c 34))
  have HB := Lib.hid (Whole.new w 34 s.c)
  have HK := Lib.hid ((Keep.refl (fun k => k = g) w).alloc (.cells s.c 34))
  have HBG := Lib.hid (Nat.ne_of_gt (Part.lt h))
  clear h
  go_enter Tryz.func86, Tryz.ntmps86
  go_upto_region 1 with fail
  generalize hw1 : World.alloc w _ = w1 at *
  generalize w.heap.size = B at *
  clear hw1
  have d0 : w1.cell? ⟨B, 0, none⟩ = some (.int .u64 s.n) := HB.out.cell0
  have d1 : w1.cell? ⟨B, 1, none⟩ = some (.int .u64 s.d) := HB.out.cell 1
  have e7 : w1.cell? ⟨g, oo + 7, none⟩ = some (.int .u64 x.o) := H1.out.cell 7
  have e1 : w1.cell? ⟨g, oo + 1, none⟩ = some (.bool x.m) := H1.out.cell 1
  have f1 := H1.out.free 1
  have P1 := H1.out.put 1 (.bool true)
  have D1 := HB.out.far (p := ⟨g, oo + 1, none⟩) HBG.out (.bool true)
  have d0' : (w1.setCell ⟨g, oo + 1, none⟩ (.bool true)).cell? ⟨B, 0, none⟩ = some (.int .u64 s.n) := D1.cell0
  have d1' : (w1.setCell ⟨g, oo + 1, none⟩ (.bool true)).cell? ⟨B, 1, none⟩ = some (.int .u64 s.d) := D1.cell 1
  have e7' : (w1.setCell ⟨g, oo + 1, none⟩ (.bool true)).cell? ⟨g, oo + 7, none⟩ = some (.int .u64 x.o) := P1.cell 7
  have e2 : (w1.setCell ⟨g, oo + 1, none⟩ (.bool true)).cell? ⟨g, oo + 2, none⟩ = some (.int .u64 x.n) := P1.cell 2
  have f2 := P1.free 2
  have P2 := P1.put 2 (.int .u64 s.n)
  have e3 : ((w1.setCell ⟨g, oo + 1, none⟩ (.bool true)).setCell ⟨g, oo + 2, none⟩ (.int .u64 s.n)).cell? ⟨g, oo + 3, none⟩ = some (.int .u64 x.d) := P2.cell 3
  have f3 := P2.free 3
  have P3 := P2.put 3 (.int .u64 s.d)
  have e4 : (((w1.setCell ⟨g, oo + 1, none⟩ (.bool true)).setCell ⟨g, oo + 2, none⟩ (.int .u64 s.n)).setCell ⟨g, oo + 3, none⟩ (.int .u64 s.d)).cell? ⟨g, oo + 4, none⟩ = some (.int .u64 x.l) := P3.cell 4
  have f4 := P3.free 4
  have P4 := P3.put 4 (.int .u64 x.o)
  have e6 : ((((w1.setCell ⟨g, oo + 1, none⟩ (.bool true)).setCell ⟨g, oo + 2, none⟩ (.int .u64 s.n)).setCell ⟨g, oo + 3, none⟩ (.int .u64 s.d)).setCell ⟨g, oo + 4, none⟩ (.int .u64 x.o)).cell? ⟨g, oo + 6, none⟩ = some (.int .u64 x.r) := P4.cell 6
  have f6 := P4.free 6
  have HP := Lib.hid (P4.put 6 (.int .u64 0)).drew
  have HK2 := Lib.hid ((((((HK.out.setCell (p := ⟨g, oo + 1, none⟩) (.inl rfl) (.bool true)).setCell (p := ⟨g, oo + 2, none⟩) (.inl rfl) (.int .u64 s.n)).setCell (p := ⟨g, oo + 3, none⟩) (.inl rfl) (.int .u64 s.d)).setCell (p := ⟨g, oo + 4, none⟩) (.inl rfl) (.int .u64 x.o)).setCell (p := ⟨g, oo + 6, none⟩) (.inl rfl) (.int .u64 0)).drew)
  clear P1 P2 P3 P4 D1 H1 HB HK HBG
  go_region
  go_wp2
  go_end0
  exact ⟨⟨_, rfl⟩, HP.out, HK2.out⟩

set_option maxHeartbeats 2000000 in
theorem polmea_any (g : Nat) (x : Pol) (s : Spl) (w : World) (h : PolW Fm oo w g x) (hx : x.Nums) (hs : s.Fit) : Calls Tryz.prog 102 #[.pointer (some ⟨g, oo, none⟩), s.v] w fun e w' => e = .returned (.tuple #[.int .u64 (if meaK x s = true then meaV x s else 0), .bool (meaK x s)]) ∧ Keep (fun _ => False) w w' := by
  obtain ⟨D, hD⟩ : ∃ D, satSub s.d x.d = D := ⟨_, rfl⟩
  obtain ⟨L, hL⟩ : ∃ L, satSub x.o x.l = L := ⟨_, rfl⟩
  obtain ⟨T, hT⟩ : ∃ T, satSub s.n x.n = T := ⟨_, rfl⟩
  obtain ⟨M, hM⟩ : ∃ M, mulDivV D 50 256 = M := ⟨_, rfl⟩
  obtain ⟨V, hV⟩ : ∃ V, mulDivV D 1000000000 T = V := ⟨_, rfl⟩
  have hVV : meaV x s = V := by unfold meaV; rw [hD, hT, hV]
  have hKK : meaK x s = (!(D == 0) && !(T == 0) && !(decide (L < M))) := by unfold meaK; rw [hD, hT, hL, hM]
  rw [hVV, hKK]
  have HM := Lib.hid hM
  have HV := Lib.hid hV
  clear hM hV hVV hKK
  by_cases q0 : D = 0
  · have HR : Hid ((!(D == 0) && !(T == 0) && !(decide (L < M))) = false) := Lib.hid (by simp [q0])
    have q : (D == 0) = true := by simp [q0]
    clear q0
    rw [HR.out]
    have CD := Lib.hid (fun w => (sub_any s.d x.d hs.d.1 hs.d.2 hx.d.1 hx.d.2 w).mono (R' := fun e w' => e = .returned (.int .u64 D) ∧ w' = w) fun _ _ h => ⟨by rw [← hD]; exact h.1, h.2.symm⟩)
    have CL := Lib.hid (fun w => (sub_any x.o x.l hx.o.1 hx.o.2 hx.l.1 hx.l.2 w).mono (R' := fun e w' => e = .returned (.int .u64 L) ∧ w' = w) fun _ _ h => ⟨by rw [← hL]; exact h.1, h.2.symm⟩)
    have CT := Lib.hid (fun w => (sub_any s.n x.n hs.n.1 hs.n.2 hx.n.1 hx.n.2 w).mono (R' := fun e w' => e = .returned (.int .u64 T) ∧ w' = w) fun _ _ h => ⟨by rw [← hT]; exact h.1, h.2.symm⟩)
    have ND : Hid (Num D) := Lib.hid (hD ▸ numSub hs.d hx.d)
    have NT : Hid (Num T) := Lib.hid (hT ▸ numSub hs.n hx.n)
    have H1 := Lib.hid (Part.alloc h (.cells s.c 34))
    have HB := Lib.hid (Whole.new w 34 s.c)
    have HK := Lib.hid ((Keep.refl (fun _ => False) w).alloc (.cells s.c 34))
    clear h hs hx hD hL hT
    go_enter Tryz.func102, Tryz.ntmps102
    go_upto_region 1 with fail
    generalize hw1 : World.alloc w _ = w1 at *
    generalize w.heap.size = B at *
    clear hw1
    have d1 : w1.cell? ⟨B, 1, none⟩ = some (.int .u64 s.d) := HB.out.cell 1
    have e3 : w1.cell? ⟨g, oo + 3, none⟩ = some (.int .u64 x.d) := H1.out.cell 3
    go_quiet ((go_at_call 55; exact Calls.quiet_of_same (CD.out _)))
    have H2 := Lib.hid (H1.out.drewN nq)
    have HB2 := Lib.hid (HB.out.drewN nq)
    have HK2 := Lib.hid (HK.out.drewN nq)
    clear d1 e3 H1 HB HK CD
    generalize w1.drewN nq = w2 at *
    go_wp2
    have e7 : w2.cell? ⟨g, oo + 7, none⟩ = some (.int .u64 x.o) := H2.out.cell 7
    have e4 : w2.cell? ⟨g, oo + 4, none⟩ = some (.int .u64 x.l) := H2.out.cell 4
    go_quiet ((go_at_call 55; exact Calls.quiet_of_same (CL.out _)))
    have H3 := Lib.hid (H2.out.drewN nq)
    have HB3 := Lib.hid (HB2.out.drewN nq)
    have HK3 := Lib.hid (HK2.out.drewN nq)
    clear e7 e4 H2 HB2 HK2 CL
    generalize w2.drewN nq = w3 at *
    go_wp2
    have d0 : w3.cell? ⟨B, 0, none⟩ = some (.int .u64 s.n) := HB3.out.cell0
    have e2 : w3.cell? ⟨g, oo + 2, none⟩ = some (.int .u64 x.n) := H3.out.cell 2
    go_quiet ((go_at_call 55; exact Calls.quiet_of_same (CT.out _)))
    have HK4 := Lib.hid (HK3.out.drewN nq)
    clear d0 e2 H3 HB3 HK3 CT
    generalize w3.drewN nq = w4 at *
    go_wp2
    go_ret2
    exact ⟨rfl, HK4.out⟩
  · have q : (D == 0) = false := by simp [q0]
    by_cases q1 : T = 0
    · have HR : Hid ((!(D == 0) && !(T == 0) && !(decide (L < M))) = false) := Lib.hid (by simp [q1])
      have q' : (T == 0) = true := by simp [q1]
      clear q0 q1
      rw [HR.out]
      have CD := Lib.hid (fun w => (sub_any s.d x.d hs.d.1 hs.d.2 hx.d.1 hx.d.2 w).mono (R' := fun e w' => e = .returned (.int .u64 D) ∧ w' = w) fun _ _ h => ⟨by rw [← hD]; exact h.1, h.2.symm⟩)
      have CL := Lib.hid (fun w => (sub_any x.o x.l hx.o.1 hx.o.2 hx.l.1 hx.l.2 w).mono (R' := fun e w' => e = .returned (.int .u64 L) ∧ w' = w) fun _ _ h => ⟨by rw [← hL]; exact h.1, h.2.symm⟩)
      have CT := Lib.hid (fun w => (sub_any s.n x.n hs.n.1 hs.n.2 hx.n.1 hx.n.2 w).mono (R' := fun e w' => e = .returned (.int .u64 T) ∧ w' = w) fun _ _ h => ⟨by rw [← hT]; exact h.1, h.2.symm⟩)
      have ND : Hid (Num D) := Lib.hid (hD ▸ numSub hs.d hx.d)
      have NT : Hid (Num T) := Lib.hid (hT ▸ numSub hs.n hx.n)
      have H1 := Lib.hid (Part.alloc h (.cells s.c 34))
      have HB := Lib.hid (Whole.new w 34 s.c)
      have HK := Lib.hid ((Keep.refl (fun _ => False) w).alloc (.cells s.c 34))
      clear h hs hx hD hL hT
      go_enter Tryz.func102, Tryz.ntmps102
      go_upto_region 1 with fail
      generalize hw1 : World.alloc w _ = w1 at *
      generalize w.heap.size = B at *
      clear hw1
      have d1 : w1.cell? ⟨B, 1, none⟩ = some (.int .u64 s.d) := HB.out.cell 1
      have e3 : w1.cell? ⟨g, oo + 3, none⟩ = some (.int .u64 x.d) := H1.out.cell 3
      go_quiet ((go_at_call 55; exact Calls.quiet_of_same (CD.out _)))
      have H2 := Lib.hid (H1.out.drewN nq)
      have HB2 := Lib.hid (HB.out.drewN nq)
      have HK2 := Lib.hid (HK.out.drewN nq)
      clear d1 e3 H1 HB HK CD
      generalize w1.drewN nq = w2 at *
      go_wp2
      have e7 : w2.cell? ⟨g, oo + 7, none⟩ = some (.int .u64 x.o) := H2.out.cell 7
      have e4 : w2.cell? ⟨g, oo + 4, none⟩ = some (.int .u64 x.l) := H2.out.cell 4
      go_quiet ((go_at_call 55; exact Calls.quiet_of_same (CL.out _)))
      have H3 := Lib.hid (H2.out.drewN nq)
      have HB3 := Lib.hid (HB2.out.drewN nq)
      have HK3 := Lib.hid (HK2.out.drewN nq)
      clear e7 e4 H2 HB2 HK2 CL
      generalize w2.drewN nq = w3 at *
      go_wp2
      have d0 : w3.cell? ⟨B, 0, none⟩ = some (.int .u64 s.n) := HB3.out.cell0
      have e2 : w3.cell? ⟨g, oo + 2, none⟩ = some (.int .u64 x.n) := H3.out.cell 2
      go_quiet ((go_at_call 55; exact Calls.quiet_of_same (CT.out _)))
      have HK4 := Lib.hid (HK3.out.drewN nq)
      clear d0 e2 H3 HB3 HK3 CT
      generalize w3.drewN nq = w4 at *
      go_wp2
      go_ret2
      exact ⟨rfl, HK4.out⟩
    · have q' : (T == 0) = false := by simp [q1]
      by_cases q2 : L < M
      · have HR : Hid ((!(D == 0) && !(T == 0) && !(decide (L < M))) = false) := Lib.hid (by simp [q2])
        clear q0 q1
        rw [HR.out]
        have CD := Lib.hid (fun w => (sub_any s.d x.d hs.d.1 hs.d.2 hx.d.1 hx.d.2 w).mono (R' := fun e w' => e = .returned (.int .u64 D) ∧ w' = w) fun _ _ h => ⟨by rw [← hD]; exact h.1, h.2.symm⟩)
        have CL := Lib.hid (fun w => (sub_any x.o x.l hx.o.1 hx.o.2 hx.l.1 hx.l.2 w).mono (R' := fun e w' => e = .returned (.int .u64 L) ∧ w' = w) fun _ _ h => ⟨by rw [← hL]; exact h.1, h.2.symm⟩)
        have CT := Lib.hid (fun w => (sub_any s.n x.n hs.n.1 hs.n.2 hx.n.1 hx.n.2 w).mono (R' := fun e w' => e = .returned (.int .u64 T) ∧ w' = w) fun _ _ h => ⟨by rw [← hT]; exact h.1, h.2.symm⟩)
        have ND : Hid (Num D) := Lib.hid (hD ▸ numSub hs.d hx.d)
        have NT : Hid (Num T) := Lib.hid (hT ▸ numSub hs.n hx.n)
        have H1 := Lib.hid (Part.alloc h (.cells s.c 34))
        have HB := Lib.hid (Whole.new w 34 s.c)
        have HK := Lib.hid ((Keep.refl (fun _ => False) w).alloc (.cells s.c 34))
        clear h hs hx hD hL hT
        go_enter Tryz.func102, Tryz.ntmps102
        go_upto_region 1 with fail
        generalize hw1 : World.alloc w _ = w1 at *
        generalize w.heap.size = B at *
        clear hw1
        have d1 : w1.cell? ⟨B, 1, none⟩ = some (.int .u64 s.d) := HB.out.cell 1
        have e3 : w1.cell? ⟨g, oo + 3, none⟩ = some (.int .u64 x.d) := H1.out.cell 3
        go_quiet ((go_at_call 55; exact Calls.quiet_of_same (CD.out _)))
        have H2 := Lib.hid (H1.out.drewN nq)
        have HB2 := Lib.hid (HB.out.drewN nq)
        have HK2 := Lib.hid (HK.out.drewN nq)
        clear d1 e3 H1 HB HK CD
        generalize w1.drewN nq = w2 at *
        go_wp2
        have e7 : w2.cell? ⟨g, oo + 7, none⟩ = some (.int .u64 x.o) := H2.out.cell 7
        have e4 : w2.cell? ⟨g, oo + 4, none⟩ = some (.int .u64 x.l) := H2.out.cell 4
        go_quiet ((go_at_call 55; exact Calls.quiet_of_same (CL.out _)))
        have H3 := Lib.hid (H2.out.drewN nq)
        have HB3 := Lib.hid (HB2.out.drewN nq)
        have HK3 := Lib.hid (HK2.out.drewN nq)
        clear e7 e4 H2 HB2 HK2 CL
        generalize w2.drewN nq = w3 at *
        go_wp2
        have d0 : w3.cell? ⟨B, 0, none⟩ = some (.int .u64 s.n) := HB3.out.cell0
        have e2 : w3.cell? ⟨g, oo + 2, none⟩ = some (.int .u64 x.n) := H3.out.cell 2
        go_quiet ((go_at_call 55; exact Calls.quiet_of_same (CT.out _)))
        have HK4 := Lib.hid (HK3.out.drewN nq)
        clear d0 e2 H3 HB3 HK3 CT
        generalize w3.drewN nq = w4 at *
        go_wp2_with fail
        refine (wmuldiv_any _ _ _ ND.out.1 ND.out.2 (by decide) (by decide) (by decide) (by decide) _).mono ?_
        rintro e w' ⟨rfl, rfl⟩
        rw [HM.out]
        go_wp2
        go_ret2
        exact ⟨rfl, HK4.out⟩
      · have HR : Hid ((!(D == 0) && !(T == 0) && !(decide (L < M))) = true) := Lib.hid (by rw [q, q']; simp [q2])
        have q3 : decide (L < M) = false := by simp [q2]
        clear q0 q1
        rw [HR.out]
        have CD := Lib.hid (fun w => (sub_any s.d x.d hs.d.1 hs.d.2 hx.d.1 hx.d.2 w).mono (R' := fun e w' => e = .returned (.int .u64 D) ∧ w' = w) fun _ _ h => ⟨by rw [← hD]; exact h.1, h.2.symm⟩)
        have CL := Lib.hid (fun w => (sub_any x.o x.l hx.o.1 hx.o.2 hx.l.1 hx.l.2 w).mono (R' := fun e w' => e = .returned (.int .u64 L) ∧ w' = w) fun _ _ h => ⟨by rw [← hL]; exact h.1, h.2.symm⟩)
        have CT := Lib.hid (fun w => (sub_any s.n x.n hs.n.1 hs.n.2 hx.n.1 hx.n.2 w).mono (R' := fun e w' => e = .returned (.int .u64 T) ∧ w' = w) fun _ _ h => ⟨by rw [← hT]; exact h.1, h.2.symm⟩)
        have ND : Hid (Num D) := Lib.hid (hD ▸ numSub hs.d hx.d)
        have NT : Hid (Num T) := Lib.hid (hT ▸ numSub hs.n hx.n)
        have H1 := Lib.hid (Part.alloc h (.cells s.c 34))
        have HB := Lib.hid (Whole.new w 34 s.c)
        have HK := Lib.hid ((Keep.refl (fun _ => False) w).alloc (.cells s.c 34))
        clear h hs hx hD hL hT
        go_enter Tryz.func102, Tryz.ntmps102
        go_upto_region 1 with fail
        generalize hw1 : World.alloc w _ = w1 at *
        generalize w.heap.size = B at *
        clear hw1
        have d1 : w1.cell? ⟨B, 1, none⟩ = some (.int .u64 s.d) := HB.out.cell 1
        have e3 : w1.cell? ⟨g, oo + 3, none⟩ = some (.int .u64 x.d) := H1.out.cell 3
        go_quiet ((go_at_call 55; exact Calls.quiet_of_same (CD.out _)))
        have H2 := Lib.hid (H1.out.drewN nq)
        have HB2 := Lib.hid (HB.out.drewN nq)
        have HK2 := Lib.hid (HK.out.drewN nq)
        clear d1 e3 H1 HB HK CD
        generalize w1.drewN nq = w2 at *
        go_wp2
        have e7 : w2.cell? ⟨g, oo + 7, none⟩ = some (.int .u64 x.o) := H2.out.cell 7
        have e4 : w2.cell? ⟨g, oo + 4, none⟩ = some (.int .u64 x.l) := H2.out.cell 4
        go_quiet ((go_at_call 55; exact Calls.quiet_of_same (CL.out _)))
        have H3 := Lib.hid (H2.out.drewN nq)
        have HB3 := Lib.hid (HB2.out.drewN nq)
        have HK3 := Lib.hid (HK2.out.drewN nq)
        clear e7 e4 H2 HB2 HK2 CL
        generalize w2.drewN nq = w3 at *
        go_wp2
        have d0 : w3.cell? ⟨B, 0, none⟩ = some (.int .u64 s.n) := HB3.out.cell0
        have e2 : w3.cell? ⟨g, oo + 2, none⟩ = some (.int .u64 x.n) := H3.out.cell 2
        go_quiet ((go_at_call 55; exact Calls.quiet_of_same (CT.out _)))
        have HK4 := Lib.hid (HK3.out.drewN nq)
        clear d0 e2 H3 HB3 HK3 CT
        generalize w3.drewN nq = w4 at *
        go_wp2_with fail
        refine (wmuldiv_any _ _ _ ND.out.1 ND.out.2 (by decide) (by decide) (by decide) (by decide) _).mono ?_
        rintro e w' ⟨rfl, rfl⟩
        rw [HM.out]
        go_wp2_with fail
        refine (wmuldiv_any _ _ _ ND.out.1 ND.out.2 (by decide) (by decide) NT.out.1 NT.out.2 _).mono ?_
        rintro e w' ⟨rfl, rfl⟩
        rw [HV.out]
        go_wp2
        go_ret2
        exact ⟨rfl, HK4.out⟩

set_option maxHeartbeats 2000000 in
theorem polnear_any (g : Nat) (x : Pol) (v : Int) (w : World) (h : PolW Fm oo w g x) (hb : Num x.b) (hv : Num v) : Calls Tryz.prog 103 #[.pointer (some ⟨g, oo, none⟩), .int .u64 v] w fun e w' => e = .returned (.bool (nearPol x.b v)) ∧ Keep (fun _ => False) w w' := by
  have c5 : w.cell? ⟨g, oo + 5, none⟩ = some (.int .u64 x.b) := Part.cell h 5
  clear h
  generalize x.b = b at *
  obtain ⟨hb0, hb1⟩ := hb
  obtain ⟨hv0, hv1⟩ := hv
  have t8 : b.tdiv 8 = b / 8 := Int.tdiv_eq_ediv_of_nonneg hb0
  have w8 : IntKind.u64.wrap (b / 8) = b / 8 := by rw [IntKind.wrap_u64]; omega
  by_cases hp : 0 < b
  · rcases Int.lt_trichotomy v b with hl | hl | hl
    · have HE : Hid (decide (b - v ≤ b / 8) = nearPol b v) := Lib.hid (by simp [nearPol, gapPol, hp, hl])
      have hn : ¬ b < v := by omega
      have hwr : IntKind.u64.wrap (b - v) = b - v := by rw [IntKind.wrap_u64]; omega
      clear hb0 hb1 hv0 hv1
      go_enter Tryz.func103, Tryz.ntmps103
      go_upto_region 1 with fail
      refine wp_region_sch (fun W => W.cell? ⟨g, oo + 5, none⟩ = some (.int .u64 b)) [(true, 0), (true, 1), (true, 2), (true, 3), (true, 4), (true, 5), (true, 6), (true, 7), (true, 8), (true, 9), (true, 10), (true, 11), (true, 12), (true, 13), (true, 14), (true, 15), (true, 16), (true, 17), (true, 18), (true, 19), (true, 20), (true, 21), (true, 22), (true, 23), (true, 24), (true, 25), (true, 26)] (by kernel_rfl) (by kernel_rfl) (by kernel_rfl) (by kernel_rfl) c5 ?_
      (repeat (first | (refine wpSch_yes (v := ?_) rfl (fun _ _ _ h => h) (by rfl) ?_ ?_; rotate_left; (next => (intro w hSw; (try dsimp only at hSw); go_simp; (try with_reducible rfl))); (try simp only [Act.put, List.setIfInBounds_toArray, List.set_cons_zero, List.set_cons_succ])) | (refine wpSch_no rfl (fun _ _ _ h => h) (by rfl) ?_; (try simp only [Act.put, List.setIfInBounds_toArray, List.set_cons_zero, List.set_cons_succ]))))
      refine wpSch_nil ?_
      go_wp2
      go_ret
      exact ⟨ret_b HE.out, (Keep.refl _ _).drew⟩
    · have hl := hl.symm
      subst hl
      have HE : Hid (decide (IntKind.u64.wrap 0 ≤ b / 8) = nearPol b b) := Lib.hid (by
        have h8 : 0 ≤ b / 8 := by omega
        rw [show IntKind.u64.wrap 0 = 0 by decide]
        simp [nearPol, gapPol, hp, h8])
      have hn : ¬ b < b := by omega
      have h0 : (0 : Int) ≤ b / 8 := by omega
      clear hb0 hb1 hv0 hv1
      go_enter Tryz.func103, Tryz.ntmps103
      go_upto_region 1 with fail
      refine wp_region_sch (fun W => W.cell? ⟨g, oo + 5, none⟩ = some (.int .u64 b)) [(true, 0), (true, 1), (true, 2), (true, 3), (true, 4), (true, 5), (true, 6), (true, 7), (true, 8), (true, 9), (true, 10), (true, 11), (true, 12), (true, 13), (true, 14), (true, 15), (true, 16), (true, 17), (true, 18), (true, 19), (true, 20), (true, 21), (true, 22), (true, 23), (true, 24), (true, 25), (true, 26)] (by kernel_rfl) (by kernel_rfl) (by kernel_rfl) (by kernel_rfl) c5 ?_
      (repeat (first | (refine wpSch_yes (v := ?_) rfl (fun _ _ _ h => h) (by rfl) ?_ ?_; rotate_left; (next => (intro w hSw; (try dsimp only at hSw); go_simp; (try with_reducible rfl))); (try simp only [Act.put, List.setIfInBounds_toArray, List.set_cons_zero, List.set_cons_succ])) | (refine wpSch_no rfl (fun _ _ _ h => h) (by rfl) ?_; (try simp only [Act.put, List.setIfInBounds_toArray, List.set_cons_zero, List.set_cons_succ]))))
      refine wpSch_nil ?_
      go_wp2
      go_ret
      exact ⟨ret_b HE.out, (Keep.refl _ _).drew⟩
    · have hn : ¬ v < b := by omega
      have HE : Hid (decide (v - b ≤ b / 8) = nearPol b v) := Lib.hid (by simp [nearPol, gapPol, hp, hn])
      have hwr : IntKind.u64.wrap (v - b) = v - b := by rw [IntKind.wrap_u64]; omega
      clear hb0 hb1 hv0 hv1
      go_enter Tryz.func103, Tryz.ntmps103
      go_upto_region 1 with fail
      refine wp_region_sch (fun W => W.cell? ⟨g, oo + 5, none⟩ = some (.int .u64 b)) [(true, 0), (true, 1), (true, 2), (true, 3), (true, 4), (true, 5), (true, 6), (true, 7), (true, 8), (true, 9), (true, 10), (true, 11), (true, 12), (true, 13), (true, 14), (true, 15), (true, 16), (true, 17), (true, 18), (true, 19), (true, 20), (true, 21), (true, 22), (true, 23), (true, 24), (true, 25), (true, 26)] (by kernel_rfl) (by kernel_rfl) (by kernel_rfl) (by kernel_rfl) c5 ?_
      (repeat (first | (refine wpSch_yes (v := ?_) rfl (fun _ _ _ h => h) (by rfl) ?_ ?_; rotate_left; (next => (intro w hSw; (try dsimp only at hSw); go_simp; (try with_reducible rfl))); (try simp only [Act.put, List.setIfInBounds_toArray, List.set_cons_zero, List.set_cons_succ])) | (refine wpSch_no rfl (fun _ _ _ h => h) (by rfl) ?_; (try simp only [Act.put, List.setIfInBounds_toArray, List.set_cons_zero, List.set_cons_succ]))))
      refine wpSch_nil ?_
      go_wp2
      go_ret
      exact ⟨ret_b HE.out, (Keep.refl _ _).drew⟩
  · have HE : Hid (false = nearPol b v) := Lib.hid (by simp [nearPol, hp])
    have hq : decide (0 < b) = false := by simp [hp]
    clear hb0 hb1 hv0 hv1
    go_enter Tryz.func103, Tryz.ntmps103
    go_upto_region 1 with fail
    refine wp_region_sch (fun W => W.cell? ⟨g, oo + 5, none⟩ = some (.int .u64 b)) [(true, 0), (true, 1), (true, 2), (true, 3), (true, 4), (true, 5), (true, 6), (true, 7), (true, 8), (true, 9), (true, 10), (true, 11), (true, 12), (true, 13), (true, 14), (true, 15), (true, 16), (true, 17), (true, 18), (true, 19), (true, 20), (true, 21), (true, 22), (true, 23), (true, 24), (true, 25), (true, 26)] (by kernel_rfl) (by kernel_rfl) (by kernel_rfl) (by kernel_rfl) c5 ?_
    (repeat (first | (refine wpSch_yes (v := ?_) rfl (fun _ _ _ h => h) (by rfl) ?_ ?_; rotate_left; (next => (intro w hSw; (try dsimp only at hSw); go_simp; (try with_reducible rfl))); (try simp only [Act.put, List.setIfInBounds_toArray, List.set_cons_zero, List.set_cons_succ])) | (refine wpSch_no rfl (fun _ _ _ h => h) (by rfl) ?_; (try simp only [Act.put, List.setIfInBounds_toArray, List.set_cons_zero, List.set_cons_succ]))))
    refine wpSch_nil ?_
    go_wp2
    go_ret
    exact ⟨ret_b HE.out, (Keep.refl _ _).drew⟩
set_option maxHeartbeats 400000 in
theorem polhalf_any (a b : Int) (w : World) (ha : Num a) (hb : Num b) : Calls Tryz.prog 104 #[.int .u64 a, .int .u64 b] w fun e w' => e = .returned (.int .u64 (halfPol a b)) ∧ w = w' := by
  obtain ⟨ha0, ha1⟩ := ha
  obtain ⟨hb0, hb1⟩ := hb
  rcases Int.lt_trichotomy a b with hl | hl | hl
  · have hn : ¬ b < a := by omega
    have hwr : IntKind.u64.wrap (b - a) = b - a := by rw [IntKind.wrap_u64]; omega
    have ht : (b - a).tdiv 2 = (b - a) / 2 := Int.tdiv_eq_ediv_of_nonneg (by omega)
    have hw2 : IntKind.u64.wrap ((b - a) / 2) = (b - a) / 2 := by rw [IntKind.wrap_u64]; omega
    have hw3 : IntKind.u64.wrap (a + (b - a) / 2) = a + (b - a) / 2 := by rw [IntKind.wrap_u64]; omega
    have HE : Hid (a + (b - a) / 2 = halfPol a b) := Lib.hid (by unfold halfPol; omega)
    clear ha0 ha1 hb0 hb1
    go_enter Tryz.func104, Tryz.ntmps104
    go_wp2
    go_ret
    exact ⟨ret_i HE.out, rfl⟩
  · subst hl
    have hn : ¬ a < a := by omega
    have hw3 : IntKind.u64.wrap a = a := by rw [IntKind.wrap_u64]; omega
    have HE : Hid (a = halfPol a a) := Lib.hid (by unfold halfPol; omega)
    clear ha0 ha1 hb0 hb1
    go_enter Tryz.func104, Tryz.ntmps104
    go_wp2
    go_ret
    exact ⟨ret_i HE.out, rfl⟩
  · have hn : ¬ a < b := by omega
    have hwr : IntKind.u64.wrap (a - b) = a - b := by rw [IntKind.wrap_u64]; omega
    have ht : (a - b).tdiv 2 = (a - b) / 2 := Int.tdiv_eq_ediv_of_nonneg (by omega)
    have hw2 : IntKind.u64.wrap ((a - b) / 2) = (a - b) / 2 := by rw [IntKind.wrap_u64]; omega
    have hw3 : IntKind.u64.wrap (b + (a - b) / 2) = b + (a - b) / 2 := by rw [IntKind.wrap_u64]; omega
    have HE : Hid (b + (a - b) / 2 = halfPol a b) := Lib.hid (by unfold halfPol; omega)
    clear ha0 ha1 hb0 hb1
    go_enter Tryz.func104, Tryz.ntmps104
    go_wp2
    go_ret
    exact ⟨ret_i HE.out, rfl⟩
end Go.Proofs.YtcjgpkjhfbamfaaGreat
