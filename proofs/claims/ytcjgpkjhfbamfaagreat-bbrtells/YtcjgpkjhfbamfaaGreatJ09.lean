/-
  The calls of package probe (New, Update, Best, In) answer what the document says. Conditions: the Probe lies in memory as New makes it, or is nil; numbers are of 64 bits.
-/
import Derived.Test.YtcjgpkjhfbamfaaGreatJ01
import Derived.Test.YtcjgpkjhfbamfaaGreatJ05
import Derived.Test.YtcjgpkjhfbamfaaGreatChecked
import Derived.WalkSpells
import Derived.WalkLawsBesides
import Derived.LoopTactic
import Derived.LoopN
import Derived.Deep.QuietTactic
import Derived.Deep.DeepCutAuto
import Derived.Deep.Draws
import Derived.BigQuiet
import Derived.BigRegion
import Derived.Laws.ResultCell
set_option linter.unusedVariables false
set_option linter.unusedSimpArgs false
namespace Go.Proofs.YtcjgpkjhfbamfaaGreat
open Go.RowKit
set_option maxRecDepth 100000
variable {Fm : Fr} {oo : Nat}

/-- A probe: its best; the stamp; whether it probes; what it waits for (0: nothing yet); whether a round was seen. -/
structure Prb where
  b : Int
  s : Int
  i : Bool
  u : Int
  r : Bool
structure Prb.Fit (x : Prb) : Prop where
  b : Num x.b
  s : Num x.s
  u : Num x.u
theorem num0 : Num 0 := ⟨by decide, by decide⟩
abbrev newB : Prb := ⟨0, 0, false, 0, false⟩
theorem fit_newB : newB.Fit := ⟨⟨by decide, by decide⟩, ⟨by decide, by decide⟩, ⟨by decide, by decide⟩⟩
/-- What an Update is told: now, the round trip, whether a round begins, what is under way, the floor. -/
structure Lok where
  n : Int
  t : Int
  g : Bool
  f : Int
  o : Int
abbrev Lok.c (l : Lok) : Array Value := #[.int .u64 l.n, .int .u64 l.t, .bool l.g, .int .u64 l.f, .int .u64 l.o]
def expB (x : Prb) (n : Int) : Bool := decide (0 < x.b) && decide (satAdd x.s 10000000000 < n)
/-- Is the round trip taken? -/
def tookB (x : Prb) (t : Int) (e : Bool) : Bool := decide (0 < t) && (x.b == 0 || decide (t ≤ x.b) || e)
def takeB (x : Prb) (n t : Int) (e : Bool) : Prb := ⟨if tookB x t e = true then t else x.b, if tookB x t e = true then n else x.s, x.i, x.u, x.r⟩
def begB (x : Prb) (l : Lok) : Bool := !x.i && expB x l.n
def leaB (x : Prb) (l : Lok) : Bool := x.i && !(x.u == 0) && (x.r || l.g) && decide (x.u < l.n)
/-- What is behind an Update, out of what is behind the take. -/
def goB (x y : Prb) (l : Lok) : Prb :=
  if begB x l = true then ⟨y.b, y.s, true, 0, x.r⟩
  else if x.i = false then ⟨y.b, y.s, false, x.u, x.r⟩
  else if x.u = 0 then (if l.f ≤ l.o then ⟨y.b, y.s, true, satAdd l.n 200000000, false⟩ else ⟨y.b, y.s, true, x.u, x.r⟩)
  else if leaB x l = true then ⟨y.b, l.n, false, x.u, true⟩ else ⟨y.b, y.s, true, x.u, x.r || l.g⟩
def updB (x : Prb) (l : Lok) : Prb := goB x (takeB x l.n l.t (expB x l.n)) l
theorem num_satAdd {a b : Int} (ha : Num a) (hb : 0 ≤ b) : Num (satAdd a b) := by
  have h1 := ha.1
  unfold satAdd; split
  · exact ⟨by omega, by assumption⟩
  · exact ⟨by decide, by decide⟩
theorem Prb.Fit.take {x : Prb} {n t : Int} {e : Bool} (h : x.Fit) (hn : Num n) (ht : Num t) : (takeB x n t e).Fit := by
  refine ⟨?_, ?_, h.u⟩
  · show Num (if tookB x t e = true then t else x.b); split; exact ht; exact h.b
  · show Num (if tookB x t e = true then n else x.s); split; exact hn; exact h.s
theorem Prb.Fit.go {x y : Prb} {l : Lok} (h : x.Fit) (hy : y.Fit) (hn : Num l.n) : (goB x y l).Fit := by
  unfold goB; split
  · exact ⟨hy.b, hy.s, num0⟩
  · split
    · exact ⟨hy.b, hy.s, h.u⟩
    · split
      · split
        · exact ⟨hy.b, hy.s, num_satAdd hn (by decide)⟩
        · exact ⟨hy.b, hy.s, h.u⟩
      · split
        · exact ⟨hy.b, hn, h.u⟩
        · exact ⟨hy.b, hy.s, h.u⟩
theorem Prb.Fit.upd {x : Prb} {l : Lok} (h : x.Fit) (hn : Num l.n) (ht : Num l.t) : (updB x l).Fit := h.go (h.take hn ht) hn

abbrev prbC (x : Prb) : Array Value := #[.int .u64 x.b, .int .u64 x.s, .bool x.i, .int .u64 x.u, .bool x.r]
/-- A Probe of package probe. -/
structure PrbAt (Fm : Fr) (oo : Nat) (w : World) (g : Nat) (x : Prb) : Prop where
  whole : Part Fm oo w g (prbC x).toList
  fit : x.Fit
section
variable {w w' : World} {g : Nat} {x : Prb} {R : Nat → Prop}
theorem PrbAt.keep (h : PrbAt Fm oo w g x) (hk : Keep R w w') (hg : ¬ R g) : PrbAt Fm oo w' g x := ⟨h.whole.keep hk hg, h.fit⟩
theorem PrbAt.drewN (h : PrbAt Fm oo w g x) (m : Nat) : PrbAt Fm oo (w.drewN m) g x := ⟨h.whole.drewN m, h.fit⟩
theorem PrbAt.drew (h : PrbAt Fm oo w g x) : PrbAt Fm oo w.drew g x := ⟨h.whole.drew, h.fit⟩
theorem PrbAt.alloc (h : PrbAt Fm oo w g x) (o : Obj) : PrbAt Fm oo (w.alloc o) g x := ⟨h.whole.alloc o, h.fit⟩
theorem PrbAt.lt (h : PrbAt Fm oo w g x) : g < w.heap.size := h.whole.lt
end
theorem ret_bb {a b c d : Bool} (h : a = c) (k : b = d) : Ending.returned (.tuple #[.bool a, .bool b]) = .returned (.tuple #[.bool c, .bool d]) := by rw [h, k]

set_option maxHeartbeats 400000 in
theorem prnew_any (w : World) : Calls Tryz.prog 16 #[] w fun e w' => e = .returned (.pointer (some ⟨w.heap.size, 0, none⟩)) ∧ PrbAt ⟨58, [], []⟩ 0 w' w.heap.size newB ∧ Keep (fun _ => False) w w' := by
  go_enter Tryz.func16, Tryz.ntmps16
  go_wp2
  go_ret
  exact ⟨rfl, ⟨Part.of_whole (Whole.new _ _ _), fit_newB⟩, (Keep.refl _ _).alloc _⟩
theorem prbest_nil (w : World) : Calls Tryz.prog 23 #[.pointer none] w fun e w' => e = .returned (.int .u64 0) ∧ w = w' := by
  go_enter Tryz.func23, Tryz.ntmps23
  go_wp2
  go_ret
  exact ⟨rfl, rfl⟩
set_option maxHeartbeats 400000 in
theorem prbest_any (g : Nat) (x : Prb) (w : World) (h : PrbAt Fm oo w g x) : Calls Tryz.prog 23 #[.pointer (some ⟨g, oo, none⟩)] w fun e w' => e = .returned (.int .u64 x.b) ∧ w = w' := by
  have c0 : w.cell? ⟨g, oo, none⟩ = some (.int .u64 x.b) := h.whole.cell0
  clear h
  go_enter Tryz.func23, Tryz.ntmps23
  go_wp2
  go_ret
  exact ⟨rfl, rfl⟩
theorem prupd_nil (n t f o : Int) (st : Bool) (w : World) : Calls Tryz.prog 61 #[.pointer none, .int .u64 n, .int .u64 t, .bool st, .int .u64 f, .int .u64 o] w fun e w' => e = .returned (.tuple #[.bool false, .bool false]) ∧ w = w' := by
  go_enter Tryz.func61, Tryz.ntmps61
  go_wp2
  go_ret2
  exact ⟨rfl, rfl⟩
set_option maxHeartbeats 400000 in
theorem prexp_any (g : Nat) (x : Prb) (n : Int) (w : World) (h : PrbAt Fm oo w g x) : Calls Tryz.prog 110 #[.pointer (some ⟨g, oo, none⟩), .int .u64 n] w fun e w' => e = .returned (.bool (expB x n)) ∧ w = w' := by
  have c0 : w.cell? ⟨g, oo, none⟩ = some (.int .u64 x.b) := h.whole.cell0
  have c1 : w.cell? ⟨g, oo + 1, none⟩ = some (.int .u64 x.s) := h.whole.cell 1
  have HS := Lib.hid h.fit.s
  clear h
  by_cases hb : 0 < x.b
  · have HE : Hid (decide (satAdd x.s 10000000000 < n) = expB x n) := Lib.hid (by simp [expB, hb])
    go_enter Tryz.func110, Tryz.ntmps110
    go_wp2_with fail
    refine (add_any _ _ HS.out.1 HS.out.2 (by decide) (by decide) _).mono ?_
    rintro e w' ⟨rfl, rfl⟩
    go_wp2
    go_ret
    exact ⟨ret_b HE.out, rfl⟩
  · have HE : Hid (false = expB x n) := Lib.hid (by simp [expB, hb])
    have hb' : decide (0 < x.b) = false := by simp [hb]
    go_enter Tryz.func110, Tryz.ntmps110
    go_wp2
    go_ret
    exact ⟨ret_b HE.out, rfl⟩
set_option maxHeartbeats 1000000 in
theorem prtake_any (g : Nat) (x : Prb) (n t : Int) (ex : Bool) (w : World) (h : PrbAt Fm oo w g x) (hn : Num n) (ht : Num t) : Calls Tryz.prog 111 #[.pointer (some ⟨g, oo, none⟩), .int .u64 n, .int .u64 t, .bool ex] w fun e w' => (∃ v, e = .returned v) ∧ PrbAt Fm oo w' g (takeB x n t ex) ∧ Keep (fun k => k = g) w w' := by
  by_cases h0 : 0 < t
  · by_cases h1 : x.b = 0
    · have HT : Hid (tookB x t ex = true) := Lib.hid (by simp [tookB, h0, h1])
      have q1 : (x.b == 0) = true := by simp [h1]
      clear h1
      have c0 : w.cell? ⟨g, oo, none⟩ = some (.int .u64 x.b) := h.whole.cell0
      have f0 := h.whole.free0
      have HP0 := Lib.hid (h.whole.put0 (.int .u64 t))
      have c1 : (w.setCell ⟨g, oo, none⟩ (.int .u64 t)).cell? ⟨g, oo + 1, none⟩ = some (.int .u64 x.s) := HP0.out.cell 1
      have f1 := HP0.out.free 1
      have HP1 := Lib.hid (HP0.out.put 1 (.int .u64 n))
      have HK := Lib.hid (((Keep.refl (fun k => k = g) w).setCell (p := ⟨g, oo, none⟩) (.inl rfl) (.int .u64 t)).setCell (p := ⟨g, oo + 1, none⟩) (.inl rfl) (.int .u64 n))
      have HF := Lib.hid (h.fit.take (e := ex) hn ht)
      have HE : Hid (takeB x n t ex = ⟨t, n, x.i, x.u, x.r⟩) := Lib.hid (by simp [takeB, HT.out])
      clear h hn ht HT HP0
      go_enter Tryz.func111, Tryz.ntmps111
      go_wp2
      go_end0
      (try subst hx)
      refine ⟨⟨_, rfl⟩, ⟨?_, HF.out⟩, HK.out⟩
      rw [HE.out]
      exact HP1.out
    · have q1 : (x.b == 0) = false := by simp [h1]
      by_cases h2 : t ≤ x.b
      · have HT : Hid (tookB x t ex = true) := Lib.hid (by simp [tookB, h0, h2])
        clear h1
        have c0 : w.cell? ⟨g, oo, none⟩ = some (.int .u64 x.b) := h.whole.cell0
        have f0 := h.whole.free0
        have HP0 := Lib.hid (h.whole.put0 (.int .u64 t))
        have c1 : (w.setCell ⟨g, oo, none⟩ (.int .u64 t)).cell? ⟨g, oo + 1, none⟩ = some (.int .u64 x.s) := HP0.out.cell 1
        have f1 := HP0.out.free 1
        have HP1 := Lib.hid (HP0.out.put 1 (.int .u64 n))
        have HK := Lib.hid (((Keep.refl (fun k => k = g) w).setCell (p := ⟨g, oo, none⟩) (.inl rfl) (.int .u64 t)).setCell (p := ⟨g, oo + 1, none⟩) (.inl rfl) (.int .u64 n))
        have HF := Lib.hid (h.fit.take (e := ex) hn ht)
        have HE : Hid (takeB x n t ex = ⟨t, n, x.i, x.u, x.r⟩) := Lib.hid (by simp [takeB, HT.out])
        clear h hn ht HT HP0
        go_enter Tryz.func111, Tryz.ntmps111
        go_wp2
        go_end0
        (try subst hx)
        refine ⟨⟨_, rfl⟩, ⟨?_, HF.out⟩, HK.out⟩
        rw [HE.out]
        exact HP1.out
      · have q2 : decide (t ≤ x.b) = false := by simp [h2]
        by_cases hx : ex = true
        · have HT : Hid (tookB x t ex = true) := Lib.hid (by simp [tookB, h0, hx])
          clear h1
          have c0 : w.cell? ⟨g, oo, none⟩ = some (.int .u64 x.b) := h.whole.cell0
          have f0 := h.whole.free0
          have HP0 := Lib.hid (h.whole.put0 (.int .u64 t))
          have c1 : (w.setCell ⟨g, oo, none⟩ (.int .u64 t)).cell? ⟨g, oo + 1, none⟩ = some (.int .u64 x.s) := HP0.out.cell 1
          have f1 := HP0.out.free 1
          have HP1 := Lib.hid (HP0.out.put 1 (.int .u64 n))
          have HK := Lib.hid (((Keep.refl (fun k => k = g) w).setCell (p := ⟨g, oo, none⟩) (.inl rfl) (.int .u64 t)).setCell (p := ⟨g, oo + 1, none⟩) (.inl rfl) (.int .u64 n))
          have HF := Lib.hid (h.fit.take (e := ex) hn ht)
          have HE : Hid (takeB x n t ex = ⟨t, n, x.i, x.u, x.r⟩) := Lib.hid (by simp [takeB, HT.out])
          clear h hn ht HT HP0
          go_enter Tryz.func111, Tryz.ntmps111
          go_wp2
          go_end0
          (try subst hx)
          refine ⟨⟨_, rfl⟩, ⟨?_, HF.out⟩, HK.out⟩
          rw [HE.out]
          exact HP1.out
        · have hx' : ex = false := by simpa using hx
          have HT : Hid (tookB x t ex = false) := Lib.hid (by simp [tookB, h1, h2, hx'])
          clear h1 hx
          have c0 : w.cell? ⟨g, oo, none⟩ = some (.int .u64 x.b) := h.whole.cell0
          have HG := Lib.hid h
          have HE : Hid (takeB x n t ex = x) := Lib.hid (by simp [takeB, HT.out])
          clear h hn ht HT
          go_enter Tryz.func111, Tryz.ntmps111
          go_wp2
          go_end0
          (try subst hx')
          refine ⟨⟨_, rfl⟩, ?_, Keep.refl _ _⟩
          rw [HE.out]
          exact HG.out
  · have HT : Hid (tookB x t ex = false) := Lib.hid (by simp [tookB, h0])
    have q0 : decide (0 < t) = false := by simp [h0]
    have c0 : w.cell? ⟨g, oo, none⟩ = some (.int .u64 x.b) := h.whole.cell0
    have HG := Lib.hid h
    have HE : Hid (takeB x n t ex = x) := Lib.hid (by simp [takeB, HT.out])
    clear h hn ht HT
    go_enter Tryz.func111, Tryz.ntmps111
    go_wp2
    go_end0
    (try subst hx')
    refine ⟨⟨_, rfl⟩, ?_, Keep.refl _ _⟩
    rw [HE.out]
    exact HG.out


set_option maxHeartbeats 2000000 in
theorem prwalk_any (g b : Nat) (x : Prb) (l : Lok) (w : World) (h : PrbAt Fm oo w g x) (hb : Whole w b 131 l.c) (hn : Num l.n) (ht : Num l.t) :
    Calls Tryz.prog 95 #[.pointer (some ⟨g, oo, none⟩), .slice (some ⟨b, 0, none⟩) 1 1] w fun e w' => e = .returned (.tuple #[.bool (begB x l), .bool (leaB x l)]) ∧ PrbAt Fm oo w' g (updB x l) ∧ Keep (fun k => k = g) w w' := by
  have HF := Lib.hid (h.fit.upd hn ht)
  obtain ⟨xi, hxi⟩ : ∃ i, i = x.i := ⟨_, rfl⟩
  obtain ⟨xu, hxu⟩ : ∃ i, i = x.u := ⟨_, rfl⟩
  obtain ⟨xr, hxr⟩ : ∃ i, i = x.r := ⟨_, rfl⟩
  have HX : Hid (x.i = xi ∧ x.u = xu ∧ x.r = xr) := Lib.hid ⟨hxi.symm, hxu.symm, hxr.symm⟩
  obtain ⟨E, hE⟩ : ∃ E, E = expB x l.n := ⟨_, rfl⟩
  have HEX := Lib.hid hE.symm
  clear hxi hxu hxr hE
  by_cases hi : xi = true
  · have HB : Hid (false = begB x l) := Lib.hid (by simp [begB, HX.out.1, hi])
    by_cases hu : xu = 0
    · have q3 : (xu == 0) = true := by simp [hu]
      have HL : Hid (false = leaB x l) := Lib.hid (by simp [leaB, HX.out.2.1, hu])
      by_cases hf : l.f ≤ l.o
      · have HU : Hid (∀ y, goB x y l = ⟨y.b, y.s, true, satAdd l.n 200000000, false⟩) := Lib.hid (fun y => by simp [goB, ← HB.out, HX.out.1, HX.out.2.1, hi, hu, hf])
        clear hu
        have HNN := Lib.hid hn
        have HNT := Lib.hid ht
        have b0 : w.cell? ⟨b, 0, none⟩ = some (.int .u64 l.n) := hb.cell0
        have b1 : w.cell? ⟨b, 1, none⟩ = some (.int .u64 l.t) := hb.cell 1
        have b2 : w.cell? ⟨b, 2, none⟩ = some (.bool l.g) := hb.cell 2
        have b3 : w.cell? ⟨b, 3, none⟩ = some (.int .u64 l.f) := hb.cell 3
        have b4 : w.cell? ⟨b, 4, none⟩ = some (.int .u64 l.o) := hb.cell 4
        have HN := Lib.hid (Whole.new w 131 l.c)
        have HG1 := Lib.hid (h.alloc (.cells l.c 131))
        have HK := Lib.hid ((Keep.refl (fun k => k = g) w).alloc (.cells l.c 131))
        have HGN := Lib.hid (Nat.ne_of_gt h.lt)
        clear h hb hn ht
        go_enter Tryz.func95, Tryz.ntmps95
        go_wp2
        go_step3
        go_wp2
        go_step3
        go_wp2
        refine wp_loop_rounds 2 ?_
        rw [rounds_succ]
        go_wp2_with fail
        refine (prexp_any _ _ _ _ HG1.out).mono ?_
        rintro e w' ⟨rfl, rfl⟩
        rw [HEX.out]
        go_wp2_with fail
        refine (prtake_any _ _ l.n l.t _ _ HG1.out HNN.out HNT.out).mono ?_
        rintro e w3 ⟨⟨_, rfl⟩, h3, k3⟩
        have HG3 := Lib.hid h3
        have HN3 := Lib.hid (HN.out.keep k3 HGN.out)
        have HK3 := Lib.hid (HK.out.trans k3)
        clear h3 k3 HN HG1 HK b0 b1 b2 b3 b4
        generalize w.heap.size = B at *
        generalize hy : takeB _ l.n l.t _ = y at *
        have HYI : Hid (xi = y.i ∧ xu = y.u ∧ xr = y.r) := Lib.hid (by rw [← hy]; exact ⟨HX.out.1.symm, HX.out.2.1.symm, HX.out.2.2.symm⟩)
        have HY := Lib.hid hy.symm
        clear hy
        obtain ⟨yb, ys, yi, yu, yr⟩ := y
        obtain ⟨rfl, rfl, rfl⟩ : xi = yi ∧ xu = yu ∧ xr = yr := HYI.out
        clear HYI
        have d0 : w3.cell? ⟨B, 0, none⟩ = some (.int .u64 l.n) := HN3.out.cell0
        have d2 : w3.cell? ⟨B, 2, none⟩ = some (.bool l.g) := HN3.out.cell 2
        have d3 : w3.cell? ⟨B, 3, none⟩ = some (.int .u64 l.f) := HN3.out.cell 3
        have d4 : w3.cell? ⟨B, 4, none⟩ = some (.int .u64 l.o) := HN3.out.cell 4
        have e2 : w3.cell? ⟨g, oo + 2, none⟩ = some (.bool xi) := HG3.out.whole.cell 2
        have e3 : w3.cell? ⟨g, oo + 3, none⟩ = some (.int .u64 xu) := HG3.out.whole.cell 3
        have e4 : w3.cell? ⟨g, oo + 4, none⟩ = some (.bool xr) := HG3.out.whole.cell 4
        have f2 := HG3.out.whole.free 2
        have f3 := HG3.out.whole.free 3
        have f4 := HG3.out.whole.free 4
        have HP0 := Lib.hid (HG3.out.whole.put 3 (.int .u64 (satAdd l.n 200000000)))
        have g4 : (w3.setCell ⟨g, oo + 3, none⟩ (.int .u64 (satAdd l.n 200000000))).cell? ⟨g, oo + 4, none⟩ = some (.bool xr) := HP0.out.cell 4
        have k4 := HP0.out.free 4
        have HP1 := Lib.hid (HP0.out.put 4 (.bool false))
        have HK4 := Lib.hid ((HK3.out.setCell (p := ⟨g, oo + 3, none⟩) (.inl rfl) (.int .u64 (satAdd l.n 200000000))).setCell (p := ⟨g, oo + 4, none⟩) (.inl rfl) (.bool false))
        go_wp2_with fail
        refine (add_any _ _ HNN.out.1 HNN.out.2 (by decide) (by decide) _).mono ?_
        rintro e w' ⟨rfl, rfl⟩
        go_wp2
        rw [rounds_succ]
        go_wp2
        (try rw [Exit.noGoto_normal])
        (try rw [Exit.noGoto_ret])
        go_ret2
        refine ⟨ret_bb HB.out HL.out, ⟨?_, HF.out⟩, HK4.out⟩
        rw [updB, HEX.out, ← HY.out, HU.out, ← hi]
        exact HP1.out
      · have HU : Hid (∀ y, goB x y l = ⟨y.b, y.s, true, xu, xr⟩) := Lib.hid (fun y => by simp [goB, ← HB.out, HX.out.1, HX.out.2.1, HX.out.2.2, hi, hu, hf])
        have qf : decide (l.f ≤ l.o) = false := by simp [hf]
        clear hu
        have HNN := Lib.hid hn
        have HNT := Lib.hid ht
        have b0 : w.cell? ⟨b, 0, none⟩ = some (.int .u64 l.n) := hb.cell0
        have b1 : w.cell? ⟨b, 1, none⟩ = some (.int .u64 l.t) := hb.cell 1
        have b2 : w.cell? ⟨b, 2, none⟩ = some (.bool l.g) := hb.cell 2
        have b3 : w.cell? ⟨b, 3, none⟩ = some (.int .u64 l.f) := hb.cell 3
        have b4 : w.cell? ⟨b, 4, none⟩ = some (.int .u64 l.o) := hb.cell 4
        have HN := Lib.hid (Whole.new w 131 l.c)
        have HG1 := Lib.hid (h.alloc (.cells l.c 131))
        have HK := Lib.hid ((Keep.refl (fun k => k = g) w).alloc (.cells l.c 131))
        have HGN := Lib.hid (Nat.ne_of_gt h.lt)
        clear h hb hn ht
        go_enter Tryz.func95, Tryz.ntmps95
        go_wp2
        go_step3
        go_wp2
        go_step3
        go_wp2
        refine wp_loop_rounds 2 ?_
        rw [rounds_succ]
        go_wp2_with fail
        refine (prexp_any _ _ _ _ HG1.out).mono ?_
        rintro e w' ⟨rfl, rfl⟩
        rw [HEX.out]
        go_wp2_with fail
        refine (prtake_any _ _ l.n l.t _ _ HG1.out HNN.out HNT.out).mono ?_
        rintro e w3 ⟨⟨_, rfl⟩, h3, k3⟩
        have HG3 := Lib.hid h3
        have HN3 := Lib.hid (HN.out.keep k3 HGN.out)
        have HK3 := Lib.hid (HK.out.trans k3)
        clear h3 k3 HN HG1 HK b0 b1 b2 b3 b4
        generalize w.heap.size = B at *
        generalize hy : takeB _ l.n l.t _ = y at *
        have HYI : Hid (xi = y.i ∧ xu = y.u ∧ xr = y.r) := Lib.hid (by rw [← hy]; exact ⟨HX.out.1.symm, HX.out.2.1.symm, HX.out.2.2.symm⟩)
        have HY := Lib.hid hy.symm
        clear hy
        obtain ⟨yb, ys, yi, yu, yr⟩ := y
        obtain ⟨rfl, rfl, rfl⟩ : xi = yi ∧ xu = yu ∧ xr = yr := HYI.out
        clear HYI
        have d0 : w3.cell? ⟨B, 0, none⟩ = some (.int .u64 l.n) := HN3.out.cell0
        have d2 : w3.cell? ⟨B, 2, none⟩ = some (.bool l.g) := HN3.out.cell 2
        have d3 : w3.cell? ⟨B, 3, none⟩ = some (.int .u64 l.f) := HN3.out.cell 3
        have d4 : w3.cell? ⟨B, 4, none⟩ = some (.int .u64 l.o) := HN3.out.cell 4
        have e2 : w3.cell? ⟨g, oo + 2, none⟩ = some (.bool xi) := HG3.out.whole.cell 2
        have e3 : w3.cell? ⟨g, oo + 3, none⟩ = some (.int .u64 xu) := HG3.out.whole.cell 3
        have e4 : w3.cell? ⟨g, oo + 4, none⟩ = some (.bool xr) := HG3.out.whole.cell 4
        have f2 := HG3.out.whole.free 2
        have f3 := HG3.out.whole.free 3
        have f4 := HG3.out.whole.free 4
        go_wp2
        rw [rounds_succ]
        go_wp2
        (try rw [Exit.noGoto_normal])
        (try rw [Exit.noGoto_ret])
        go_ret2
        refine ⟨ret_bb HB.out HL.out, ⟨?_, HF.out⟩, HK3.out⟩
        rw [updB, HEX.out, ← HY.out, HU.out, ← hi]
        exact HG3.out.whole
    · have q3 : (xu == 0) = false := by simp [hu]
      by_cases hr : xr = true
      · by_cases hl : xu < l.n
        · have HL : Hid (true = leaB x l) := Lib.hid (by simp [leaB, HX.out.1, HX.out.2.1, HX.out.2.2, hi, hu, hr, hl])
          have HU : Hid (∀ y, goB x y l = ⟨y.b, l.n, false, xu, true⟩) := Lib.hid (fun y => by simp [goB, ← HB.out, ← HL.out, HX.out.1, HX.out.2.1, HX.out.2.2, hi, hu])
          clear hu
          have HNN := Lib.hid hn
          have HNT := Lib.hid ht
          have b0 : w.cell? ⟨b, 0, none⟩ = some (.int .u64 l.n) := hb.cell0
          have b1 : w.cell? ⟨b, 1, none⟩ = some (.int .u64 l.t) := hb.cell 1
          have b2 : w.cell? ⟨b, 2, none⟩ = some (.bool l.g) := hb.cell 2
          have b3 : w.cell? ⟨b, 3, none⟩ = some (.int .u64 l.f) := hb.cell 3
          have b4 : w.cell? ⟨b, 4, none⟩ = some (.int .u64 l.o) := hb.cell 4
          have HN := Lib.hid (Whole.new w 131 l.c)
          have HG1 := Lib.hid (h.alloc (.cells l.c 131))
          have HK := Lib.hid ((Keep.refl (fun k => k = g) w).alloc (.cells l.c 131))
          have HGN := Lib.hid (Nat.ne_of_gt h.lt)
          clear h hb hn ht
          go_enter Tryz.func95, Tryz.ntmps95
          go_wp2
          go_step3
          go_wp2
          go_step3
          go_wp2
          refine wp_loop_rounds 2 ?_
          rw [rounds_succ]
          go_wp2_with fail
          refine (prexp_any _ _ _ _ HG1.out).mono ?_
          rintro e w' ⟨rfl, rfl⟩
          rw [HEX.out]
          go_wp2_with fail
          refine (prtake_any _ _ l.n l.t _ _ HG1.out HNN.out HNT.out).mono ?_
          rintro e w3 ⟨⟨_, rfl⟩, h3, k3⟩
          have HG3 := Lib.hid h3
          have HN3 := Lib.hid (HN.out.keep k3 HGN.out)
          have HK3 := Lib.hid (HK.out.trans k3)
          clear h3 k3 HN HG1 HK b0 b1 b2 b3 b4
          generalize w.heap.size = B at *
          generalize hy : takeB _ l.n l.t _ = y at *
          have HYI : Hid (xi = y.i ∧ xu = y.u ∧ xr = y.r) := Lib.hid (by rw [← hy]; exact ⟨HX.out.1.symm, HX.out.2.1.symm, HX.out.2.2.symm⟩)
          have HY := Lib.hid hy.symm
          clear hy
          obtain ⟨yb, ys, yi, yu, yr⟩ := y
          obtain ⟨rfl, rfl, rfl⟩ : xi = yi ∧ xu = yu ∧ xr = yr := HYI.out
          clear HYI
          have d0 : w3.cell? ⟨B, 0, none⟩ = some (.int .u64 l.n) := HN3.out.cell0
          have d2 : w3.cell? ⟨B, 2, none⟩ = some (.bool l.g) := HN3.out.cell 2
          have d3 : w3.cell? ⟨B, 3, none⟩ = some (.int .u64 l.f) := HN3.out.cell 3
          have d4 : w3.cell? ⟨B, 4, none⟩ = some (.int .u64 l.o) := HN3.out.cell 4
          have e2 : w3.cell? ⟨g, oo + 2, none⟩ = some (.bool xi) := HG3.out.whole.cell 2
          have e3 : w3.cell? ⟨g, oo + 3, none⟩ = some (.int .u64 xu) := HG3.out.whole.cell 3
          have e4 : w3.cell? ⟨g, oo + 4, none⟩ = some (.bool xr) := HG3.out.whole.cell 4
          have f2 := HG3.out.whole.free 2
          have f3 := HG3.out.whole.free 3
          have f4 := HG3.out.whole.free 4
          have HP0 := Lib.hid (HG3.out.whole.put 4 (.bool true))
          have HN4 := Lib.hid (HN3.out.far (p := ⟨g, oo + 4, none⟩) HGN.out (.bool true))
          have HK4 := Lib.hid (HK3.out.setCell (p := ⟨g, oo + 4, none⟩) (.inl rfl) (.bool true))
          go_wp2
          clear d0 d2 d3 d4 e2 e3 e4 f2 f3 f4
          generalize World.setCell w3 _ _ = w4 at *
          have d0 : w4.cell? ⟨B, 0, none⟩ = some (.int .u64 l.n) := HN4.out.cell0
          have e3 : w4.cell? ⟨g, oo + 3, none⟩ = some (.int .u64 xu) := HP0.out.cell 3
          have e4 : w4.cell? ⟨g, oo + 4, none⟩ = some (.bool true) := HP0.out.cell 4
          go_quiet (fail)
          have HP5 := Lib.hid (HP0.out.drewN nq)
          have HN5 := Lib.hid (HN4.out.drewN nq)
          have HK5 := Lib.hid (HK4.out.drewN nq)
          clear d0 e3 e4
          generalize w4.drewN nq = w5 at *
          have d0 : w5.cell? ⟨B, 0, none⟩ = some (.int .u64 l.n) := HN5.out.cell0
          have e1 : w5.cell? ⟨g, oo + 1, none⟩ = some (.int .u64 ys) := HP5.out.cell 1
          have e2 : w5.cell? ⟨g, oo + 2, none⟩ = some (.bool xi) := HP5.out.cell 2
          have f2 := HP5.out.free 2
          have HP6 := Lib.hid (HP5.out.put 2 (.bool false))
          have g1 : (w5.setCell ⟨g, oo + 2, none⟩ (.bool false)).cell? ⟨g, oo + 1, none⟩ = some (.int .u64 ys) := HP6.out.cell 1
          have k1 := HP6.out.free 1
          have HP7 := Lib.hid (HP6.out.put 1 (.int .u64 l.n))
          have HK7 := Lib.hid ((HK5.out.setCell (p := ⟨g, oo + 2, none⟩) (.inl rfl) (.bool false)).setCell (p := ⟨g, oo + 1, none⟩) (.inl rfl) (.int .u64 l.n))
          go_wp2
          go_region
          go_wp2
          (try rw [Exit.noGoto_normal])
          (try rw [Exit.noGoto_ret])
          go_ret2
          refine ⟨ret_bb HB.out HL.out, ⟨?_, HF.out⟩, HK7.out.drew⟩
          rw [updB, HEX.out, ← HY.out, HU.out]
          exact HP7.out.drew
        · have HL : Hid (false = leaB x l) := Lib.hid (by simp [leaB, HX.out.1, HX.out.2.1, HX.out.2.2, hi, hu, hr, hl])
          have HU : Hid (∀ y, goB x y l = ⟨y.b, y.s, true, xu, true⟩) := Lib.hid (fun y => by simp [goB, ← HB.out, ← HL.out, HX.out.1, HX.out.2.1, HX.out.2.2, hi, hu, hr])
          have ql : decide (xu < l.n) = false := by simp [hl]
          clear hu
          have HNN := Lib.hid hn
          have HNT := Lib.hid ht
          have b0 : w.cell? ⟨b, 0, none⟩ = some (.int .u64 l.n) := hb.cell0
          have b1 : w.cell? ⟨b, 1, none⟩ = some (.int .u64 l.t) := hb.cell 1
          have b2 : w.cell? ⟨b, 2, none⟩ = some (.bool l.g) := hb.cell 2
          have b3 : w.cell? ⟨b, 3, none⟩ = some (.int .u64 l.f) := hb.cell 3
          have b4 : w.cell? ⟨b, 4, none⟩ = some (.int .u64 l.o) := hb.cell 4
          have HN := Lib.hid (Whole.new w 131 l.c)
          have HG1 := Lib.hid (h.alloc (.cells l.c 131))
          have HK := Lib.hid ((Keep.refl (fun k => k = g) w).alloc (.cells l.c 131))
          have HGN := Lib.hid (Nat.ne_of_gt h.lt)
          clear h hb hn ht
          go_enter Tryz.func95, Tryz.ntmps95
          go_wp2
          go_step3
          go_wp2
          go_step3
          go_wp2
          refine wp_loop_rounds 2 ?_
          rw [rounds_succ]
          go_wp2_with fail
          refine (prexp_any _ _ _ _ HG1.out).mono ?_
          rintro e w' ⟨rfl, rfl⟩
          rw [HEX.out]
          go_wp2_with fail
          refine (prtake_any _ _ l.n l.t _ _ HG1.out HNN.out HNT.out).mono ?_
          rintro e w3 ⟨⟨_, rfl⟩, h3, k3⟩
          have HG3 := Lib.hid h3
          have HN3 := Lib.hid (HN.out.keep k3 HGN.out)
          have HK3 := Lib.hid (HK.out.trans k3)
          clear h3 k3 HN HG1 HK b0 b1 b2 b3 b4
          generalize w.heap.size = B at *
          generalize hy : takeB _ l.n l.t _ = y at *
          have HYI : Hid (xi = y.i ∧ xu = y.u ∧ xr = y.r) := Lib.hid (by rw [← hy]; exact ⟨HX.out.1.symm, HX.out.2.1.symm, HX.out.2.2.symm⟩)
          have HY := Lib.hid hy.symm
          clear hy
          obtain ⟨yb, ys, yi, yu, yr⟩ := y
          obtain ⟨rfl, rfl, rfl⟩ : xi = yi ∧ xu = yu ∧ xr = yr := HYI.out
          clear HYI
          have d0 : w3.cell? ⟨B, 0, none⟩ = some (.int .u64 l.n) := HN3.out.cell0
          have d2 : w3.cell? ⟨B, 2, none⟩ = some (.bool l.g) := HN3.out.cell 2
          have d3 : w3.cell? ⟨B, 3, none⟩ = some (.int .u64 l.f) := HN3.out.cell 3
          have d4 : w3.cell? ⟨B, 4, none⟩ = some (.int .u64 l.o) := HN3.out.cell 4
          have e2 : w3.cell? ⟨g, oo + 2, none⟩ = some (.bool xi) := HG3.out.whole.cell 2
          have e3 : w3.cell? ⟨g, oo + 3, none⟩ = some (.int .u64 xu) := HG3.out.whole.cell 3
          have e4 : w3.cell? ⟨g, oo + 4, none⟩ = some (.bool xr) := HG3.out.whole.cell 4
          have f2 := HG3.out.whole.free 2
          have f3 := HG3.out.whole.free 3
          have f4 := HG3.out.whole.free 4
          have HP0 := Lib.hid (HG3.out.whole.put 4 (.bool true))
          have HN4 := Lib.hid (HN3.out.far (p := ⟨g, oo + 4, none⟩) HGN.out (.bool true))
          have HK4 := Lib.hid (HK3.out.setCell (p := ⟨g, oo + 4, none⟩) (.inl rfl) (.bool true))
          go_wp2
          clear d0 d2 d3 d4 e2 e3 e4 f2 f3 f4
          generalize World.setCell w3 _ _ = w4 at *
          have d0 : w4.cell? ⟨B, 0, none⟩ = some (.int .u64 l.n) := HN4.out.cell0
          have e3 : w4.cell? ⟨g, oo + 3, none⟩ = some (.int .u64 xu) := HP0.out.cell 3
          have e4 : w4.cell? ⟨g, oo + 4, none⟩ = some (.bool true) := HP0.out.cell 4
          go_quiet (fail)
          have HP5 := Lib.hid (HP0.out.drewN nq)
          have HK5 := Lib.hid (HK4.out.drewN nq)
          generalize w4.drewN nq = w5 at *
          go_wp2
          rw [rounds_succ]
          go_wp2
          (try rw [Exit.noGoto_normal])
          (try rw [Exit.noGoto_ret])
          go_ret2
          refine ⟨ret_bb HB.out HL.out, ⟨?_, HF.out⟩, HK5.out⟩
          have hfin := HP5.out
          rw [hi] at hfin
          rw [updB, HEX.out, ← HY.out, HU.out]
          exact hfin
      · have hr' : xr = false := by simpa using hr
        clear hr
        by_cases hg : l.g = true
        · by_cases hl : xu < l.n
          · have HL : Hid (true = leaB x l) := Lib.hid (by simp [leaB, HX.out.1, HX.out.2.1, HX.out.2.2, hi, hu, hr', hg, hl])
            have HU : Hid (∀ y, goB x y l = ⟨y.b, l.n, false, xu, true⟩) := Lib.hid (fun y => by simp [goB, ← HB.out, ← HL.out, HX.out.1, HX.out.2.1, HX.out.2.2, hi, hu])
            have HGg := Lib.hid hg
            clear hu hg
            have HNN := Lib.hid hn
            have HNT := Lib.hid ht
            have b0 : w.cell? ⟨b, 0, none⟩ = some (.int .u64 l.n) := hb.cell0
            have b1 : w.cell? ⟨b, 1, none⟩ = some (.int .u64 l.t) := hb.cell 1
            have b2 : w.cell? ⟨b, 2, none⟩ = some (.bool l.g) := hb.cell 2
            have b3 : w.cell? ⟨b, 3, none⟩ = some (.int .u64 l.f) := hb.cell 3
            have b4 : w.cell? ⟨b, 4, none⟩ = some (.int .u64 l.o) := hb.cell 4
            have HN := Lib.hid (Whole.new w 131 l.c)
            have HG1 := Lib.hid (h.alloc (.cells l.c 131))
            have HK := Lib.hid ((Keep.refl (fun k => k = g) w).alloc (.cells l.c 131))
            have HGN := Lib.hid (Nat.ne_of_gt h.lt)
            clear h hb hn ht
            go_enter Tryz.func95, Tryz.ntmps95
            go_wp2
            go_step3
            go_wp2
            go_step3
            go_wp2
            refine wp_loop_rounds 2 ?_
            rw [rounds_succ]
            go_wp2_with fail
            refine (prexp_any _ _ _ _ HG1.out).mono ?_
            rintro e w' ⟨rfl, rfl⟩
            rw [HEX.out]
            go_wp2_with fail
            refine (prtake_any _ _ l.n l.t _ _ HG1.out HNN.out HNT.out).mono ?_
            rintro e w3 ⟨⟨_, rfl⟩, h3, k3⟩
            have HG3 := Lib.hid h3
            have HN3 := Lib.hid (HN.out.keep k3 HGN.out)
            have HK3 := Lib.hid (HK.out.trans k3)
            clear h3 k3 HN HG1 HK b0 b1 b2 b3 b4
            generalize w.heap.size = B at *
            generalize hy : takeB _ l.n l.t _ = y at *
            have HYI : Hid (xi = y.i ∧ xu = y.u ∧ xr = y.r) := Lib.hid (by rw [← hy]; exact ⟨HX.out.1.symm, HX.out.2.1.symm, HX.out.2.2.symm⟩)
            have HY := Lib.hid hy.symm
            clear hy
            obtain ⟨yb, ys, yi, yu, yr⟩ := y
            obtain ⟨rfl, rfl, rfl⟩ : xi = yi ∧ xu = yu ∧ xr = yr := HYI.out
            clear HYI
            have d0 : w3.cell? ⟨B, 0, none⟩ = some (.int .u64 l.n) := HN3.out.cell0
            have d2 : w3.cell? ⟨B, 2, none⟩ = some (.bool l.g) := HN3.out.cell 2
            have d3 : w3.cell? ⟨B, 3, none⟩ = some (.int .u64 l.f) := HN3.out.cell 3
            have d4 : w3.cell? ⟨B, 4, none⟩ = some (.int .u64 l.o) := HN3.out.cell 4
            have e2 : w3.cell? ⟨g, oo + 2, none⟩ = some (.bool xi) := HG3.out.whole.cell 2
            have e3 : w3.cell? ⟨g, oo + 3, none⟩ = some (.int .u64 xu) := HG3.out.whole.cell 3
            have e4 : w3.cell? ⟨g, oo + 4, none⟩ = some (.bool xr) := HG3.out.whole.cell 4
            have f2 := HG3.out.whole.free 2
            have f3 := HG3.out.whole.free 3
            have f4 := HG3.out.whole.free 4
            have hg := HGg.out
            have HP0 := Lib.hid (HG3.out.whole.put 4 (.bool true))
            have HN4 := Lib.hid (HN3.out.far (p := ⟨g, oo + 4, none⟩) HGN.out (.bool true))
            have HK4 := Lib.hid (HK3.out.setCell (p := ⟨g, oo + 4, none⟩) (.inl rfl) (.bool true))
            go_wp2
            clear d0 d2 d3 d4 e2 e3 e4 f2 f3 f4
            generalize World.setCell w3 _ _ = w4 at *
            have d0 : w4.cell? ⟨B, 0, none⟩ = some (.int .u64 l.n) := HN4.out.cell0
            have e3 : w4.cell? ⟨g, oo + 3, none⟩ = some (.int .u64 xu) := HP0.out.cell 3
            have e4 : w4.cell? ⟨g, oo + 4, none⟩ = some (.bool true) := HP0.out.cell 4
            go_quiet (fail)
            have HP5 := Lib.hid (HP0.out.drewN nq)
            have HN5 := Lib.hid (HN4.out.drewN nq)
            have HK5 := Lib.hid (HK4.out.drewN nq)
            clear d0 e3 e4
            generalize w4.drewN nq = w5 at *
            have d0 : w5.cell? ⟨B, 0, none⟩ = some (.int .u64 l.n) := HN5.out.cell0
            have e1 : w5.cell? ⟨g, oo + 1, none⟩ = some (.int .u64 ys) := HP5.out.cell 1
            have e2 : w5.cell? ⟨g, oo + 2, none⟩ = some (.bool xi) := HP5.out.cell 2
            have f2 := HP5.out.free 2
            have HP6 := Lib.hid (HP5.out.put 2 (.bool false))
            have g1 : (w5.setCell ⟨g, oo + 2, none⟩ (.bool false)).cell? ⟨g, oo + 1, none⟩ = some (.int .u64 ys) := HP6.out.cell 1
            have k1 := HP6.out.free 1
            have HP7 := Lib.hid (HP6.out.put 1 (.int .u64 l.n))
            have HK7 := Lib.hid ((HK5.out.setCell (p := ⟨g, oo + 2, none⟩) (.inl rfl) (.bool false)).setCell (p := ⟨g, oo + 1, none⟩) (.inl rfl) (.int .u64 l.n))
            go_wp2
            go_region
            go_wp2
            (try rw [Exit.noGoto_normal])
            (try rw [Exit.noGoto_ret])
            go_ret2
            refine ⟨ret_bb HB.out HL.out, ⟨?_, HF.out⟩, HK7.out.drew⟩
            rw [updB, HEX.out, ← HY.out, HU.out]
            exact HP7.out.drew
          · have HL : Hid (false = leaB x l) := Lib.hid (by simp [leaB, HX.out.1, HX.out.2.1, HX.out.2.2, hi, hu, hr', hg, hl])
            have HU : Hid (∀ y, goB x y l = ⟨y.b, y.s, true, xu, true⟩) := Lib.hid (fun y => by simp [goB, ← HB.out, ← HL.out, HX.out.1, HX.out.2.1, HX.out.2.2, hi, hu, hr', hg])
            have ql : decide (xu < l.n) = false := by simp [hl]
            have HGg := Lib.hid hg
            clear hu hg
            have HNN := Lib.hid hn
            have HNT := Lib.hid ht
            have b0 : w.cell? ⟨b, 0, none⟩ = some (.int .u64 l.n) := hb.cell0
            have b1 : w.cell? ⟨b, 1, none⟩ = some (.int .u64 l.t) := hb.cell 1
            have b2 : w.cell? ⟨b, 2, none⟩ = some (.bool l.g) := hb.cell 2
            have b3 : w.cell? ⟨b, 3, none⟩ = some (.int .u64 l.f) := hb.cell 3
            have b4 : w.cell? ⟨b, 4, none⟩ = some (.int .u64 l.o) := hb.cell 4
            have HN := Lib.hid (Whole.new w 131 l.c)
            have HG1 := Lib.hid (h.alloc (.cells l.c 131))
            have HK := Lib.hid ((Keep.refl (fun k => k = g) w).alloc (.cells l.c 131))
            have HGN := Lib.hid (Nat.ne_of_gt h.lt)
            clear h hb hn ht
            go_enter Tryz.func95, Tryz.ntmps95
            go_wp2
            go_step3
            go_wp2
            go_step3
            go_wp2
            refine wp_loop_rounds 2 ?_
            rw [rounds_succ]
            go_wp2_with fail
            refine (prexp_any _ _ _ _ HG1.out).mono ?_
            rintro e w' ⟨rfl, rfl⟩
            rw [HEX.out]
            go_wp2_with fail
            refine (prtake_any _ _ l.n l.t _ _ HG1.out HNN.out HNT.out).mono ?_
            rintro e w3 ⟨⟨_, rfl⟩, h3, k3⟩
            have HG3 := Lib.hid h3
            have HN3 := Lib.hid (HN.out.keep k3 HGN.out)
            have HK3 := Lib.hid (HK.out.trans k3)
            clear h3 k3 HN HG1 HK b0 b1 b2 b3 b4
            generalize w.heap.size = B at *
            generalize hy : takeB _ l.n l.t _ = y at *
            have HYI : Hid (xi = y.i ∧ xu = y.u ∧ xr = y.r) := Lib.hid (by rw [← hy]; exact ⟨HX.out.1.symm, HX.out.2.1.symm, HX.out.2.2.symm⟩)
            have HY := Lib.hid hy.symm
            clear hy
            obtain ⟨yb, ys, yi, yu, yr⟩ := y
            obtain ⟨rfl, rfl, rfl⟩ : xi = yi ∧ xu = yu ∧ xr = yr := HYI.out
            clear HYI
            have d0 : w3.cell? ⟨B, 0, none⟩ = some (.int .u64 l.n) := HN3.out.cell0
            have d2 : w3.cell? ⟨B, 2, none⟩ = some (.bool l.g) := HN3.out.cell 2
            have d3 : w3.cell? ⟨B, 3, none⟩ = some (.int .u64 l.f) := HN3.out.cell 3
            have d4 : w3.cell? ⟨B, 4, none⟩ = some (.int .u64 l.o) := HN3.out.cell 4
            have e2 : w3.cell? ⟨g, oo + 2, none⟩ = some (.bool xi) := HG3.out.whole.cell 2
            have e3 : w3.cell? ⟨g, oo + 3, none⟩ = some (.int .u64 xu) := HG3.out.whole.cell 3
            have e4 : w3.cell? ⟨g, oo + 4, none⟩ = some (.bool xr) := HG3.out.whole.cell 4
            have f2 := HG3.out.whole.free 2
            have f3 := HG3.out.whole.free 3
            have f4 := HG3.out.whole.free 4
            have hg := HGg.out
            have HP0 := Lib.hid (HG3.out.whole.put 4 (.bool true))
            have HN4 := Lib.hid (HN3.out.far (p := ⟨g, oo + 4, none⟩) HGN.out (.bool true))
            have HK4 := Lib.hid (HK3.out.setCell (p := ⟨g, oo + 4, none⟩) (.inl rfl) (.bool true))
            go_wp2
            clear d0 d2 d3 d4 e2 e3 e4 f2 f3 f4
            generalize World.setCell w3 _ _ = w4 at *
            have d0 : w4.cell? ⟨B, 0, none⟩ = some (.int .u64 l.n) := HN4.out.cell0
            have e3 : w4.cell? ⟨g, oo + 3, none⟩ = some (.int .u64 xu) := HP0.out.cell 3
            have e4 : w4.cell? ⟨g, oo + 4, none⟩ = some (.bool true) := HP0.out.cell 4
            go_quiet (fail)
            have HP5 := Lib.hid (HP0.out.drewN nq)
            have HK5 := Lib.hid (HK4.out.drewN nq)
            generalize w4.drewN nq = w5 at *
            go_wp2
            rw [rounds_succ]
            go_wp2
            (try rw [Exit.noGoto_normal])
            (try rw [Exit.noGoto_ret])
            go_ret2
            refine ⟨ret_bb HB.out HL.out, ⟨?_, HF.out⟩, HK5.out⟩
            have hfin := HP5.out
            rw [hi] at hfin
            rw [updB, HEX.out, ← HY.out, HU.out]
            exact hfin
        · have hg' : l.g = false := by simpa using hg
          clear hg
          have HL : Hid (false = leaB x l) := Lib.hid (by simp [leaB, HX.out.2.2, hr', hg'])
          have HU : Hid (∀ y, goB x y l = ⟨y.b, y.s, true, xu, false⟩) := Lib.hid (fun y => by simp [goB, ← HB.out, ← HL.out, HX.out.1, HX.out.2.1, HX.out.2.2, hi, hu, hr', hg'])
          have HGg := Lib.hid hg'
          clear hu hg'
          have HNN := Lib.hid hn
          have HNT := Lib.hid ht
          have b0 : w.cell? ⟨b, 0, none⟩ = some (.int .u64 l.n) := hb.cell0
          have b1 : w.cell? ⟨b, 1, none⟩ = some (.int .u64 l.t) := hb.cell 1
          have b2 : w.cell? ⟨b, 2, none⟩ = some (.bool l.g) := hb.cell 2
          have b3 : w.cell? ⟨b, 3, none⟩ = some (.int .u64 l.f) := hb.cell 3
          have b4 : w.cell? ⟨b, 4, none⟩ = some (.int .u64 l.o) := hb.cell 4
          have HN := Lib.hid (Whole.new w 131 l.c)
          have HG1 := Lib.hid (h.alloc (.cells l.c 131))
          have HK := Lib.hid ((Keep.refl (fun k => k = g) w).alloc (.cells l.c 131))
          have HGN := Lib.hid (Nat.ne_of_gt h.lt)
          clear h hb hn ht
          go_enter Tryz.func95, Tryz.ntmps95
          go_wp2
          go_step3
          go_wp2
          go_step3
          go_wp2
          refine wp_loop_rounds 2 ?_
          rw [rounds_succ]
          go_wp2_with fail
          refine (prexp_any _ _ _ _ HG1.out).mono ?_
          rintro e w' ⟨rfl, rfl⟩
          rw [HEX.out]
          go_wp2_with fail
          refine (prtake_any _ _ l.n l.t _ _ HG1.out HNN.out HNT.out).mono ?_
          rintro e w3 ⟨⟨_, rfl⟩, h3, k3⟩
          have HG3 := Lib.hid h3
          have HN3 := Lib.hid (HN.out.keep k3 HGN.out)
          have HK3 := Lib.hid (HK.out.trans k3)
          clear h3 k3 HN HG1 HK b0 b1 b2 b3 b4
          generalize w.heap.size = B at *
          generalize hy : takeB _ l.n l.t _ = y at *
          have HYI : Hid (xi = y.i ∧ xu = y.u ∧ xr = y.r) := Lib.hid (by rw [← hy]; exact ⟨HX.out.1.symm, HX.out.2.1.symm, HX.out.2.2.symm⟩)
          have HY := Lib.hid hy.symm
          clear hy
          obtain ⟨yb, ys, yi, yu, yr⟩ := y
          obtain ⟨rfl, rfl, rfl⟩ : xi = yi ∧ xu = yu ∧ xr = yr := HYI.out
          clear HYI
          have d0 : w3.cell? ⟨B, 0, none⟩ = some (.int .u64 l.n) := HN3.out.cell0
          have d2 : w3.cell? ⟨B, 2, none⟩ = some (.bool l.g) := HN3.out.cell 2
          have d3 : w3.cell? ⟨B, 3, none⟩ = some (.int .u64 l.f) := HN3.out.cell 3
          have d4 : w3.cell? ⟨B, 4, none⟩ = some (.int .u64 l.o) := HN3.out.cell 4
          have e2 : w3.cell? ⟨g, oo + 2, none⟩ = some (.bool xi) := HG3.out.whole.cell 2
          have e3 : w3.cell? ⟨g, oo + 3, none⟩ = some (.int .u64 xu) := HG3.out.whole.cell 3
          have e4 : w3.cell? ⟨g, oo + 4, none⟩ = some (.bool xr) := HG3.out.whole.cell 4
          have f2 := HG3.out.whole.free 2
          have f3 := HG3.out.whole.free 3
          have f4 := HG3.out.whole.free 4
          have hg := HGg.out
          have HP0 := Lib.hid (HG3.out.whole.put 4 (.bool false))
          have HN4 := Lib.hid (HN3.out.far (p := ⟨g, oo + 4, none⟩) HGN.out (.bool false))
          have HK4 := Lib.hid (HK3.out.setCell (p := ⟨g, oo + 4, none⟩) (.inl rfl) (.bool false))
          go_wp2
          clear d0 d2 d3 d4 e2 e3 e4 f2 f3 f4
          generalize World.setCell w3 _ _ = w4 at *
          have d0 : w4.cell? ⟨B, 0, none⟩ = some (.int .u64 l.n) := HN4.out.cell0
          have e3 : w4.cell? ⟨g, oo + 3, none⟩ = some (.int .u64 xu) := HP0.out.cell 3
          have e4 : w4.cell? ⟨g, oo + 4, none⟩ = some (.bool false) := HP0.out.cell 4
          go_quiet (fail)
          have HP5 := Lib.hid (HP0.out.drewN nq)
          have HK5 := Lib.hid (HK4.out.drewN nq)
          generalize w4.drewN nq = w5 at *
          go_wp2
          rw [rounds_succ]
          go_wp2
          (try rw [Exit.noGoto_normal])
          (try rw [Exit.noGoto_ret])
          go_ret2
          refine ⟨ret_bb HB.out HL.out, ⟨?_, HF.out⟩, HK5.out⟩
          have hfin := HP5.out
          rw [hi] at hfin
          rw [updB, HEX.out, ← HY.out, HU.out]
          exact hfin
  · have hi' : xi = false := by simpa using hi
    clear hi
    have HL : Hid (false = leaB x l) := Lib.hid (by simp [leaB, HX.out.1, hi'])
    cases E
    · have HB : Hid (false = begB x l) := Lib.hid (by simp [begB, HEX.out])
      have HU : Hid (∀ y, goB x y l = ⟨y.b, y.s, false, xu, xr⟩) := Lib.hid (fun y => by simp [goB, ← HB.out, HX.out.1, HX.out.2.1, HX.out.2.2, hi'])
      have HNN := Lib.hid hn
      have HNT := Lib.hid ht
      have b0 : w.cell? ⟨b, 0, none⟩ = some (.int .u64 l.n) := hb.cell0
      have b1 : w.cell? ⟨b, 1, none⟩ = some (.int .u64 l.t) := hb.cell 1
      have b2 : w.cell? ⟨b, 2, none⟩ = some (.bool l.g) := hb.cell 2
      have b3 : w.cell? ⟨b, 3, none⟩ = some (.int .u64 l.f) := hb.cell 3
      have b4 : w.cell? ⟨b, 4, none⟩ = some (.int .u64 l.o) := hb.cell 4
      have HN := Lib.hid (Whole.new w 131 l.c)
      have HG1 := Lib.hid (h.alloc (.cells l.c 131))
      have HK := Lib.hid ((Keep.refl (fun k => k = g) w).alloc (.cells l.c 131))
      have HGN := Lib.hid (Nat.ne_of_gt h.lt)
      clear h hb hn ht
      go_enter Tryz.func95, Tryz.ntmps95
      go_wp2
      go_step3
      go_wp2
      go_step3
      go_wp2
      refine wp_loop_rounds 2 ?_
      rw [rounds_succ]
      go_wp2_with fail
      refine (prexp_any _ _ _ _ HG1.out).mono ?_
      rintro e w' ⟨rfl, rfl⟩
      rw [HEX.out]
      go_wp2_with fail
      refine (prtake_any _ _ l.n l.t _ _ HG1.out HNN.out HNT.out).mono ?_
      rintro e w3 ⟨⟨_, rfl⟩, h3, k3⟩
      have HG3 := Lib.hid h3
      have HN3 := Lib.hid (HN.out.keep k3 HGN.out)
      have HK3 := Lib.hid (HK.out.trans k3)
      clear h3 k3 HN HG1 HK b0 b1 b2 b3 b4
      generalize w.heap.size = B at *
      generalize hy : takeB _ l.n l.t _ = y at *
      have HYI : Hid (xi = y.i ∧ xu = y.u ∧ xr = y.r) := Lib.hid (by rw [← hy]; exact ⟨HX.out.1.symm, HX.out.2.1.symm, HX.out.2.2.symm⟩)
      have HY := Lib.hid hy.symm
      clear hy
      obtain ⟨yb, ys, yi, yu, yr⟩ := y
      obtain ⟨rfl, rfl, rfl⟩ : xi = yi ∧ xu = yu ∧ xr = yr := HYI.out
      clear HYI
      have d0 : w3.cell? ⟨B, 0, none⟩ = some (.int .u64 l.n) := HN3.out.cell0
      have d2 : w3.cell? ⟨B, 2, none⟩ = some (.bool l.g) := HN3.out.cell 2
      have d3 : w3.cell? ⟨B, 3, none⟩ = some (.int .u64 l.f) := HN3.out.cell 3
      have d4 : w3.cell? ⟨B, 4, none⟩ = some (.int .u64 l.o) := HN3.out.cell 4
      have e2 : w3.cell? ⟨g, oo + 2, none⟩ = some (.bool xi) := HG3.out.whole.cell 2
      have e3 : w3.cell? ⟨g, oo + 3, none⟩ = some (.int .u64 xu) := HG3.out.whole.cell 3
      have e4 : w3.cell? ⟨g, oo + 4, none⟩ = some (.bool xr) := HG3.out.whole.cell 4
      have f2 := HG3.out.whole.free 2
      have f3 := HG3.out.whole.free 3
      have f4 := HG3.out.whole.free 4
      go_wp2
      rw [rounds_succ]
      go_wp2
      (try rw [Exit.noGoto_normal])
      (try rw [Exit.noGoto_ret])
      go_ret2
      refine ⟨ret_bb HB.out HL.out, ⟨?_, HF.out⟩, HK3.out⟩
      have hfin := HG3.out.whole
      rw [hi'] at hfin
      rw [updB, HEX.out, ← HY.out, HU.out]
      exact hfin
    · have HB : Hid (true = begB x l) := Lib.hid (by simp [begB, HEX.out, HX.out.1, hi'])
      have HU : Hid (∀ y, goB x y l = ⟨y.b, y.s, true, 0, xr⟩) := Lib.hid (fun y => by simp [goB, ← HB.out, HX.out.2.2])
      have HNN := Lib.hid hn
      have HNT := Lib.hid ht
      have b0 : w.cell? ⟨b, 0, none⟩ = some (.int .u64 l.n) := hb.cell0
      have b1 : w.cell? ⟨b, 1, none⟩ = some (.int .u64 l.t) := hb.cell 1
      have b2 : w.cell? ⟨b, 2, none⟩ = some (.bool l.g) := hb.cell 2
      have b3 : w.cell? ⟨b, 3, none⟩ = some (.int .u64 l.f) := hb.cell 3
      have b4 : w.cell? ⟨b, 4, none⟩ = some (.int .u64 l.o) := hb.cell 4
      have HN := Lib.hid (Whole.new w 131 l.c)
      have HG1 := Lib.hid (h.alloc (.cells l.c 131))
      have HK := Lib.hid ((Keep.refl (fun k => k = g) w).alloc (.cells l.c 131))
      have HGN := Lib.hid (Nat.ne_of_gt h.lt)
      clear h hb hn ht
      go_enter Tryz.func95, Tryz.ntmps95
      go_wp2
      go_step3
      go_wp2
      go_step3
      go_wp2
      refine wp_loop_rounds 2 ?_
      rw [rounds_succ]
      go_wp2_with fail
      refine (prexp_any _ _ _ _ HG1.out).mono ?_
      rintro e w' ⟨rfl, rfl⟩
      rw [HEX.out]
      go_wp2_with fail
      refine (prtake_any _ _ l.n l.t _ _ HG1.out HNN.out HNT.out).mono ?_
      rintro e w3 ⟨⟨_, rfl⟩, h3, k3⟩
      have HG3 := Lib.hid h3
      have HN3 := Lib.hid (HN.out.keep k3 HGN.out)
      have HK3 := Lib.hid (HK.out.trans k3)
      clear h3 k3 HN HG1 HK b0 b1 b2 b3 b4
      generalize w.heap.size = B at *
      generalize hy : takeB _ l.n l.t _ = y at *
      have HYI : Hid (xi = y.i ∧ xu = y.u ∧ xr = y.r) := Lib.hid (by rw [← hy]; exact ⟨HX.out.1.symm, HX.out.2.1.symm, HX.out.2.2.symm⟩)
      have HY := Lib.hid hy.symm
      clear hy
      obtain ⟨yb, ys, yi, yu, yr⟩ := y
      obtain ⟨rfl, rfl, rfl⟩ : xi = yi ∧ xu = yu ∧ xr = yr := HYI.out
      clear HYI
      have d0 : w3.cell? ⟨B, 0, none⟩ = some (.int .u64 l.n) := HN3.out.cell0
      have d2 : w3.cell? ⟨B, 2, none⟩ = some (.bool l.g) := HN3.out.cell 2
      have d3 : w3.cell? ⟨B, 3, none⟩ = some (.int .u64 l.f) := HN3.out.cell 3
      have d4 : w3.cell? ⟨B, 4, none⟩ = some (.int .u64 l.o) := HN3.out.cell 4
      have e2 : w3.cell? ⟨g, oo + 2, none⟩ = some (.bool xi) := HG3.out.whole.cell 2
      have e3 : w3.cell? ⟨g, oo + 3, none⟩ = some (.int .u64 xu) := HG3.out.whole.cell 3
      have e4 : w3.cell? ⟨g, oo + 4, none⟩ = some (.bool xr) := HG3.out.whole.cell 4
      have f2 := HG3.out.whole.free 2
      have f3 := HG3.out.whole.free 3
      have f4 := HG3.out.whole.free 4
      have HP0 := Lib.hid (HG3.out.whole.put 2 (.bool true))
      have HP1 := Lib.hid (HP0.out.put 3 (.int .u64 0))
      have g3 : (w3.setCell ⟨g, oo + 2, none⟩ (.bool true)).cell? ⟨g, oo + 3, none⟩ = some (.int .u64 xu) := HP0.out.cell 3
      have k3 := HP0.out.free 3
      have HK4 := Lib.hid ((HK3.out.setCell (p := ⟨g, oo + 2, none⟩) (.inl rfl) (.bool true)).setCell (p := ⟨g, oo + 3, none⟩) (.inl rfl) (.int .u64 0))
      go_wp2
      (try rw [Exit.noGoto_normal])
      (try rw [Exit.noGoto_ret])
      go_ret2
      refine ⟨ret_bb HB.out HL.out, ⟨?_, HF.out⟩, HK4.out⟩
      rw [updB, HEX.out, ← HY.out, HU.out]
      exact HP1.out

set_option maxHeartbeats 1000000 in
theorem prupd_any (g : Nat) (x : Prb) (l : Lok) (w : World) (h : PrbAt Fm oo w g x) (hn : Num l.n) (ht : Num l.t) :
    Calls Tryz.prog 61 #[.pointer (some ⟨g, oo, none⟩), .int .u64 l.n, .int .u64 l.t, .bool l.g, .int .u64 l.f, .int .u64 l.o] w fun e w' => e = .returned (.tuple #[.bool (begB x l), .bool (leaB x l)]) ∧ PrbAt Fm oo w' g (updB x l) ∧ Keep (fun k => k = g) w w' := by
  have HN := Lib.hid hn
  have HT := Lib.hid ht
  have HG1 := Lib.hid (h.alloc (.cells l.c 131))
  have HB := Lib.hid (Whole.new w 131 l.c)
  have HK := Lib.hid ((Keep.refl (fun k => k = g) w).alloc (.cells l.c 131))
  clear h hn ht
  go_enter Tryz.func61, Tryz.ntmps61
  go_wp2_with fail
  refine (prwalk_any _ _ _ l _ HG1.out HB.out HN.out HT.out).mono ?_
  rintro e w' ⟨rfl, h', k'⟩
  have H' := Lib.hid h'; have K' := Lib.hid (HK.out.trans k')
  clear h' k' HG1 HB HK HN HT
  go_wp2
  go_ret2
  exact ⟨rfl, H'.out, K'.out⟩
end Go.Proofs.YtcjgpkjhfbamfaaGreat
