/-
  The document's own model (canterref08.Model) in memory, its parts inside its block, its window in a block of its own: the parts' calls, bw. Conditions: numbers are of 64 bits.
  Calls within package bbr (held, bw, floor, bdp, gain, room, cruise, keep, restore): what they answer and leave. Conditions: the Model lies in memory as New makes it, be it inside a block; numbers are of 64 bits.
-/
import Derived.Test.YtcjgpkjhfbamfaaGreatJ13
import Derived.Test.YtcjgpkjhfbamfaaGreatJ14
import Derived.Test.YtcjgpkjhfbamfaaGreatJ15
import Derived.Test.YtcjgpkjhfbamfaaGreatJ16
import Derived.Test.YtcjgpkjhfbamfaaGreatJ19
import Derived.Test.YtcjgpkjhfbamfaaGreatJ21
import Derived.Test.YtcjgpkjhfbamfaaGreatChecked
import Derived.WalkSpells
import Derived.WalkLawsBesides
import Derived.LoopTactic
import Derived.LoopN
import Derived.Deep.QuietTactic
import Derived.Deep.DeepCutAuto
import Derived.Deep.Draws
import Derived.BigQuiet
import Derived.BigRegion
import Derived.Laws.ResultCell
set_option linter.unusedVariables false
set_option linter.unusedSimpArgs false
namespace Go.Proofs.YtcjgpkjhfbamfaaGreat
open Go.RowKit
set_option maxRecDepth 100000

/-- What only the document's own model holds: whether its probe saw a round, and till when it waits; its policer's rounds. -/
structure Aux where
  r : Bool
  d : Int
  n : Int
abbrev refF : Fr := ⟨83, [], []⟩
def rmL (x : Mdl) (k : Nat) (G : Int) (z : Aux) : List Value := [.int .u64 x.s, .pointer (some ⟨k, 0, none⟩), .int .u64 x.r.c, .int .u64 x.r.n, .int .u64 x.p.b, .int .i64 x.p.c, .bool (fullP x.p), .int .i64 x.c.p, .int .u64 x.c.s, .int .u64 x.q.b, .int .u64 x.q.s, .bool x.q.i, .bool (x.q.i && !(x.q.u == 0)), .bool z.r, .int .u64 z.d, .bool x.o.u, .bool x.o.m, .int .u64 x.o.b, .int .i64 z.n, .int .u64 x.o.o, .int .u64 x.o.n, .int .u64 x.o.d, .int .u64 x.o.l, .int .i64 x.m, .int .u64 x.t, .int .u64 x.w, .int .u64 G, .bool x.v, .bool x.n, .int .u64 x.u, .int .u64 x.k]
structure RMW (w : World) (g k : Nat) (x : Mdl) (G : Int) (z : Aux) : Prop where
  p : Part refF 0 w g (rmL x k G z)
  q : x.q.i = true → x.q.u ≠ 0 → z.r = x.q.r ∧ z.d = x.q.u
  o : x.o.u = true ∨ x.o.m = true → z.n = x.o.r
/-- A Model of canterref08 that answers as x does; its window in block k. -/
structure RM (w : World) (g k : Nat) (x : Mdl) (G : Int) : Prop where
  at_ : ∃ z, RMW w g k x G z
  m : WinAt w k 10 x.b false
  ne : g ≠ k
abbrev own2 (g k : Nat) : Nat → Prop := fun i => i = g ∨ i = k
section
variable {w w' : World} {g k : Nat} {x y : Mdl} {G : Int} {R : Nat → Prop} {s : Spl}
theorem RM.lt (h : RM w g k x G) : g < w.heap.size := by obtain ⟨⟨z, hz⟩, _, _⟩ := h; exact hz.p.lt
theorem RM.keep (h : RM w g k x G) (hk : Keep R w w') (hg : ¬ R g) (hk' : ¬ R k) : RM w' g k x G := by
  obtain ⟨⟨z, hz⟩, hm, hn⟩ := h
  exact ⟨⟨z, hz.p.keep hk hg, hz.q, hz.o⟩, hm.keep hk hk', hn⟩
theorem RM.kept (h : RM w g k x G) (hk : Keep (fun _ => False) w w') : RM w' g k x G := h.keep hk id id
theorem RM.drew (h : RM w g k x G) : RM w.drew g k x G := h.kept (Keep.refl _ _).drew
/-- A store into a cell of its own. -/
theorem RM.put {H : Int} (h : RM w g k x G) (i : Nat) (u : Value) (hi : i < 31) (e : ∀ z, (rmL x k G z).set i u = rmL y k H z) (hb : y.b = x.b) (hq : y.q = x.q) (ho : y.o = x.o) : RM (w.setCell ⟨g, i, none⟩ u) g k y H := by
  obtain ⟨⟨z, hz⟩, hm, hn⟩ := h
  have hp := hz.p.put i u hi
  rw [e z, Nat.zero_add] at hp
  exact ⟨⟨z, hp, by rw [hq]; exact hz.q, by rw [ho]; exact hz.o⟩, hb ▸ ⟨hm.whole.far (p := ⟨g, i, none⟩) (fun e => hn e.symm) u, hm.fit, hm.win⟩, hn⟩
theorem RM.free (h : RM w g k x G) (i : Nat) : w.frozen? ⟨g, i, none⟩ = false := by
  obtain ⟨⟨z, hz⟩, hm, hn⟩ := h
  have := hz.p.free i
  rwa [Nat.zero_add] at this
/-- Its cells. -/
theorem RM.own (h : RM w g k x G) : w.cell? ⟨g, 0, none⟩ = some (.int .u64 x.s) ∧ w.cell? ⟨g, 1, none⟩ = some (.pointer (some ⟨k, 0, none⟩)) ∧ w.cell? ⟨g, 2, none⟩ = some (.int .u64 x.r.c) ∧ w.cell? ⟨g, 6, none⟩ = some (.bool (fullP x.p)) ∧ w.cell? ⟨g, 7, none⟩ = some (.int .i64 x.c.p) ∧ w.cell? ⟨g, 9, none⟩ = some (.int .u64 x.q.b) ∧ w.cell? ⟨g, 15, none⟩ = some (.bool x.o.u) ∧ w.cell? ⟨g, 17, none⟩ = some (.int .u64 x.o.b) := by
  obtain ⟨⟨z, hz⟩, hm, hn⟩ := h
  exact ⟨hz.p.cell 0, hz.p.cell 1, hz.p.cell 2, hz.p.cell 6, hz.p.cell 7, hz.p.cell 9, hz.p.cell 15, hz.p.cell 17⟩
theorem RM.own' (h : RM w g k x G) : w.cell? ⟨g, 23, none⟩ = some (.int .i64 x.m) ∧ w.cell? ⟨g, 24, none⟩ = some (.int .u64 x.t) ∧ w.cell? ⟨g, 25, none⟩ = some (.int .u64 x.w) ∧ w.cell? ⟨g, 26, none⟩ = some (.int .u64 G) ∧ w.cell? ⟨g, 27, none⟩ = some (.bool x.v) ∧ w.cell? ⟨g, 28, none⟩ = some (.bool x.n) ∧ w.cell? ⟨g, 29, none⟩ = some (.int .u64 x.u) ∧ w.cell? ⟨g, 30, none⟩ = some (.int .u64 x.k) := by
  obtain ⟨⟨z, hz⟩, hm, hn⟩ := h
  exact ⟨hz.p.cell 23, hz.p.cell 24, hz.p.cell 25, hz.p.cell 26, hz.p.cell 27, hz.p.cell 28, hz.p.cell 29, hz.p.cell 30⟩
theorem RM.best (h : RM w g k x G) : w.cell? ⟨k, 4, none⟩ = some (.int .u64 x.b.v0) := h.m.whole.cell 4
end
abbrev rcut (x : Mdl) (k : Nat) (G : Int) (z : Aux) (i j : Nat) : Fr := refF.in_ ((rmL x k G z).take i) ((rmL x k G z).drop j)
/-! ### the parts' calls -/
section
variable {g k : Nat} {x : Mdl} {G : Int} {s : Spl}
theorem rm_rnd (w : World) (h : RM w g k x G) (hf : x.Fit) (hd : Num s.d) (hc : x.r.c < 18446744073709551615) :
    Calls Tryz.prog 40 #[.pointer (some ⟨g, 2, none⟩), s.v] w fun e w' => e = .returned (.bool (begR x.r s)) ∧ RM w' g k { x with r := updR x.r s } G ∧ Keep (fun i => i = g) w w' := by
  obtain ⟨⟨z, hz⟩, hm, hn⟩ := h
  have hr : RRndAt (rcut x k G z 2 4) 2 w g x.r := ⟨Part.sub hz.p rfl 2 rfl, hf.r⟩
  refine (rrupd_any g x.r s w hr hd hc).mono fun e w' ⟨he, h1, k1⟩ => ⟨he, ⟨⟨z, ?_, hz.q, hz.o⟩, hm.keep k1 (fun e => hn e.symm), hn⟩, k1⟩
  exact Part.sup (F := refF) (o := 0) (k := 2) (A := (rmL x k G z).take 2) (C := (rmL x k G z).drop 4) h1.whole rfl rfl
theorem rm_pip (w : World) (st lim : Bool) (bw : Int) (h : RM w g k x G) (hf : x.Fit) (hb : Num bw) :
    Calls Tryz.prog 79 #[.pointer (some ⟨g, 4, none⟩), .bool st, .bool lim, .int .u64 bw] w fun e w' => (∃ v, e = .returned v) ∧ RM w' g k { x with p := updP x.p st lim bw } G ∧ Keep (fun i => i = g) w w' := by
  obtain ⟨⟨z, hz⟩, hm, hn⟩ := h
  have hr : RPipAt (rcut x k G z 4 7) 4 w g x.p := ⟨Part.sub hz.p rfl 4 rfl, hf.p⟩
  refine (rpiupd_any g x.p st lim bw w hr hb).mono fun e w' ⟨he, h1, k1⟩ => ⟨⟨_, he⟩, ⟨⟨z, ?_, hz.q, hz.o⟩, hm.keep k1 (fun e => hn e.symm), hn⟩, k1⟩
  exact Part.sup (F := refF) (o := 0) (k := 4) (A := (rmL x k G z).take 4) (C := (rmL x k G z).drop 7) h1.whole rfl rfl
theorem rm_cyc (w : World) (l : CLok) (h : RM w g k x G) (hf : x.Fit) (hl : Num l.n) (hl0 : 0 ≤ l.l) :
    Calls Tryz.prog 77 #[.pointer (some ⟨g, 7, none⟩), .int .u64 l.n, .int .u64 l.r, .int .u64 l.l, .int .u64 l.f, .int .u64 l.u, .int .u64 l.o] w fun e w' => (∃ v, e = .returned v) ∧ RM w' g k { x with c := updC x.c l } G ∧ Keep (fun i => i = g) w w' := by
  obtain ⟨⟨z, hz⟩, hm, hn⟩ := h
  have hr : RCycAt (rcut x k G z 7 9) 7 w g x.c := ⟨Part.sub hz.p rfl 7 rfl, hf.c⟩
  refine (rcyupd_any g x.c l w hr hl hl0).mono fun e w' ⟨he, h1, k1⟩ => ⟨⟨_, he⟩, ⟨⟨z, ?_, hz.q, hz.o⟩, hm.keep k1 (fun e => hn e.symm), hn⟩, k1⟩
  exact Part.sup (F := refF) (o := 0) (k := 7) (A := (rmL x k G z).take 7) (C := (rmL x k G z).drop 9) h1.whole rfl rfl
theorem rm_start (w : World) (n : Int) (h : RM w g k x G) (hf : x.Fit) (hn0 : Num n) :
    Calls Tryz.prog 80 #[.pointer (some ⟨g, 7, none⟩), .int .u64 n, .int .i64 2] w fun e w' => (∃ v, e = .returned v) ∧ RM w' g k { x with c := startC n 2 } G ∧ Keep (fun i => i = g) w w' := by
  obtain ⟨⟨z, hz⟩, hm, hn⟩ := h
  have hr : RCycAt (rcut x k G z 7 9) 7 w g x.c := ⟨Part.sub hz.p rfl 7 rfl, hf.c⟩
  refine (rcystart_any g x.c n 2 w hr hn0 (by decide) (by decide)).mono fun e w' ⟨he, h1, k1⟩ => ⟨he, ⟨⟨z, ?_, hz.q, hz.o⟩, hm.keep k1 (fun e => hn e.symm), hn⟩, k1⟩
  exact Part.sup (F := refF) (o := 0) (k := 7) (A := (rmL x k G z).take 7) (C := (rmL x k G z).drop 9) h1.whole rfl rfl
theorem rm_gain (w : World) (h : RM w g k x G) (hf : x.Fit) :
    Calls Tryz.prog 82 #[.pointer (some ⟨g, 7, none⟩)] w fun e w' => e = .returned (.int .u64 (gainC x.c)) ∧ w = w' := by
  obtain ⟨⟨z, hz⟩, hm, hn⟩ := h
  exact rcygain_any (Fm := rcut x k G z 7 9) (oo := 7) g x.c w ⟨Part.sub hz.p rfl 7 rfl, hf.c⟩
theorem rm_prb (w : World) (l : Lok) (h : RM w g k x G) (hf : x.Fit) (hn0 : Num l.n) (ht : Num l.t) :
    Calls Tryz.prog 81 #[.pointer (some ⟨g, 9, none⟩), .int .u64 l.n, .int .u64 l.t, .bool l.g, .int .u64 l.f, .int .u64 l.o] w fun e w' => e = .returned (.tuple #[.bool (begB x.q l), .bool (leaB x.q l)]) ∧ RM w' g k { x with q := updB x.q l } G ∧ Keep (fun i => i = g) w w' := by
  obtain ⟨⟨z, hz⟩, hm, hn⟩ := h
  have hr : RPrbAt (rcut x k G z 9 15) 9 w g x.q := ⟨hf.q, z.r, z.d, Part.sub hz.p rfl 9 rfl, hz.q⟩
  refine (rprupd_any g x.q l w hr hn0 ht).mono fun e w' ⟨he, h1, k1⟩ => ⟨he, ?_, k1⟩
  obtain ⟨_, r', d', hp', hrel⟩ := h1
  refine ⟨⟨⟨r', d', z.n⟩, ?_, hrel, hz.o⟩, hm.keep k1 (fun e => hn e.symm), hn⟩
  exact Part.sup (F := refF) (o := 0) (k := 9) (A := (rmL x k G z).take 9) (C := (rmL x k G z).drop 15) hp' rfl rfl
theorem rm_pol (w : World) (st : Bool) (h : RM w g k x G) (hf : x.Fit) (hs : s.Fit) :
    Calls Tryz.prog 41 #[.pointer (some ⟨g, 15, none⟩), .bool st, s.v] w fun e w' => (∃ v, e = .returned v) ∧ RM w' g k { x with o := updPol x.o st s } G ∧ Keep (fun i => i = g) w w' := by
  obtain ⟨⟨z, hz⟩, hm, hn⟩ := h
  have hr : RPolAt (rcut x k G z 15 23) 15 w g x.o := ⟨hf.o, z.n, Part.sub hz.p rfl 15 rfl, hz.o⟩
  refine (rpupd_any g x.o st s w hr hs).mono fun e w' ⟨he, h1, k1⟩ => ⟨he, ?_, k1⟩
  obtain ⟨_, N', hp', hrel⟩ := h1
  refine ⟨⟨⟨z.r, z.d, N'⟩, ?_, hz.q, hrel⟩, hm.keep k1 (fun e => hn e.symm), hn⟩
  exact Part.sup (F := refF) (o := 0) (k := 15) (A := (rmL x k G z).take 15) (C := (rmL x k G z).drop 23) hp' rfl rfl
theorem rm_win (w : World) (t v : Int) (h : RM w g k x G) (ht : Num t) (hv : Num v) :
    Calls Tryz.prog 44 #[.pointer (some ⟨k, 0, none⟩), .int .u64 t, .int .u64 v] w fun e w' => (∃ v, e = .returned v) ∧ RM w' g k { x with b := updT false 10 x.b t v } G ∧ Keep (fun i => i = k) w w' := by
  obtain ⟨⟨z, hz⟩, hm, hn⟩ := h
  refine (rupd_is k w hm ht hv).mono fun e w' ⟨he, h1, k1⟩ => ⟨⟨_, he⟩, ⟨⟨z, ?_, hz.q, hz.o⟩, h1, hn⟩, k1⟩
  exact hz.p.keep k1 hn
set_option maxHeartbeats 400000 in
theorem rbw_any (w : World) (h : RM w g k x G) : Calls Tryz.prog 28 #[.pointer (some ⟨g, 0, none⟩)] w fun e w' => e = .returned (.int .u64 (bwM x)) ∧ w = w' := by
  obtain ⟨c0, c1, c2, c3, c4, c5, c6, c7⟩ := h.own
  have cb := h.best
  clear h
  by_cases hu : x.o.u = true
  · have HE : Hid (x.o.b = bwM x) := Lib.hid (by simp [bwM, hu])
    rw [hu] at c6
    clear hu
    go_enter Tryz.func28, Tryz.ntmps28
    go_wp2
    go_ret
    exact ⟨ret_i HE.out, rfl⟩
  · have hu : x.o.u = false := by simpa using hu
    have HE : Hid (x.b.v0 = bwM x) := Lib.hid (by simp [bwM, hu])
    rw [hu] at c6
    clear hu
    go_enter Tryz.func28, Tryz.ntmps28
    go_wp2
    go_ret
    exact ⟨ret_i HE.out, rfl⟩
theorem ret_ii {a b c d : Int} (h : a = c) (k : b = d) : Ending.returned (.tuple #[.int .u64 a, .int .u64 b]) = .returned (.tuple #[.int .u64 c, .int .u64 d]) := by rw [h, k]
set_option maxHeartbeats 1000000 in
theorem gains_any (w : World) (h : RM w g k x G) (hf : x.Fit) : Calls Tryz.prog 46 #[.pointer (some ⟨g, 0, none⟩)] w fun e w' => e = .returned (.tuple #[.int .u64 (gainM x), .int .u64 (roomM x)]) ∧ w = w' := by
  obtain ⟨c0, c1, c2, c3, c4, c5, c6, c7⟩ := h.own
  obtain ⟨m0, m1, m2, m3, m4, m5, m6, m7⟩ := h.own'
  have HY := Lib.hid (rm_gain w h hf)
  clear h hf c0 c1 c2 c3 c4 c5 c7 m1 m2 m3 m4 m5 m6 m7
  by_cases h0 : x.m = 0
  · have HE : Hid (739 = gainM x) := Lib.hid (by simp [gainM, h0])
    have HR : Hid (739 = roomM x) := Lib.hid (by simp [roomM, h0])
    have e0 : (x.m == 0) = true := by simp [h0]
    clear h0
    go_enter Tryz.func46, Tryz.ntmps46
    go_wp2
    go_ret2
    exact ⟨ret_ii HE.out HR.out, rfl⟩
  have e0 : (x.m == 0) = false := by simp [h0]
  by_cases h1 : x.m = 1
  · have HE : Hid (88 = gainM x) := Lib.hid (by simp [gainM, h1])
    have HR : Hid (739 = roomM x) := Lib.hid (by simp [roomM, h1])
    have e1 : (x.m == 1) = true := by simp [h1]
    clear h0 h1
    go_enter Tryz.func46, Tryz.ntmps46
    go_wp2
    go_ret2
    exact ⟨ret_ii HE.out HR.out, rfl⟩
  have e1 : (x.m == 1) = false := by simp [h1]
  by_cases h2 : x.m = 2
  · have e2 : (x.m == 2) = true := by simp [h2]
    have HE : Hid ((if x.o.u = true then 256 else gainC x.c) = gainM x) := Lib.hid (by simp [gainM, h2])
    have HR : Hid (512 = roomM x) := Lib.hid (by simp [roomM, h2])
    clear h0 h1 h2
    generalize x.o.u = U at *
    cases U
    · go_enter Tryz.func46, Tryz.ntmps46
      go_wp2_with fail
      refine HY.out.mono ?_
      rintro e w' ⟨rfl, rfl⟩
      go_wp2
      go_ret2
      exact ⟨ret_ii HE.out HR.out, rfl⟩
    · skip
      go_enter Tryz.func46, Tryz.ntmps46
      go_wp2
      go_ret2
      exact ⟨ret_ii HE.out HR.out, rfl⟩
  · have e2 : (x.m == 2) = false := by simp [h2]
    have HE : Hid (256 = gainM x) := Lib.hid (by simp [gainM, h0, h1, h2])
    have HR : Hid (256 = roomM x) := Lib.hid (by simp [roomM, h0, h1, h2])
    clear h0 h1 h2
    go_enter Tryz.func46, Tryz.ntmps46
    go_wp2
    go_ret2
    exact ⟨ret_ii HE.out HR.out, rfl⟩
end
end Go.Proofs.YtcjgpkjhfbamfaaGreat
set_option linter.unusedVariables false
set_option linter.unusedSimpArgs false
namespace Go.Proofs.YtcjgpkjhfbamfaaGreat
open Go.RowKit
set_option maxRecDepth 100000
variable {Fm : Fr} {oo : Nat}

set_option maxHeartbeats 400000 in
theorem held_any (g : Nat) (x : Mdl) (w : World) (h : MdlAt Fm oo w g x) (hf : x.Fit) : Calls Tryz.prog 27 #[.pointer (some ⟨g, oo, none⟩)] w fun e w' => e = .returned (.bool x.o.u) ∧ w = w' := by
  have HP := Lib.hid (h.pol hf)
  clear h hf
  go_enter Tryz.func27, Tryz.ntmps27
  go_wp2_with fail
  refine (poluse_any _ _ _ HP.out).mono ?_
  rintro e w' ⟨rfl, rfl⟩
  go_wp2
  go_ret
  exact ⟨rfl, rfl⟩
set_option maxHeartbeats 400000 in
theorem bw_any (g : Nat) (x : Mdl) (w : World) (h : MdlAt Fm oo w g x) (hf : x.Fit) : Calls Tryz.prog 22 #[.pointer (some ⟨g, oo, none⟩)] w fun e w' => e = .returned (.int .u64 (bwM x)) ∧ w = w' := by
  have HP := Lib.hid (h.pol hf)
  have HM := Lib.hid (h.max hf)
  clear h hf
  by_cases hu : x.o.u = true
  · have HE : Hid (useV x.o = bwM x) := Lib.hid (by simp [useV, bwM, hu])
    go_enter Tryz.func22, Tryz.ntmps22
    go_wp2_with fail
    refine (poluse_any _ _ _ HP.out).mono ?_
    rintro e w' ⟨rfl, rfl⟩
    go_wp2
    go_ret
    exact ⟨ret_i HE.out, rfl⟩
  · have hu : x.o.u = false := by simpa using hu
    have HE : Hid (x.b.v0 = bwM x) := Lib.hid (by simp [bwM, hu])
    go_enter Tryz.func22, Tryz.ntmps22
    go_wp2_with fail
    refine (poluse_any _ _ _ HP.out).mono ?_
    rintro e w' ⟨rfl, rfl⟩
    go_wp2_with fail
    refine (xbest_any _ _ _ _ HM.out).mono ?_
    rintro e w' ⟨rfl, rfl⟩
    go_wp2
    go_ret
    exact ⟨ret_i HE.out, rfl⟩
set_option maxHeartbeats 400000 in
theorem floor_any (g : Nat) (x : Mdl) (w : World) (h : MdlAt Fm oo w g x) (hf : x.Fit) : Calls Tryz.prog 62 #[.pointer (some ⟨g, oo, none⟩)] w fun e w' => e = .returned (.int .u64 (floorM x)) ∧ w = w' := by
  have c : w.cell? ⟨g, oo + 27, none⟩ = some (.int .u64 x.s) := Part.cell h 27
  have HS := Lib.hid hf.mss
  have HE : Hid (satMul 4 x.s = floorM x) := Lib.hid rfl
  clear h hf
  go_enter Tryz.func62, Tryz.ntmps62
  go_wp2_with fail
  refine (mul_any _ _ (by decide) (by decide) HS.out.1 HS.out.2 _).mono ?_
  rintro e w' ⟨rfl, rfl⟩
  go_wp2
  go_ret
  exact ⟨ret_i HE.out, rfl⟩
set_option maxHeartbeats 1000000 in
theorem bdp_M (g : Nat) (x : Mdl) (gn : Int) (w : World) (h : MdlAt Fm oo w g x) (hf : x.Fit) (hg : Num gn) : Calls Tryz.prog 58 #[.pointer (some ⟨g, oo, none⟩), .int .u64 gn] w fun e w' => e = .returned (.int .u64 (bdpM x gn)) ∧ Keep (fun _ => False) w w' := by
  have CB := Lib.hid (bw_any g x w.drew h.drew hf)
  have CP := Lib.hid (prbest_any _ _ w.drew (h.drew.prb hf))
  have HB := Lib.hid (bwM_num hf)
  have HQ := Lib.hid hf.q.b
  have HG := Lib.hid hg
  have HE : Hid (bdpV (bwM x) x.q.b gn = bdpM x gn) := Lib.hid rfl
  clear h hf hg
  go_enter Tryz.func58, Tryz.ntmps58
  go_upto_region 1 with fail
  refine wp_region_sch (fun _ => True) [(true, 0), (true, 2), (true, 3), (true, 4), (true, 6), (false, 1), (false, 5), (false, 7), (true, 8)] (by kernel_rfl) (by kernel_rfl) (by kernel_rfl) (by kernel_rfl) trivial ?_
  (repeat (refine wpSch_yes (v := ?_) rfl (fun _ _ _ h => h) (by rfl) ?_ ?_; rotate_left; (next => (intro w hSw; clear hSw; go_simp; (try with_reducible rfl))); (try simp only [Act.put, List.setIfInBounds_toArray, List.set_cons_zero, List.set_cons_succ])))
  refine wpSch_call rfl (by rfl) (fun K hK => ?_)
  go_simp
  refine CB.out.mono ?_
  rintro e w' ⟨rfl, rfl⟩
  refine hK.out _ _ trivial (fun hHeld => ?_)
  clear hK K hHeld
  (try simp only [Act.put, List.setIfInBounds_toArray, List.set_cons_zero, List.set_cons_succ])
  refine wpSch_call rfl (by rfl) (fun K hK => ?_)
  go_simp
  refine CP.out.mono ?_
  rintro e w' ⟨rfl, rfl⟩
  refine hK.out _ _ trivial (fun hHeld => ?_)
  clear hK K hHeld
  (try simp only [Act.put, List.setIfInBounds_toArray, List.set_cons_zero, List.set_cons_succ])
  refine wpSch_call rfl (by rfl) (fun K hK => ?_)
  go_simp
  refine (bdp_any _ _ _ HB.out.1 HB.out.2 HQ.out.1 HQ.out.2 HG.out.1 HG.out.2 _).mono ?_
  rintro e w1 ⟨rfl, k1⟩
  have K1 := Lib.hid ((Keep.refl (fun _ => False) w).drew.trans k1); clear k1
  refine hK.out _ _ trivial (fun hHeld => ?_)
  clear hK K hHeld
  (try simp only [Act.put, List.setIfInBounds_toArray, List.set_cons_zero, List.set_cons_succ])
  (repeat (refine wpSch_yes (v := ?_) rfl (fun _ _ _ h => h) (by rfl) ?_ ?_; rotate_left; (next => (intro w hSw; clear hSw; go_simp; (try with_reducible rfl))); (try simp only [Act.put, List.setIfInBounds_toArray, List.set_cons_zero, List.set_cons_succ])))
  refine wpSch_nil ?_
  go_wp2
  go_ret
  exact ⟨ret_i HE.out, K1.out⟩
set_option maxHeartbeats 1000000 in
theorem gain_any (g : Nat) (x : Mdl) (w : World) (h : MdlAt Fm oo w g x) (hf : x.Fit) : Calls Tryz.prog 24 #[.pointer (some ⟨g, oo, none⟩)] w fun e w' => e = .returned (.int .u64 (gainM x)) ∧ w = w' := by
  have c : w.cell? ⟨g, oo + 28, none⟩ = some (.int .i64 x.m) := Part.cell h 28
  have HC := Lib.hid (held_any g x w h hf)
  have HY := Lib.hid (h.cyc hf)
  clear h hf
  by_cases h0 : x.m = 0
  · have HE : Hid (739 = gainM x) := Lib.hid (by simp [gainM, h0])
    have e0 : (x.m == 0) = true := by simp [h0]
    clear h0
    go_enter Tryz.func24, Tryz.ntmps24
    go_wp2
    go_ret
    exact ⟨ret_i HE.out, rfl⟩
  have e0 : (x.m == 0) = false := by simp [h0]
  by_cases h1 : x.m = 1
  · have HE : Hid (88 = gainM x) := Lib.hid (by simp [gainM, h1])
    have e1 : (x.m == 1) = true := by simp [h1]
    clear h0 h1
    go_enter Tryz.func24, Tryz.ntmps24
    go_wp2
    go_ret
    exact ⟨ret_i HE.out, rfl⟩
  have e1 : (x.m == 1) = false := by simp [h1]
  by_cases h2 : x.m = 2
  · have e2 : (x.m == 2) = true := by simp [h2]
    have HE : Hid ((if x.o.u = true then 256 else gainC x.c) = gainM x) := Lib.hid (by simp [gainM, h2])
    clear h0 h1 h2
    go_enter Tryz.func24, Tryz.ntmps24
    go_wp2_with fail
    refine HC.out.mono ?_
    rintro e w' ⟨rfl, rfl⟩
    generalize x.o.u = U at *
    cases U
    · go_wp2_with fail
      refine (cygain_any _ _ _ HY.out).mono ?_
      rintro e w' ⟨rfl, rfl⟩
      go_wp2
      go_ret
      exact ⟨ret_i HE.out, rfl⟩
    · go_wp2
      go_ret
      exact ⟨ret_i HE.out, rfl⟩
  · have e2 : (x.m == 2) = false := by simp [h2]
    have HE : Hid (256 = gainM x) := Lib.hid (by simp [gainM, h0, h1, h2])
    clear h0 h1 h2
    go_enter Tryz.func24, Tryz.ntmps24
    go_wp2
    go_ret
    exact ⟨ret_i HE.out, rfl⟩
set_option maxHeartbeats 1000000 in
theorem room_any (g : Nat) (x : Mdl) (w : World) (h : MdlAt Fm oo w g x) : Calls Tryz.prog 99 #[.pointer (some ⟨g, oo, none⟩)] w fun e w' => e = .returned (.int .u64 (roomM x)) ∧ w = w' := by
  have c : w.cell? ⟨g, oo + 28, none⟩ = some (.int .i64 x.m) := Part.cell h 28
  clear h
  by_cases h0 : x.m = 0
  · have HE : Hid (739 = roomM x) := Lib.hid (by simp [roomM, h0])
    have e0 : (x.m == 0) = true := by simp [h0]
    clear h0
    go_enter Tryz.func99, Tryz.ntmps99
    go_wp2
    go_ret
    exact ⟨ret_i HE.out, rfl⟩
  have e0 : (x.m == 0) = false := by simp [h0]
  by_cases h1 : x.m = 1
  · have HE : Hid (739 = roomM x) := Lib.hid (by simp [roomM, h1])
    have e1 : (x.m == 1) = true := by simp [h1]
    clear h0 h1
    go_enter Tryz.func99, Tryz.ntmps99
    go_wp2
    go_ret
    exact ⟨ret_i HE.out, rfl⟩
  have e1 : (x.m == 1) = false := by simp [h1]
  by_cases h2 : x.m = 2
  · have e2 : (x.m == 2) = true := by simp [h2]
    have HE : Hid (512 = roomM x) := Lib.hid (by simp [roomM, h2])
    clear h0 h1 h2
    go_enter Tryz.func99, Tryz.ntmps99
    go_wp2
    go_ret
    exact ⟨ret_i HE.out, rfl⟩
  · have e2 : (x.m == 2) = false := by simp [h2]
    have HE : Hid (256 = roomM x) := Lib.hid (by simp [roomM, h0, h1, h2])
    clear h0 h1 h2
    go_enter Tryz.func99, Tryz.ntmps99
    go_wp2
    go_ret
    exact ⟨ret_i HE.out, rfl⟩
set_option maxHeartbeats 1000000 in
theorem cruise_any (g : Nat) (x : Mdl) (n : Int) (w : World) (h : MdlAt Fm oo w g x) (hf : x.Fit) (hn : Num n) : Calls Tryz.prog 60 #[.pointer (some ⟨g, oo, none⟩), .int .u64 n] w fun e w' => (∃ v, e = .returned v) ∧ MdlAt Fm oo w' g (cruM x n) ∧ Keep (fun k => k = g) w w' := by
  have c : w.cell? ⟨g, oo + 28, none⟩ = some (.int .i64 x.m) := Part.cell h 28
  have f := Part.free h 28
  have HN := Lib.hid hn
  have HM : Hid (MdlAt Fm oo (w.setCell ⟨g, oo + 28, none⟩ (.int .i64 2)) g { x with m := 2 }) := Lib.hid (Part.put h 28 (.int .i64 2))
  have HY := Lib.hid (HM.out.cyc (hf.mode (by decide) (by decide)))
  have HK := Lib.hid ((Keep.refl (fun k => k = g) w).setCell (p := ⟨g, oo + 28, none⟩) (.inl rfl) (.int .i64 2))
  clear h hf hn
  go_enter Tryz.func60, Tryz.ntmps60
  go_wp2_with fail
  refine (cystart_any _ _ n 2 _ HY.out HN.out).mono ?_
  rintro e w1 ⟨⟨_, rfl⟩, h1, k1⟩
  have H1 := Lib.hid h1; have K1 := Lib.hid (HK.out.trans k1); clear h1 k1
  go_wp2
  go_end0
  exact ⟨⟨_, rfl⟩, MdlAt.cyc' H1.out, K1.out⟩
set_option maxHeartbeats 1000000 in
theorem keep_any (g : Nat) (x : Mdl) (w : World) (h : MdlAt Fm oo w g x) : Calls Tryz.prog 63 #[.pointer (some ⟨g, oo, none⟩)] w fun e w' => (∃ v, e = .returned v) ∧ MdlAt Fm oo w' g (keepM x) ∧ Keep (fun k => k = g) w w' := by
  have c0 : w.cell? ⟨g, oo + 30, none⟩ = some (.int .u64 x.w) := Part.cell h 30
  have c1 : w.cell? ⟨g, oo + 31, none⟩ = some (.int .u64 x.k) := Part.cell h 31
  have f := Part.free h 31
  rcases Int.lt_trichotomy x.k x.w with hl | hl | hl
  · obtain ⟨W, hW⟩ : ∃ W, W = x.w := ⟨_, rfl⟩
    have HE : Hid (keepM x = { x with k := W }) := Lib.hid (by subst hW; simp [keepM, maxI, hl])
    have hn : ¬ x.w < x.k := by omega
    rw [← hW] at c0 hl hn
    clear hW
    have HM : Hid (MdlAt Fm oo (w.setCell ⟨g, oo + 31, none⟩ (.int .u64 W)) g { x with k := W }) := Lib.hid (Part.put h 31 (.int .u64 W))
    have HK := Lib.hid ((Keep.refl (fun k => k = g) w).setCell (p := ⟨g, oo + 31, none⟩) (.inl rfl) (.int .u64 W))
    clear h
    go_enter Tryz.func63, Tryz.ntmps63
    go_region
    go_wp2
    go_end0
    exact ⟨⟨_, rfl⟩, by rw [HE.out]; exact HM.out, HK.out.drew⟩
  · obtain ⟨W, hW⟩ : ∃ W, W = x.k := ⟨_, rfl⟩
    have HE : Hid (keepM x = { x with k := W }) := Lib.hid (by subst hW; simp [keepM, maxI, hl])
    rw [← hl, ← hW] at c0
    rw [← hW] at c1
    have hn : ¬ W < W := by omega
    clear hl hW
    have HM : Hid (MdlAt Fm oo (w.setCell ⟨g, oo + 31, none⟩ (.int .u64 W)) g { x with k := W }) := Lib.hid (Part.put h 31 (.int .u64 W))
    have HK := Lib.hid ((Keep.refl (fun k => k = g) w).setCell (p := ⟨g, oo + 31, none⟩) (.inl rfl) (.int .u64 W))
    clear h
    go_enter Tryz.func63, Tryz.ntmps63
    go_region
    go_wp2
    go_end0
    exact ⟨⟨_, rfl⟩, by rw [HE.out]; exact HM.out, HK.out.drew⟩
  · obtain ⟨W, hW⟩ : ∃ W, W = x.k := ⟨_, rfl⟩
    have hn : ¬ x.k < x.w := by omega
    have HE : Hid (keepM x = { x with k := W }) := Lib.hid (by subst hW; simp [keepM, maxI, hn])
    rw [← hW] at c1 hl hn
    clear hW
    have HM : Hid (MdlAt Fm oo (w.setCell ⟨g, oo + 31, none⟩ (.int .u64 W)) g { x with k := W }) := Lib.hid (Part.put h 31 (.int .u64 W))
    have HK := Lib.hid ((Keep.refl (fun k => k = g) w).setCell (p := ⟨g, oo + 31, none⟩) (.inl rfl) (.int .u64 W))
    clear h
    go_enter Tryz.func63, Tryz.ntmps63
    go_region
    go_wp2
    go_end0
    exact ⟨⟨_, rfl⟩, by rw [HE.out]; exact HM.out, HK.out.drew⟩
set_option maxHeartbeats 1000000 in
theorem restore_any (g : Nat) (x : Mdl) (w : World) (h : MdlAt Fm oo w g x) : Calls Tryz.prog 64 #[.pointer (some ⟨g, oo, none⟩)] w fun e w' => (∃ v, e = .returned v) ∧ MdlAt Fm oo w' g (resM x) ∧ Keep (fun k => k = g) w w' := by
  have c0 : w.cell? ⟨g, oo + 30, none⟩ = some (.int .u64 x.w) := Part.cell h 30
  have c1 : w.cell? ⟨g, oo + 31, none⟩ = some (.int .u64 x.k) := Part.cell h 31
  have f0 := Part.free h 30
  have f1 := Part.free h 31
  rcases Int.lt_trichotomy x.w x.k with hl | hl | hl
  · obtain ⟨W, hW⟩ : ∃ W, W = x.k := ⟨_, rfl⟩
    have HE : Hid (resM x = { x with w := W, k := 0 }) := Lib.hid (by subst hW; simp [resM, maxI, hl])
    have hn : ¬ x.k < x.w := by omega
    rw [← hW] at c1 hl hn
    clear hW
    have HM1 : Hid (MdlAt Fm oo (w.setCell ⟨g, oo + 30, none⟩ (.int .u64 W)) g { x with w := W }) := Lib.hid (Part.put h 30 (.int .u64 W))
    have c2 : (w.setCell ⟨g, oo + 30, none⟩ (.int .u64 W)).cell? ⟨g, oo + 31, none⟩ = some (.int .u64 x.k) := Part.cell HM1.out 31
    have f2 := Part.free HM1.out 31
    have HM : Hid (MdlAt Fm oo ((w.setCell ⟨g, oo + 30, none⟩ (.int .u64 W)).setCell ⟨g, oo + 31, none⟩ (.int .u64 0)) g { x with w := W, k := 0 }) := Lib.hid (Part.put HM1.out 31 (.int .u64 0))
    have HK := Lib.hid (((Keep.refl (fun k => k = g) w).setCell (p := ⟨g, oo + 30, none⟩) (.inl rfl) (.int .u64 W)).setCell (p := ⟨g, oo + 31, none⟩) (.inl rfl) (.int .u64 0))
    clear h
    go_enter Tryz.func64, Tryz.ntmps64
    go_region
    go_wp2
    go_end0
    exact ⟨⟨_, rfl⟩, by rw [HE.out]; exact HM.out, HK.out.drew⟩
  · obtain ⟨W, hW⟩ : ∃ W, W = x.w := ⟨_, rfl⟩
    have HE : Hid (resM x = { x with w := W, k := 0 }) := Lib.hid (by subst hW; simp [resM, maxI, hl])
    rw [← hl, ← hW] at c1
    rw [← hW] at c0
    have hn : ¬ W < W := by omega
    clear hl hW
    have HM1 : Hid (MdlAt Fm oo (w.setCell ⟨g, oo + 30, none⟩ (.int .u64 W)) g { x with w := W }) := Lib.hid (Part.put h 30 (.int .u64 W))
    have c2 : (w.setCell ⟨g, oo + 30, none⟩ (.int .u64 W)).cell? ⟨g, oo + 31, none⟩ = some (.int .u64 x.k) := Part.cell HM1.out 31
    have f2 := Part.free HM1.out 31
    have HM : Hid (MdlAt Fm oo ((w.setCell ⟨g, oo + 30, none⟩ (.int .u64 W)).setCell ⟨g, oo + 31, none⟩ (.int .u64 0)) g { x with w := W, k := 0 }) := Lib.hid (Part.put HM1.out 31 (.int .u64 0))
    have HK := Lib.hid (((Keep.refl (fun k => k = g) w).setCell (p := ⟨g, oo + 30, none⟩) (.inl rfl) (.int .u64 W)).setCell (p := ⟨g, oo + 31, none⟩) (.inl rfl) (.int .u64 0))
    clear h
    go_enter Tryz.func64, Tryz.ntmps64
    go_region
    go_wp2
    go_end0
    exact ⟨⟨_, rfl⟩, by rw [HE.out]; exact HM.out, HK.out.drew⟩
  · obtain ⟨W, hW⟩ : ∃ W, W = x.w := ⟨_, rfl⟩
    have hn : ¬ x.w < x.k := by omega
    have HE : Hid (resM x = { x with w := W, k := 0 }) := Lib.hid (by subst hW; simp [resM, maxI, hn])
    rw [← hW] at c0 hl hn
    clear hW
    have HM1 : Hid (MdlAt Fm oo (w.setCell ⟨g, oo + 30, none⟩ (.int .u64 W)) g { x with w := W }) := Lib.hid (Part.put h 30 (.int .u64 W))
    have c2 : (w.setCell ⟨g, oo + 30, none⟩ (.int .u64 W)).cell? ⟨g, oo + 31, none⟩ = some (.int .u64 x.k) := Part.cell HM1.out 31
    have f2 := Part.free HM1.out 31
    have HM : Hid (MdlAt Fm oo ((w.setCell ⟨g, oo + 30, none⟩ (.int .u64 W)).setCell ⟨g, oo + 31, none⟩ (.int .u64 0)) g { x with w := W, k := 0 }) := Lib.hid (Part.put HM1.out 31 (.int .u64 0))
    have HK := Lib.hid (((Keep.refl (fun k => k = g) w).setCell (p := ⟨g, oo + 30, none⟩) (.inl rfl) (.int .u64 W)).setCell (p := ⟨g, oo + 31, none⟩) (.inl rfl) (.int .u64 0))
    clear h
    go_enter Tryz.func64, Tryz.ntmps64
    go_region
    go_wp2
    go_end0
    exact ⟨⟨_, rfl⟩, by rw [HE.out]; exact HM.out, HK.out.drew⟩
end Go.Proofs.YtcjgpkjhfbamfaaGreat
