/-
  The document's own model (canterref08.Model) in memory, its parts inside its block, its window in a block of its own: the parts' calls, bw. Conditions: numbers are of 64 bits.
-/
import Derived.Test.YtbimmadllfgmiaaGreatBbrSt
import Derived.Test.YtbimmadllfgmiaaGreatRefRndI
import Derived.Test.YtbimmadllfgmiaaGreatRefPipI
import Derived.Test.YtbimmadllfgmiaaGreatRefCyc
import Derived.Test.YtbimmadllfgmiaaGreatRefPrbI
import Derived.Test.YtbimmadllfgmiaaGreatRefPolVI
import Derived.Test.YtbimmadllfgmiaaGreatWinRefU
set_option linter.unusedVariables false
set_option linter.unusedSimpArgs false
namespace Go.Proofs.YtbimmadllfgmiaaGreat
open Go.RowKit
set_option maxRecDepth 100000

/-- What only the document's own model holds: whether its probe saw a round, and till when it waits; its policer's rounds. -/
structure Aux where
  r : Bool
  d : Int
  n : Int
abbrev refF : Fr := ⟨83, [], []⟩
def rmL (x : Mdl) (k : Nat) (G : Int) (z : Aux) : List Value := [.int .u64 x.s, .pointer (some ⟨k, 0, none⟩), .int .u64 x.r.c, .int .u64 x.r.n, .int .u64 x.p.b, .int .i64 x.p.c, .bool (fullP x.p), .int .i64 x.c.p, .int .u64 x.c.s, .int .u64 x.q.b, .int .u64 x.q.s, .bool x.q.i, .bool (x.q.i && !(x.q.u == 0)), .bool z.r, .int .u64 z.d, .bool x.o.u, .bool x.o.m, .int .u64 x.o.b, .int .i64 z.n, .int .u64 x.o.o, .int .u64 x.o.n, .int .u64 x.o.d, .int .u64 x.o.l, .int .i64 x.m, .int .u64 x.t, .int .u64 x.w, .int .u64 G, .bool x.v, .bool x.n, .int .u64 x.u, .int .u64 x.k]
structure RMW (w : World) (g k : Nat) (x : Mdl) (G : Int) (z : Aux) : Prop where
  p : Part refF 0 w g (rmL x k G z)
  q : x.q.i = true → x.q.u ≠ 0 → z.r = x.q.r ∧ z.d = x.q.u
  o : x.o.u = true ∨ x.o.m = true → z.n = x.o.r
/-- A Model of canterref08 that answers as x does; its window in block k. -/
structure RM (w : World) (g k : Nat) (x : Mdl) (G : Int) : Prop where
  at_ : ∃ z, RMW w g k x G z
  m : WinAt w k 10 x.b false
  ne : g ≠ k
abbrev own2 (g k : Nat) : Nat → Prop := fun i => i = g ∨ i = k
section
variable {w w' : World} {g k : Nat} {x y : Mdl} {G : Int} {R : Nat → Prop} {s : Spl}
theorem RM.lt (h : RM w g k x G) : g < w.heap.size := by obtain ⟨⟨z, hz⟩, _, _⟩ := h; exact hz.p.lt
theorem RM.keep (h : RM w g k x G) (hk : Keep R w w') (hg : ¬ R g) (hk' : ¬ R k) : RM w' g k x G := by
  obtain ⟨⟨z, hz⟩, hm, hn⟩ := h
  exact ⟨⟨z, hz.p.keep hk hg, hz.q, hz.o⟩, hm.keep hk hk', hn⟩
theorem RM.kept (h : RM w g k x G) (hk : Keep (fun _ => False) w w') : RM w' g k x G := h.keep hk id id
theorem RM.drew (h : RM w g k x G) : RM w.drew g k x G := h.kept (Keep.refl _ _).drew
/-- A store into a cell of its own. -/
theorem RM.put {H : Int} (h : RM w g k x G) (i : Nat) (u : Value) (hi : i < 31) (e : ∀ z, (rmL x k G z).set i u = rmL y k H z) (hb : y.b = x.b) (hq : y.q = x.q) (ho : y.o = x.o) : RM (w.setCell ⟨g, i, none⟩ u) g k y H := by
  obtain ⟨⟨z, hz⟩, hm, hn⟩ := h
  have hp := hz.p.put i u hi
  rw [e z, Nat.zero_add] at hp
  exact ⟨⟨z, hp, by rw [hq]; exact hz.q, by rw [ho]; exact hz.o⟩, hb ▸ ⟨hm.whole.far (p := ⟨g, i, none⟩) (fun e => hn e.symm) u, hm.fit, hm.win⟩, hn⟩
theorem RM.free (h : RM w g k x G) (i : Nat) : w.frozen? ⟨g, i, none⟩ = false := by
  obtain ⟨⟨z, hz⟩, hm, hn⟩ := h
  have := hz.p.free i
  rwa [Nat.zero_add] at this
/-- Its cells. -/
theorem RM.own (h : RM w g k x G) : w.cell? ⟨g, 0, none⟩ = some (.int .u64 x.s) ∧ w.cell? ⟨g, 1, none⟩ = some (.pointer (some ⟨k, 0, none⟩)) ∧ w.cell? ⟨g, 2, none⟩ = some (.int .u64 x.r.c) ∧ w.cell? ⟨g, 6, none⟩ = some (.bool (fullP x.p)) ∧ w.cell? ⟨g, 7, none⟩ = some (.int .i64 x.c.p) ∧ w.cell? ⟨g, 9, none⟩ = some (.int .u64 x.q.b) ∧ w.cell? ⟨g, 15, none⟩ = some (.bool x.o.u) ∧ w.cell? ⟨g, 17, none⟩ = some (.int .u64 x.o.b) := by
  obtain ⟨⟨z, hz⟩, hm, hn⟩ := h
  exact ⟨hz.p.cell 0, hz.p.cell 1, hz.p.cell 2, hz.p.cell 6, hz.p.cell 7, hz.p.cell 9, hz.p.cell 15, hz.p.cell 17⟩
theorem RM.own' (h : RM w g k x G) : w.cell? ⟨g, 23, none⟩ = some (.int .i64 x.m) ∧ w.cell? ⟨g, 24, none⟩ = some (.int .u64 x.t) ∧ w.cell? ⟨g, 25, none⟩ = some (.int .u64 x.w) ∧ w.cell? ⟨g, 26, none⟩ = some (.int .u64 G) ∧ w.cell? ⟨g, 27, none⟩ = some (.bool x.v) ∧ w.cell? ⟨g, 28, none⟩ = some (.bool x.n) ∧ w.cell? ⟨g, 29, none⟩ = some (.int .u64 x.u) ∧ w.cell? ⟨g, 30, none⟩ = some (.int .u64 x.k) := by
  obtain ⟨⟨z, hz⟩, hm, hn⟩ := h
  exact ⟨hz.p.cell 23, hz.p.cell 24, hz.p.cell 25, hz.p.cell 26, hz.p.cell 27, hz.p.cell 28, hz.p.cell 29, hz.p.cell 30⟩
theorem RM.best (h : RM w g k x G) : w.cell? ⟨k, 4, none⟩ = some (.int .u64 x.b.v0) := h.m.whole.cell 4
end
abbrev rcut (x : Mdl) (k : Nat) (G : Int) (z : Aux) (i j : Nat) : Fr := refF.in_ ((rmL x k G z).take i) ((rmL x k G z).drop j)
/-! ### the parts' calls -/
section
variable {g k : Nat} {x : Mdl} {G : Int} {s : Spl}
theorem rm_rnd (w : World) (h : RM w g k x G) (hf : x.Fit) (hd : Num s.d) (hc : x.r.c < 18446744073709551615) :
    Calls Tryz.prog 40 #[.pointer (some ⟨g, 2, none⟩), s.v] w fun e w' => e = .returned (.bool (begR x.r s)) ∧ RM w' g k { x with r := updR x.r s } G ∧ Keep (fun i => i = g) w w' := by
  obtain ⟨⟨z, hz⟩, hm, hn⟩ := h
  have hr : RRndAt (rcut x k G z 2 4) 2 w g x.r := ⟨Part.sub hz.p rfl 2 rfl, hf.r⟩
  refine (rrupd_any g x.r s w hr hd hc).mono fun e w' ⟨he, h1, k1⟩ => ⟨he, ⟨⟨z, ?_, hz.q, hz.o⟩, hm.keep k1 (fun e => hn e.symm), hn⟩, k1⟩
  exact Part.sup (F := refF) (o := 0) (k := 2) (A := (rmL x k G z).take 2) (C := (rmL x k G z).drop 4) h1.whole rfl rfl
theorem rm_pip (w : World) (st lim : Bool) (bw : Int) (h : RM w g k x G) (hf : x.Fit) (hb : Num bw) :
    Calls Tryz.prog 79 #[.pointer (some ⟨g, 4, none⟩), .bool st, .bool lim, .int .u64 bw] w fun e w' => (∃ v, e = .returned v) ∧ RM w' g k { x with p := updP x.p st lim bw } G ∧ Keep (fun i => i = g) w w' := by
  obtain ⟨⟨z, hz⟩, hm, hn⟩ := h
  have hr : RPipAt (rcut x k G z 4 7) 4 w g x.p := ⟨Part.sub hz.p rfl 4 rfl, hf.p⟩
  refine (rpiupd_any g x.p st lim bw w hr hb).mono fun e w' ⟨he, h1, k1⟩ => ⟨⟨_, he⟩, ⟨⟨z, ?_, hz.q, hz.o⟩, hm.keep k1 (fun e => hn e.symm), hn⟩, k1⟩
  exact Part.sup (F := refF) (o := 0) (k := 4) (A := (rmL x k G z).take 4) (C := (rmL x k G z).drop 7) h1.whole rfl rfl
theorem rm_cyc (w : World) (l : CLok) (h : RM w g k x G) (hf : x.Fit) (hl : Num l.n) (hl0 : 0 ≤ l.l) :
    Calls Tryz.prog 77 #[.pointer (some ⟨g, 7, none⟩), .int .u64 l.n, .int .u64 l.r, .int .u64 l.l, .int .u64 l.f, .int .u64 l.u, .int .u64 l.o] w fun e w' => (∃ v, e = .returned v) ∧ RM w' g k { x with c := updC x.c l } G ∧ Keep (fun i => i = g) w w' := by
  obtain ⟨⟨z, hz⟩, hm, hn⟩ := h
  have hr : RCycAt (rcut x k G z 7 9) 7 w g x.c := ⟨Part.sub hz.p rfl 7 rfl, hf.c⟩
  refine (rcyupd_any g x.c l w hr hl hl0).mono fun e w' ⟨he, h1, k1⟩ => ⟨⟨_, he⟩, ⟨⟨z, ?_, hz.q, hz.o⟩, hm.keep k1 (fun e => hn e.symm), hn⟩, k1⟩
  exact Part.sup (F := refF) (o := 0) (k := 7) (A := (rmL x k G z).take 7) (C := (rmL x k G z).drop 9) h1.whole rfl rfl
theorem rm_start (w : World) (n : Int) (h : RM w g k x G) (hf : x.Fit) (hn0 : Num n) :
    Calls Tryz.prog 80 #[.pointer (some ⟨g, 7, none⟩), .int .u64 n, .int .i64 2] w fun e w' => (∃ v, e = .returned v) ∧ RM w' g k { x with c := startC n 2 } G ∧ Keep (fun i => i = g) w w' := by
  obtain ⟨⟨z, hz⟩, hm, hn⟩ := h
  have hr : RCycAt (rcut x k G z 7 9) 7 w g x.c := ⟨Part.sub hz.p rfl 7 rfl, hf.c⟩
  refine (rcystart_any g x.c n 2 w hr hn0 (by decide) (by decide)).mono fun e w' ⟨he, h1, k1⟩ => ⟨he, ⟨⟨z, ?_, hz.q, hz.o⟩, hm.keep k1 (fun e => hn e.symm), hn⟩, k1⟩
  exact Part.sup (F := refF) (o := 0) (k := 7) (A := (rmL x k G z).take 7) (C := (rmL x k G z).drop 9) h1.whole rfl rfl
theorem rm_gain (w : World) (h : RM w g k x G) (hf : x.Fit) :
    Calls Tryz.prog 82 #[.pointer (some ⟨g, 7, none⟩)] w fun e w' => e = .returned (.int .u64 (gainC x.c)) ∧ w = w' := by
  obtain ⟨⟨z, hz⟩, hm, hn⟩ := h
  exact rcygain_any (Fm := rcut x k G z 7 9) (oo := 7) g x.c w ⟨Part.sub hz.p rfl 7 rfl, hf.c⟩
theorem rm_prb (w : World) (l : Lok) (h : RM w g k x G) (hf : x.Fit) (hn0 : Num l.n) (ht : Num l.t) :
    Calls Tryz.prog 81 #[.pointer (some ⟨g, 9, none⟩), .int .u64 l.n, .int .u64 l.t, .bool l.g, .int .u64 l.f, .int .u64 l.o] w fun e w' => e = .returned (.tuple #[.bool (begB x.q l), .bool (leaB x.q l)]) ∧ RM w' g k { x with q := updB x.q l } G ∧ Keep (fun i => i = g) w w' := by
  obtain ⟨⟨z, hz⟩, hm, hn⟩ := h
  have hr : RPrbAt (rcut x k G z 9 15) 9 w g x.q := ⟨hf.q, z.r, z.d, Part.sub hz.p rfl 9 rfl, hz.q⟩
  refine (rprupd_any g x.q l w hr hn0 ht).mono fun e w' ⟨he, h1, k1⟩ => ⟨he, ?_, k1⟩
  obtain ⟨_, r', d', hp', hrel⟩ := h1
  refine ⟨⟨⟨r', d', z.n⟩, ?_, hrel, hz.o⟩, hm.keep k1 (fun e => hn e.symm), hn⟩
  exact Part.sup (F := refF) (o := 0) (k := 9) (A := (rmL x k G z).take 9) (C := (rmL x k G z).drop 15) hp' rfl rfl
theorem rm_pol (w : World) (st : Bool) (h : RM w g k x G) (hf : x.Fit) (hs : s.Fit) :
    Calls Tryz.prog 41 #[.pointer (some ⟨g, 15, none⟩), .bool st, s.v] w fun e w' => (∃ v, e = .returned v) ∧ RM w' g k { x with o := updPol x.o st s } G ∧ Keep (fun i => i = g) w w' := by
  obtain ⟨⟨z, hz⟩, hm, hn⟩ := h
  have hr : RPolAt (rcut x k G z 15 23) 15 w g x.o := ⟨hf.o, z.n, Part.sub hz.p rfl 15 rfl, hz.o⟩
  refine (rpupd_any g x.o st s w hr hs).mono fun e w' ⟨he, h1, k1⟩ => ⟨he, ?_, k1⟩
  obtain ⟨_, N', hp', hrel⟩ := h1
  refine ⟨⟨⟨z.r, z.d, N'⟩, ?_, hz.q, hrel⟩, hm.keep k1 (fun e => hn e.symm), hn⟩
  exact Part.sup (F := refF) (o := 0) (k := 15) (A := (rmL x k G z).take 15) (C := (rmL x k G z).drop 23) hp' rfl rfl
theorem rm_win (w : World) (t v : Int) (h : RM w g k x G) (ht : Num t) (hv : Num v) :
    Calls Tryz.prog 44 #[.pointer (some ⟨k, 0, none⟩), .int .u64 t, .int .u64 v] w fun e w' => (∃ v, e = .returned v) ∧ RM w' g k { x with b := updT false 10 x.b t v } G ∧ Keep (fun i => i = k) w w' := by
  obtain ⟨⟨z, hz⟩, hm, hn⟩ := h
  refine (rupd_is k w hm ht hv).mono fun e w' ⟨he, h1, k1⟩ => ⟨⟨_, he⟩, ⟨⟨z, ?_, hz.q, hz.o⟩, h1, hn⟩, k1⟩
  exact hz.p.keep k1 hn
set_option maxHeartbeats 400000 in
theorem rbw_any (w : World) (h : RM w g k x G) : Calls Tryz.prog 28 #[.pointer (some ⟨g, 0, none⟩)] w fun e w' => e = .returned (.int .u64 (bwM x)) ∧ w = w' := by
  obtain ⟨c0, c1, c2, c3, c4, c5, c6, c7⟩ := h.own
  have cb := h.best
  clear h
  by_cases hu : x.o.u = true
  · have HE : Hid (x.o.b = bwM x) := Lib.hid (by simp [bwM, hu])
    rw [hu] at c6
    clear hu
    go_enter Tryz.func28, Tryz.ntmps28
    go_wp2
    go_ret
    exact ⟨ret_i HE.out, rfl⟩
  · have hu : x.o.u = false := by simpa using hu
    have HE : Hid (x.b.v0 = bwM x) := Lib.hid (by simp [bwM, hu])
    rw [hu] at c6
    clear hu
    go_enter Tryz.func28, Tryz.ntmps28
    go_wp2
    go_ret
    exact ⟨ret_i HE.out, rfl⟩
theorem ret_ii {a b c d : Int} (h : a = c) (k : b = d) : Ending.returned (.tuple #[.int .u64 a, .int .u64 b]) = .returned (.tuple #[.int .u64 c, .int .u64 d]) := by rw [h, k]
set_option maxHeartbeats 1000000 in
theorem gains_any (w : World) (h : RM w g k x G) (hf : x.Fit) : Calls Tryz.prog 46 #[.pointer (some ⟨g, 0, none⟩)] w fun e w' => e = .returned (.tuple #[.int .u64 (gainM x), .int .u64 (roomM x)]) ∧ w = w' := by
  obtain ⟨c0, c1, c2, c3, c4, c5, c6, c7⟩ := h.own
  obtain ⟨m0, m1, m2, m3, m4, m5, m6, m7⟩ := h.own'
  have HY := Lib.hid (rm_gain w h hf)
  clear h hf c0 c1 c2 c3 c4 c5 c7 m1 m2 m3 m4 m5 m6 m7
  by_cases h0 : x.m = 0
  · have HE : Hid (739 = gainM x) := Lib.hid (by simp [gainM, h0])
    have HR : Hid (739 = roomM x) := Lib.hid (by simp [roomM, h0])
    have e0 : (x.m == 0) = true := by simp [h0]
    clear h0
    go_enter Tryz.func46, Tryz.ntmps46
    go_wp2
    go_ret2
    exact ⟨ret_ii HE.out HR.out, rfl⟩
  have e0 : (x.m == 0) = false := by simp [h0]
  by_cases h1 : x.m = 1
  · have HE : Hid (88 = gainM x) := Lib.hid (by simp [gainM, h1])
    have HR : Hid (739 = roomM x) := Lib.hid (by simp [roomM, h1])
    have e1 : (x.m == 1) = true := by simp [h1]
    clear h0 h1
    go_enter Tryz.func46, Tryz.ntmps46
    go_wp2
    go_ret2
    exact ⟨ret_ii HE.out HR.out, rfl⟩
  have e1 : (x.m == 1) = false := by simp [h1]
  by_cases h2 : x.m = 2
  · have e2 : (x.m == 2) = true := by simp [h2]
    have HE : Hid ((if x.o.u = true then 256 else gainC x.c) = gainM x) := Lib.hid (by simp [gainM, h2])
    have HR : Hid (512 = roomM x) := Lib.hid (by simp [roomM, h2])
    clear h0 h1 h2
    generalize x.o.u = U at *
    cases U
    · go_enter Tryz.func46, Tryz.ntmps46
      go_wp2_with fail
      refine HY.out.mono ?_
      rintro e w' ⟨rfl, rfl⟩
      go_wp2
      go_ret2
      exact ⟨ret_ii HE.out HR.out, rfl⟩
    · skip
      go_enter Tryz.func46, Tryz.ntmps46
      go_wp2
      go_ret2
      exact ⟨ret_ii HE.out HR.out, rfl⟩
  · have e2 : (x.m == 2) = false := by simp [h2]
    have HE : Hid (256 = gainM x) := Lib.hid (by simp [gainM, h0, h1, h2])
    have HR : Hid (256 = roomM x) := Lib.hid (by simp [roomM, h0, h1, h2])
    clear h0 h1 h2
    go_enter Tryz.func46, Tryz.ntmps46
    go_wp2
    go_ret2
    exact ⟨ret_ii HE.out HR.out, rfl⟩
end
end Go.Proofs.YtbimmadllfgmiaaGreat
