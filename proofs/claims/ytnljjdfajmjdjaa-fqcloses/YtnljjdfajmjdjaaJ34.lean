/-
  The document's queue as plain numbers and lists: as many segments as may be, and no more: of two flows in turn; of one. No program is spoken of. Conditions: none.
  The document's queue as plain numbers and lists: short ways with one flow alone: its credit, its stamp, its rate, its end. No program is spoken of. Conditions: none.
-/
import Derived.Test.YtnljjdfajmjdjaaJ33
namespace Go.Proofs.Ytnljjdfajmjdjaa
open Go.RowKit
set_option maxRecDepth 100000

/-- What is queued when segments came for the first and the second flow in turn, i of them. -/
structure LimI (x : Qm) (C : Cf) (i : Nat) : Prop where
  ok : x.Ok
  c : x.c = C
  len : (lenQ x : Int) = min C.l (min (i : Int) (2 * C.w))
  l0 : min (i : Int) (2 * C.w) < C.l → ((x.F 0).q.length : Int) = min (((i + 1) / 2 : Nat) : Int) C.w
  l1 : min (i : Int) (2 * C.w) < C.l → ((x.F 1).q.length : Int) = min ((i / 2 : Nat) : Int) C.w
theorem fate_near {x : Qm} (hx : x.Ok) {s : Sg} {now : Int} (hn : 0 ≤ now) (ht : s.t = 0) :
    fateQ x s now = if x.c.l ≤ (lenQ x : Int) then 2 else if x.c.w ≤ ((x.F s.s.toNat).q.length : Int) then 3 else 0 := by
  have hh := (addS_fit hn hx.hc.hh.1).1
  unfold fateQ
  rw [if_neg (c := addS now x.c.h < s.t ∧ x.c.d = true) (by rw [ht]; omega)]
theorem lim_new {c : Cf} (hc : c.Ok) : LimI (newQ c) c 0 := by
  have h1 := hc.hl; have h2 := hc.hw
  refine ⟨new_ok hc, rfl, ?_, fun _ => ?_, fun _ => ?_⟩
  · rw [lenQ_eq]; show ((0 : Nat) : Int) = _; omega
  · show ((0 : Nat) : Int) = _; omega
  · show ((0 : Nat) : Int) = _; omega
theorem LimI.step {x : Qm} {C : Cf} {i : Nat} (h : LimI x C i) {s : Sg} {now : Int} (hn : U64 now) (hs : s.s = ((i % 2 : Nat) : Int)) (hl : s.l = 1) (hf : U64 s.f) (ht : s.t = 0) :
    enqE s = 0 ∧ enqV x s now = (if C.l ≤ min (i : Int) (2 * C.w) then 2 else if C.w ≤ ((i / 2 : Nat) : Int) then 3 else 0) ∧ LimI (enqQ x s now) C (i + 1) := by
  have hx := h.ok
  have he : enqE s = 0 := by unfold enqE; rw [if_neg (by omega), if_neg (by omega)]
  have hC := hx.hc
  rw [h.c] at hC
  have hcl := hC.hl; have hcw := hC.hw
  have hfate := fate_near hx hn.1 ht
  rw [h.c] at hfate
  have hlen := h.len
  have hv : fateQ x s now = (if C.l ≤ min (i : Int) (2 * C.w) then 2 else if C.w ≤ ((i / 2 : Nat) : Int) then 3 else 0) := by
    rw [hfate]
    by_cases a : C.l ≤ min (i : Int) (2 * C.w)
    · rw [if_pos a, if_pos (by omega)]
    · rw [if_neg a, if_neg (by omega)]
      have e0 := h.l0 (by omega)
      have e1 := h.l1 (by omega)
      have hm : i % 2 = 0 ∨ i % 2 = 1 := by omega
      have e2 : C.w ≤ ((x.F s.s.toNat).q.length : Int) ↔ C.w ≤ ((i / 2 : Nat) : Int) := by
        rw [hs]
        rcases hm with m | m
        · rw [m]; show C.w ≤ ((x.F 0).q.length : Int) ↔ _; omega
        · rw [m]; show C.w ≤ ((x.F 1).q.length : Int) ↔ _; omega
      by_cases b : C.w ≤ ((i / 2 : Nat) : Int)
      · rw [if_pos b, if_pos (e2.2 b)]
      · rw [if_neg b, if_neg fun e => b (e2.1 e)]
  refine ⟨he, (enq_v hx he now).trans hv, enq_ok hx hn hf (by rw [ht]; exact ⟨Int.le_refl _, (by decide : (0 : Int) ≤ 18446744073709551615)⟩), (enq_c _ _ _).trans h.c, ?_, fun hlt => ?_, fun hlt => ?_⟩
  · rw [enq_len hx]
    by_cases a : C.l ≤ min (i : Int) (2 * C.w)
    · rw [if_pos a] at hv
      rw [if_neg fun e => by rw [e.2] at hv; cases hv]
      omega
    · rw [if_neg a] at hv
      by_cases b : C.w ≤ ((i / 2 : Nat) : Int)
      · rw [if_pos b] at hv
        rw [if_neg fun e => by rw [e.2] at hv; cases hv]
        omega
      · rw [if_neg b] at hv
        rw [if_pos ⟨he, hv⟩]
        omega
  · rw [enq_q hx s now (by decide)]
    have a : ¬ C.l ≤ min (i : Int) (2 * C.w) := by omega
    rw [if_neg a] at hv
    have e0 := h.l0 (by omega)
    by_cases b : C.w ≤ ((i / 2 : Nat) : Int)
    · rw [if_pos b] at hv
      rw [if_neg fun e => by rw [e.1.2] at hv; cases hv]
      omega
    · rw [if_neg b] at hv
      by_cases m : i % 2 = 0
      · rw [if_pos ⟨⟨he, hv⟩, by rw [hs, m]⟩, List.length_append]
        show (((x.F 0).q.length + 1 : Nat) : Int) = _
        omega
      · rw [if_neg fun e => by have := e.2; omega]
        omega
  · rw [enq_q hx s now (by decide)]
    have a : ¬ C.l ≤ min (i : Int) (2 * C.w) := by omega
    rw [if_neg a] at hv
    have e1 := h.l1 (by omega)
    by_cases b : C.w ≤ ((i / 2 : Nat) : Int)
    · rw [if_pos b] at hv
      rw [if_neg fun e => by rw [e.1.2] at hv; cases hv]
      omega
    · rw [if_neg b] at hv
      by_cases m : i % 2 = 1
      · rw [if_pos ⟨⟨he, hv⟩, by rw [hs, m]⟩, List.length_append]
        show (((x.F 1).q.length + 1 : Nat) : Int) = _
        omega
      · rw [if_neg fun e => by have := e.2; omega]
        omega

/-- What is queued when segments came for one flow, i of them. -/
structure OneI (x : Qm) (C : Cf) (k i : Nat) : Prop where
  ok : x.Ok
  c : x.c = C
  len : (lenQ x : Int) = min (i : Int) (min C.l C.w)
  lk : (x.F k).q.length = lenQ x
theorem one_new {c : Cf} (hc : c.Ok) (k : Nat) : OneI (newQ c) c k 0 := by
  have h1 := hc.hl; have h2 := hc.hw
  have h0 : lenQ (newQ c) = 0 := by rw [lenQ_eq]; rfl
  refine ⟨new_ok hc, rfl, ?_, ?_⟩
  · rw [h0]; omega
  · rw [h0]; rfl
theorem OneI.step {x : Qm} {C : Cf} {k i : Nat} (h : OneI x C k i) (hk : k < 8) {s : Sg} {now : Int} (hn : U64 now) (hs : s.s = (k : Int)) (hl : 1 ≤ s.l ∧ s.l ≤ 65536) (hf : U64 s.f) (ht : s.t = 0) :
    OneI (enqQ x s now) C k (i + 1) := by
  have hx := h.ok
  have he : enqE s = 0 := by unfold enqE; rw [if_neg (by omega), if_neg (by omega)]
  have hfate := fate_near hx hn.1 ht
  have hlen := h.len
  have hlk := h.lk
  have hst : s.s.toNat = k := by omega
  rw [h.c, hst, hlk] at hfate
  refine ⟨enq_ok hx hn hf (by rw [ht]; exact ⟨Int.le_refl _, (by decide : (0 : Int) ≤ 18446744073709551615)⟩), (enq_c _ _ _).trans h.c, ?_, ?_⟩
  · rw [enq_len hx]
    by_cases a : C.l ≤ (lenQ x : Int)
    · rw [if_pos a] at hfate
      rw [if_neg fun e => by rw [e.2] at hfate; cases hfate]
      omega
    · rw [if_neg a] at hfate
      by_cases b : C.w ≤ (lenQ x : Int)
      · rw [if_pos b] at hfate
        rw [if_neg fun e => by rw [e.2] at hfate; cases hfate]
        omega
      · rw [if_neg b] at hfate
        rw [if_pos ⟨he, hfate⟩]
        omega
  · rw [enq_len hx, enq_q hx s now hk]
    by_cases a : InQ x s now
    · rw [if_pos a, if_pos ⟨a, hs⟩, List.length_append, hlk]; rfl
    · rw [if_neg a, if_neg fun e => a e.1, hlk]; rfl
/-- What comes then, under another config. -/
theorem one_fate {x : Qm} (hx : x.Ok) {k : Nat} {s : Sg} {now : Int} (hn : 0 ≤ now) (hs : s.s = (k : Int)) (hlk : (x.F k).q.length = lenQ x) (ht : s.t = 0) :
    fateQ x s now = if x.c.l ≤ (lenQ x : Int) then 2 else if x.c.w ≤ (lenQ x : Int) then 3 else 0 := by
  have hst : s.s.toNat = k := by omega
  rw [fate_near hx hn ht, hst, hlk]
end Go.Proofs.Ytnljjdfajmjdjaa
namespace Go.Proofs.Ytnljjdfajmjdjaa
open Go.RowKit
set_option maxRecDepth 100000

/-- No flow is there. -/
structure Bare (x : Qm) : Prop where
  ok : x.Ok
  T : ∀ j : Nat, j < 8 → x.T j = false
  N : x.N = []
  O : x.O = []
theorem bare_new {c : Cf} (hc : c.Ok) : Bare (newQ c) := ⟨new_ok hc, fun _ _ => rfl, rfl, rfl⟩
theorem Bare.len {x : Qm} (h : Bare x) : lenQ x = 0 := by
  rw [lenQ_eq, h.ok.no 0 (by decide) (h.T 0 (by decide)), h.ok.no 1 (by decide) (h.T 1 (by decide)), h.ok.no 2 (by decide) (h.T 2 (by decide)), h.ok.no 3 (by decide) (h.T 3 (by decide)), h.ok.no 4 (by decide) (h.T 4 (by decide)), h.ok.no 5 (by decide) (h.T 5 (by decide)), h.ok.no 6 (by decide) (h.T 6 (by decide)), h.ok.no 7 (by decide) (h.T 7 (by decide))]
  rfl
theorem Bare.dog {x : Qm} (h : Bare x) : dogQ x = none := by
  cases hd : dogQ x with
  | none => rfl
  | some t =>
    obtain ⟨⟨b, hb, bT, _⟩, _⟩ := dog_some hd
    rw [h.T b hb] at bT; cases bT
theorem Bare.cls {x : Qm} (h : Bare x) (z : Int) : clsV x z = [] ∧ clsQ x z = x := by
  have hn : ¬ ((0 ≤ z ∧ z < 8) ∧ x.T z.toNat = true) := fun e => by rw [h.T _ (by omega)] at e; cases e.2
  unfold clsV clsQ
  rw [if_neg hn, if_neg hn]; exact ⟨rfl, rfl⟩
/-- The first segment of all. -/
theorem Bare.enq {x : Qm} (h : Bare x) {s : Sg} {now : Int} {k : Nat} (hk : s.s = (k : Int)) (hi : InQ x s now) :
    Solo (enqQ x s now) k ⟨s.s, x.c.f, 1, 0, 0, [segF x s now]⟩ := by
  have hs := (enqE_is hi.1).1
  have hn : s.s.toNat = k := by omega
  have hk8 : k < 8 := by omega
  have ht : x.T s.s.toNat = false := by rw [hn]; exact h.T k hk8
  obtain ⟨a, b, n, q, e, f, g⟩ := in_new h.ok hi ht
  rw [hn] at a b n q e
  have e1 : (enqQ x s now).F k = takeF (collQ x now) s now := by
    rw [enq_in h.ok hi]; show upF _ s.s.toNat _ k = _; rw [hn, upF_at]
  have e3 : preF (collQ x now) s now = { Fl.zero with s := s.s, c := x.c.f } := by
    unfold preF
    rw [if_neg (by simp [collQ, ht])]; rfl
  have e4 : takeF (collQ x now) s now = ⟨s.s, x.c.f, 1, 0, 0, [segF x s now]⟩ := by
    unfold takeF
    rw [e3]
    rfl
  exact ⟨hk8, by rw [e1, e4], e, fun j hj hj' => by rw [(enq_els hi.1 (j := j) (by omega)).2]; simp [collQ, h.T j hj], by rw [f, h.N, hk]; rfl, by rw [g, h.O]; rfl⟩
theorem Solo.bare {x : Qm} (hx : x.Ok) {k : Nat} {f : Fl} (h : Solo x k f) : clsV x (k : Int) = f.q ∧ Bare (clsQ x (k : Int)) ∧ (clsQ x (k : Int)).c = x.c := by
  obtain ⟨a, b, c, d, e⟩ := h.cls
  exact ⟨a, ⟨cls_ok hx _, b, c, d⟩, e⟩

/-! ### A plain config -/
theorem plain_ok : plainC.Ok := ⟨by decide, by decide, by decide, by decide, by decide, ⟨by decide, by decide⟩, by decide, by decide⟩
theorem enqE_ok {s : Sg} (h : 0 ≤ s.s ∧ s.s < 8) (hl : 1 ≤ s.l ∧ s.l ≤ 65536) : enqE s = 0 := by unfold enqE; rw [if_neg (by omega), if_neg (by omega)]
theorem segF_t {x : Qm} (hx : x.Ok) {s : Sg} {now : Int} (hn : 0 ≤ now) (ht : s.t = 0) : segF x s now = s := by
  have hh := (addS_fit hn hx.hc.hh.1).1
  unfold segF
  have : min s.t (addS now x.c.h) = s.t := by omega
  rw [this]
theorem Bare.plain {x : Qm} (h : Bare x) {s : Sg} {now : Int} (he : enqE s = 0) (hn : 0 ≤ now) (ht : s.t = 0) : InQ x s now := by
  have hs := (enqE_is he).1
  have h1 := h.ok.hc.hl; have h2 := h.ok.hc.hw
  refine room_in h.ok he ?_ ?_ hn ht
  · rw [h.len]; omega
  · rw [h.ok.no _ (by omega) (h.T _ (by omega))]; show ((0 : Nat) : Int) < _; omega
theorem Solo.plain {x : Qm} (hx : x.Ok) {k : Nat} {f : Fl} (h : Solo x k f) {s : Sg} {now : Int} (he : enqE s = 0) (hk : s.s = (k : Int)) (hn : 0 ≤ now) (ht : s.t = 0) (h1 : (f.q.length : Int) < x.c.l) (h2 : (f.q.length : Int) < x.c.w) : InQ x s now := by
  have hkk : s.s.toNat = k := by omega
  refine room_in hx he ?_ ?_ hn ht
  · rw [h.len hx]; exact h1
  · rw [hkk, h.F]; exact h2

/-! ### The ways -/
section
variable {d : Int → Int → Int} {x : Qm} {now : Int} {k : Nat} {f : Fl}
theorem deq_mk {o : Option Sg} {y : Qm} (e : deqQ d x now = (y, o)) : (deqQ d x now).1 = y ∧ (deqQ d x now).2 = o := by rw [e]; exact ⟨rfl, rfl⟩
/-- It departs: of a flow in the lists. -/
theorem Solo.go (hn : U64 now) (hd : ∀ l z, 0 ≤ d l z) (hx : x.Ok) (h : Solo x k f) (hp : f.p = 1 ∨ f.p = 2) (hc : 0 < f.c) {s : Sg} {r : List Sg} (hq : f.q = s :: r) (hw : timeF f ≤ now) :
    ∃ y, deqQ d x now = (y, some s) ∧ y.Ok ∧ Solo y k { f with q := r, c := f.c - s.l, n := addS now (d s.l (k : Int)) } ∧ y.c = x.c := by
  obtain ⟨_, _, h3⟩ := Solo.pull (d := d) hn hd (Top.done (q := x.c.q) hc) hx h hp rfl rfl
  obtain ⟨y, a, b, c, e⟩ := h3 s r hq hw
  rw [if_pos hc] at c
  exact ⟨y, (h.deq.1 (by omega)).trans a, b, c, e⟩
/-- It departs: of one that waited. -/
theorem Solo.went (hn : U64 now) (hd : ∀ l z, 0 ≤ d l z) (hx : x.Ok) (h : Solo x k f) (hp : f.p = 3) (hc : 0 < f.c) {s : Sg} {r : List Sg} (hq : f.q = s :: r) (hw : timeF f ≤ now) :
    ∃ y, deqQ d x now = (y, some s) ∧ y.Ok ∧ Solo y k { f with q := r, c := f.c - s.l, n := addS now (d s.l (k : Int)), p := 2 } ∧ y.c = x.c := by
  obtain ⟨e0, hs⟩ := (h.deq (d := d) (now := now)).2.2 hp hw
  have hok := hx.is k h.hk h.T
  have hy : (putQ x k 2).Ok := by
    rw [h.F] at hok
    refine hx.put h.hk (fun j hj => putQ_ne _ _ hj) (fun _ => rfl) rfl h.T ?_ (by rw [putQ_F]; rfl) (by rw [putQ_F]; rfl) (by rw [putQ_F]; exact Nat.le_refl _)
    rw [putQ_F, h.F]
    exact ⟨hok.hs, hok.hc, by dsimp only; omega, hok.hn, hok.hu, fun _ => hok.no (by omega), fun e => (by cases e), fun e => (by cases e), hok.hq⟩
  obtain ⟨_, _, h3⟩ := Solo.pull (d := d) hn hd (Top.done (q := x.c.q) (c := f.c) hc) hy hs (.inr rfl) rfl rfl
  obtain ⟨y, a, b, c, e⟩ := h3 s r hq hw
  rw [if_pos (show 0 < ({ f with p := 2 } : Fl).c from hc)] at c
  exact ⟨y, e0.trans a, b, c, e⟩
/-- It waits. -/
theorem Solo.wait (hn : U64 now) (hd : ∀ l z, 0 ≤ d l z) (hx : x.Ok) (h : Solo x k f) (hp : f.p = 1 ∨ f.p = 2) (hc : 0 < f.c) (hq : f.q ≠ []) (hw : now < timeF f) :
    ∃ y, deqQ d x now = (y, none) ∧ y.Ok ∧ Solo y k { f with p := 3 } ∧ y.c = x.c := by
  obtain ⟨_, h2, _⟩ := Solo.pull (d := d) hn hd (Top.done (q := x.c.q) hc) hx h hp rfl rfl
  obtain ⟨y, a, b, c, e⟩ := h2 hq hw
  exact ⟨y, (h.deq.1 (by omega)).trans a, b, c, e⟩
/-- It is nowhere then. -/
theorem Solo.away (hn : U64 now) (hd : ∀ l z, 0 ≤ d l z) (hx : x.Ok) (h : Solo x k f) (hp : f.p = 1 ∨ f.p = 2) {e : Int} (t : Top x.c.q f.c e) (hq : f.q = []) :
    ∃ y, deqQ d x now = (y, none) ∧ y.Ok ∧ Solo y k { f with c := e, p := 0, u := now } ∧ y.c = x.c := by
  obtain ⟨h1, _, _⟩ := Solo.pull (d := d) hn hd t hx h hp rfl rfl
  obtain ⟨y, a, b, c, e⟩ := h1 hq
  exact ⟨y, (h.deq.1 (by omega)).trans a, b, c, e⟩
end
theorem u0 : U64 0 := ⟨Int.le_refl _, (by decide : (0 : Int) ≤ 18446744073709551615)⟩
/-- Its credit: behind one segment of a size, behind a pull of nothing, and when one more comes a while later. -/
theorem way_credit {d : Int → Int → Int} {size gap low : Int} (hd : ∀ l z, 0 ≤ d l z) (hs : 1 ≤ size ∧ size ≤ 65536) (hg : U64 gap) (d0 : d size 0 = 0) (t : Top 3000 (15000 - size) low) :
    ∃ x2 x3, enqE ⟨0, 0, size, 0, false⟩ = 0 ∧ deqQ d (enqQ (newQ plainC) ⟨0, 0, size, 0, false⟩ 0) 0 = (x2, some ⟨0, 0, size, 0, false⟩) ∧ x2.Ok ∧ Solo x2 0 ⟨0, 15000 - size, 1, 0, 0, []⟩ ∧
      deqQ d x2 0 = (x3, none) ∧ x3.Ok ∧ Solo x3 0 ⟨0, low, 0, 0, 0, []⟩ ∧ (enqQ x3 ⟨0, 0, 1, 0, false⟩ gap).Ok ∧
      Solo (enqQ x3 ⟨0, 0, 1, 0, false⟩ gap) 0 ⟨0, if 3000000000 ≤ gap then 15000 else if 40000000 ≤ gap then max low 3000 else low, 1, 0, 0, [⟨0, 0, 1, 0, false⟩]⟩ := by
  have hB := bare_new plain_ok
  have he : enqE ⟨0, 0, size, 0, false⟩ = 0 := enqE_ok ⟨Int.le_refl 0, (by decide : (0 : Int) < 8)⟩ hs
  have hi := hB.plain he (Int.le_refl 0) rfl
  have h1 := hB.enq (k := 0) rfl hi
  rw [segF_t hB.ok (Int.le_refl 0) rfl] at h1
  have ok1 : (enqQ (newQ plainC) ⟨0, 0, size, 0, false⟩ 0).Ok := enq_ok hB.ok u0 u0 u0
  obtain ⟨x2, e2, ok2, s2, c2⟩ := h1.go (d := d) u0 hd ok1 (.inl rfl) (by decide : (0 : Int) < 15000) rfl (by decide : max (0 : Int) 0 ≤ 0)
  have hn0 : addS 0 (d size ((0 : Nat) : Int)) = 0 := by show addS 0 (d size 0) = 0; rw [d0]; rfl
  dsimp only at s2
  rw [hn0] at s2
  have c2' : x2.c = plainC := c2.trans (enq_c _ _ _)
  have hq2 : x2.c.q = 3000 := by rw [c2']; rfl
  obtain ⟨x3, e3, ok3, s3, c3⟩ := s2.away (d := d) u0 hd ok2 (.inl rfl) (e := low) (by rw [hq2]; exact t) rfl
  have c3' : x3.c = plainC := c3.trans c2'
  have he3 : enqE ⟨0, 0, 1, 0, false⟩ = 0 := by decide
  have hi3 : InQ x3 ⟨0, 0, 1, 0, false⟩ gap := s3.plain ok3 he3 rfl hg.1 rfl (by rw [c3']; exact (by decide : (0 : Int) < 100)) (by rw [c3']; exact (by decide : (0 : Int) < 50))
  have s4 := s3.enq0 ok3 rfl rfl hi3
  refine ⟨x2, x3, he, e2, ok2, s2, e3, ok3, s3, enq_ok ok3 hg u0 u0, ?_⟩
  rw [segF_t ok3 hg.1 rfl, c3'] at s4
  have a3 : addS 0 3000000000 = 3000000000 := by decide
  have a4 : addS 0 40000000 = 40000000 := by decide
  dsimp only at s4
  rw [a3, a4] at s4
  by_cases b : 3000000000 ≤ gap
  · rw [if_pos b] at s4 ⊢; exact s4
  · rw [if_neg b] at s4 ⊢; exact s4
/-- Its stamp: it waits for that, and departs then. -/
theorem way_stamp {d : Int → Int → Int} {stamp early : Int} (hd : ∀ l z, 0 ≤ d l z) (hs : 1 ≤ stamp ∧ stamp ≤ 10000000000) (he0 : 0 ≤ early) (he1 : early < stamp) :
    ∃ x2 x3 f, enqE ⟨3, 0, 7, stamp, false⟩ = 0 ∧ deqQ d (enqQ (newQ plainC) ⟨3, 0, 7, stamp, false⟩ 0) early = (x2, none) ∧ x2.Ok ∧ Solo x2 3 f ∧ f.p = 3 ∧ dogQ x2 = some stamp ∧
      deqQ d x2 stamp = (x3, some ⟨3, 0, 7, stamp, false⟩) ∧ x3.Ok ∧ dogQ x3 = none := by
  have hB := bare_new plain_ok
  have he : enqE ⟨3, 0, 7, stamp, false⟩ = 0 := by simp [enqE]
  have far : addS 0 10000000000 = 10000000000 := by decide
  have hi : InQ (newQ plainC) ⟨3, 0, 7, stamp, false⟩ 0 := by
    refine ⟨he, ?_⟩
    unfold fateQ
    rw [hB.len, if_neg (show ¬ (newQ plainC).c.l ≤ ((0 : Nat) : Int) from (by decide : ¬ (100 : Int) ≤ ((0 : Nat) : Int))), if_neg (show ¬ (newQ plainC).c.w ≤ (((newQ plainC).F (⟨3, 0, 7, stamp, false⟩ : Sg).s.toNat).q.length : Int) from (by decide : ¬ (50 : Int) ≤ ((0 : Nat) : Int))), if_neg]
    rintro ⟨a, _⟩
    have a : addS 0 10000000000 < stamp := a
    rw [far] at a; omega
  have h1 := hB.enq (k := 3) rfl hi
  have hsg : segF (newQ plainC) ⟨3, 0, 7, stamp, false⟩ 0 = ⟨3, 0, 7, stamp, false⟩ := by
    show (⟨3, 0, 7, min stamp (addS 0 10000000000), false⟩ : Sg) = _
    rw [far, show min stamp 10000000000 = stamp from by omega]
  rw [hsg] at h1
  have ust : U64 stamp := ⟨by omega, by omega⟩
  have uea : U64 early := ⟨he0, by omega⟩
  have ok1 : (enqQ (newQ plainC) ⟨3, 0, 7, stamp, false⟩ 0).Ok := enq_ok hB.ok u0 u0 ust
  have htm : timeF ⟨3, plainC.f, 1, 0, 0, [⟨3, 0, 7, stamp, false⟩]⟩ = stamp := by
    show max 0 stamp = stamp; omega
  obtain ⟨x2, e2, ok2, s2, _⟩ := h1.wait (d := d) uea hd ok1 (.inl rfl) (by decide : (0 : Int) < 15000) (List.cons_ne_nil _ _) (by show early < timeF ⟨3, plainC.f, 1, 0, 0, [⟨3, 0, 7, stamp, false⟩]⟩; rw [htm]; exact he1)
  have htm2 : timeF ⟨3, plainC.f, 3, 0, 0, [⟨3, 0, 7, stamp, false⟩]⟩ = stamp := htm
  obtain ⟨x3, e3, ok3, s3, _⟩ := s2.went (d := d) ust hd ok2 rfl (by decide : (0 : Int) < 15000) rfl (by show timeF ⟨3, plainC.f, 3, 0, 0, [⟨3, 0, 7, stamp, false⟩]⟩ ≤ stamp; omega)
  refine ⟨x2, x3, _, he, e2, ok2, s2, rfl, ?_, e3, ok3, ?_⟩
  · rw [s2.dog, if_pos rfl]; exact congrArg some htm2
  · rw [s3.dog, if_neg (by dsimp only; decide)]
end Go.Proofs.Ytnljjdfajmjdjaa
