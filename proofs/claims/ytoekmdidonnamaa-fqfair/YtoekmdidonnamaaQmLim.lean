/-
  The document's queue as plain numbers and lists: as many segments as may be, and no more: of two flows in turn; of one. No program is spoken of. Conditions: none.
-/
import Derived.Test.YtoekmdidonnamaaQmSolo2
namespace Go.Proofs.Ytoekmdidonnamaa
open Go.RowKit
set_option maxRecDepth 100000

/-- What is queued when segments came for the first and the second flow in turn, i of them. -/
structure LimI (x : Qm) (C : Cf) (i : Nat) : Prop where
  ok : x.Ok
  c : x.c = C
  len : (lenQ x : Int) = min C.l (min (i : Int) (2 * C.w))
  l0 : min (i : Int) (2 * C.w) < C.l → ((x.F 0).q.length : Int) = min (((i + 1) / 2 : Nat) : Int) C.w
  l1 : min (i : Int) (2 * C.w) < C.l → ((x.F 1).q.length : Int) = min ((i / 2 : Nat) : Int) C.w
theorem fate_near {x : Qm} (hx : x.Ok) {s : Sg} {now : Int} (hn : 0 ≤ now) (ht : s.t = 0) :
    fateQ x s now = if x.c.l ≤ (lenQ x : Int) then 2 else if x.c.w ≤ ((x.F s.s.toNat).q.length : Int) then 3 else 0 := by
  have hh := (addS_fit hn hx.hc.hh.1).1
  unfold fateQ
  rw [if_neg (c := addS now x.c.h < s.t ∧ x.c.d = true) (by rw [ht]; omega)]
theorem lim_new {c : Cf} (hc : c.Ok) : LimI (newQ c) c 0 := by
  have h1 := hc.hl; have h2 := hc.hw
  refine ⟨new_ok hc, rfl, ?_, fun _ => ?_, fun _ => ?_⟩
  · rw [lenQ_eq]; show ((0 : Nat) : Int) = _; omega
  · show ((0 : Nat) : Int) = _; omega
  · show ((0 : Nat) : Int) = _; omega
theorem LimI.step {x : Qm} {C : Cf} {i : Nat} (h : LimI x C i) {s : Sg} {now : Int} (hn : U64 now) (hs : s.s = ((i % 2 : Nat) : Int)) (hl : s.l = 1) (hf : U64 s.f) (ht : s.t = 0) :
    enqE s = 0 ∧ enqV x s now = (if C.l ≤ min (i : Int) (2 * C.w) then 2 else if C.w ≤ ((i / 2 : Nat) : Int) then 3 else 0) ∧ LimI (enqQ x s now) C (i + 1) := by
  have hx := h.ok
  have he : enqE s = 0 := by unfold enqE; rw [if_neg (by omega), if_neg (by omega)]
  have hC := hx.hc
  rw [h.c] at hC
  have hcl := hC.hl; have hcw := hC.hw
  have hfate := fate_near hx hn.1 ht
  rw [h.c] at hfate
  have hlen := h.len
  have hv : fateQ x s now = (if C.l ≤ min (i : Int) (2 * C.w) then 2 else if C.w ≤ ((i / 2 : Nat) : Int) then 3 else 0) := by
    rw [hfate]
    by_cases a : C.l ≤ min (i : Int) (2 * C.w)
    · rw [if_pos a, if_pos (by omega)]
    · rw [if_neg a, if_neg (by omega)]
      have e0 := h.l0 (by omega)
      have e1 := h.l1 (by omega)
      have hm : i % 2 = 0 ∨ i % 2 = 1 := by omega
      have e2 : C.w ≤ ((x.F s.s.toNat).q.length : Int) ↔ C.w ≤ ((i / 2 : Nat) : Int) := by
        rw [hs]
        rcases hm with m | m
        · rw [m]; show C.w ≤ ((x.F 0).q.length : Int) ↔ _; omega
        · rw [m]; show C.w ≤ ((x.F 1).q.length : Int) ↔ _; omega
      by_cases b : C.w ≤ ((i / 2 : Nat) : Int)
      · rw [if_pos b, if_pos (e2.2 b)]
      · rw [if_neg b, if_neg fun e => b (e2.1 e)]
  refine ⟨he, (enq_v hx he now).trans hv, enq_ok hx hn hf (by rw [ht]; exact ⟨Int.le_refl _, (by decide : (0 : Int) ≤ 18446744073709551615)⟩), (enq_c _ _ _).trans h.c, ?_, fun hlt => ?_, fun hlt => ?_⟩
  · rw [enq_len hx]
    by_cases a : C.l ≤ min (i : Int) (2 * C.w)
    · rw [if_pos a] at hv
      rw [if_neg fun e => by rw [e.2] at hv; cases hv]
      omega
    · rw [if_neg a] at hv
      by_cases b : C.w ≤ ((i / 2 : Nat) : Int)
      · rw [if_pos b] at hv
        rw [if_neg fun e => by rw [e.2] at hv; cases hv]
        omega
      · rw [if_neg b] at hv
        rw [if_pos ⟨he, hv⟩]
        omega
  · rw [enq_q hx s now (by decide)]
    have a : ¬ C.l ≤ min (i : Int) (2 * C.w) := by omega
    rw [if_neg a] at hv
    have e0 := h.l0 (by omega)
    by_cases b : C.w ≤ ((i / 2 : Nat) : Int)
    · rw [if_pos b] at hv
      rw [if_neg fun e => by rw [e.1.2] at hv; cases hv]
      omega
    · rw [if_neg b] at hv
      by_cases m : i % 2 = 0
      · rw [if_pos ⟨⟨he, hv⟩, by rw [hs, m]⟩, List.length_append]
        show (((x.F 0).q.length + 1 : Nat) : Int) = _
        omega
      · rw [if_neg fun e => by have := e.2; omega]
        omega
  · rw [enq_q hx s now (by decide)]
    have a : ¬ C.l ≤ min (i : Int) (2 * C.w) := by omega
    rw [if_neg a] at hv
    have e1 := h.l1 (by omega)
    by_cases b : C.w ≤ ((i / 2 : Nat) : Int)
    · rw [if_pos b] at hv
      rw [if_neg fun e => by rw [e.1.2] at hv; cases hv]
      omega
    · rw [if_neg b] at hv
      by_cases m : i % 2 = 1
      · rw [if_pos ⟨⟨he, hv⟩, by rw [hs, m]⟩, List.length_append]
        show (((x.F 1).q.length + 1 : Nat) : Int) = _
        omega
      · rw [if_neg fun e => by have := e.2; omega]
        omega

/-- What is queued when segments came for one flow, i of them. -/
structure OneI (x : Qm) (C : Cf) (k i : Nat) : Prop where
  ok : x.Ok
  c : x.c = C
  len : (lenQ x : Int) = min (i : Int) (min C.l C.w)
  lk : (x.F k).q.length = lenQ x
theorem one_new {c : Cf} (hc : c.Ok) (k : Nat) : OneI (newQ c) c k 0 := by
  have h1 := hc.hl; have h2 := hc.hw
  have h0 : lenQ (newQ c) = 0 := by rw [lenQ_eq]; rfl
  refine ⟨new_ok hc, rfl, ?_, ?_⟩
  · rw [h0]; omega
  · rw [h0]; rfl
theorem OneI.step {x : Qm} {C : Cf} {k i : Nat} (h : OneI x C k i) (hk : k < 8) {s : Sg} {now : Int} (hn : U64 now) (hs : s.s = (k : Int)) (hl : 1 ≤ s.l ∧ s.l ≤ 65536) (hf : U64 s.f) (ht : s.t = 0) :
    OneI (enqQ x s now) C k (i + 1) := by
  have hx := h.ok
  have he : enqE s = 0 := by unfold enqE; rw [if_neg (by omega), if_neg (by omega)]
  have hfate := fate_near hx hn.1 ht
  have hlen := h.len
  have hlk := h.lk
  have hst : s.s.toNat = k := by omega
  rw [h.c, hst, hlk] at hfate
  refine ⟨enq_ok hx hn hf (by rw [ht]; exact ⟨Int.le_refl _, (by decide : (0 : Int) ≤ 18446744073709551615)⟩), (enq_c _ _ _).trans h.c, ?_, ?_⟩
  · rw [enq_len hx]
    by_cases a : C.l ≤ (lenQ x : Int)
    · rw [if_pos a] at hfate
      rw [if_neg fun e => by rw [e.2] at hfate; cases hfate]
      omega
    · rw [if_neg a] at hfate
      by_cases b : C.w ≤ (lenQ x : Int)
      · rw [if_pos b] at hfate
        rw [if_neg fun e => by rw [e.2] at hfate; cases hfate]
        omega
      · rw [if_neg b] at hfate
        rw [if_pos ⟨he, hfate⟩]
        omega
  · rw [enq_len hx, enq_q hx s now hk]
    by_cases a : InQ x s now
    · rw [if_pos a, if_pos ⟨a, hs⟩, List.length_append, hlk]; rfl
    · rw [if_neg a, if_neg fun e => a e.1, hlk]; rfl
/-- What comes then, under another config. -/
theorem one_fate {x : Qm} (hx : x.Ok) {k : Nat} {s : Sg} {now : Int} (hn : 0 ≤ now) (hs : s.s = (k : Int)) (hlk : (x.F k).q.length = lenQ x) (ht : s.t = 0) :
    fateQ x s now = if x.c.l ≤ (lenQ x : Int) then 2 else if x.c.w ≤ (lenQ x : Int) then 3 else 0 := by
  have hst : s.s.toNat = k := by omega
  rw [fate_near hx hn ht, hst, hlk]
end Go.Proofs.Ytoekmdidonnamaa
