/-
  The document's queue as plain numbers and lists: two flows begin to take turns; no time is ever waited for, if none is told. No program is spoken of. Conditions: none.
-/
import Derived.Test.YtoekmdidonnamaaQmPace
namespace Go.Proofs.Ytoekmdidonnamaa
open Go.RowKit
set_option maxRecDepth 100000

/-! ### No times -/
/-- All times are 0. -/
def Zero (x : Qm) : Prop := ∀ i : Nat, i < 8 → (x.F i).n = 0 ∧ ∀ s ∈ (x.F i).q, s.t = 0
theorem Zero.time {x : Qm} (h : Zero x) {i : Nat} (hi : i < 8) : timeF (x.F i) = 0 := by
  obtain ⟨hn, hq⟩ := h i hi
  unfold timeF
  rw [hn]
  cases e : (x.F i).q with
  | nil => rfl
  | cons s r =>
    have : s.t = 0 := hq s (by rw [e]; exact List.mem_cons_self ..)
    show max 0 s.t = 0
    rw [this]; rfl
theorem Zero.alike {x y : Qm} (h : Zero x) (a : Alike x y) : Zero y := fun i hi => by rw [a.n, a.q]; exact h i hi
theorem Zero.enq {x : Qm} (h : Zero x) (hx : x.Ok) {s : Sg} (hs : s.t = 0) : Zero (enqQ x s 0) := fun i hi => by
  have hh := hx.hc.hh.1
  have ht : (segF x s 0).t = 0 := by
    show min s.t (addS 0 x.c.h) = 0
    have : 0 ≤ addS 0 x.c.h := (addS_fit (Int.le_refl 0) hh).1
    omega
  have hc : ((collQ x 0).F i).n = 0 := by
    cases hd : deadF x 0 i with
    | true => simp [collQ, hd, Fl.zero]
    | false => simp [collQ, hd]; exact (h i hi).1
  refine ⟨?_, fun a ha => ?_⟩
  · by_cases he : enqE s = 0
    · by_cases e : (i : Int) = s.s
      · have hn : s.s.toNat = i := by omega
        unfold enqQ
        rw [if_pos he]
        split
        · have e1 : (takeQ (collQ x 0) s 0).F i = takeF (collQ x 0) s 0 := by show upF _ s.s.toNat _ i = _; rw [hn, upF_at]
          rw [e1]
          show (preF (collQ x 0) s 0).n = 0
          unfold preF
          rw [hn]
          split
          · split
            · exact hc
            · exact hc
          · rfl
        · exact hc
      · rw [(enq_els he e).1]; exact hc
    · rw [enq_bad he]; exact (h i hi).1
  · rw [enq_q hx s 0 hi] at ha
    split at ha
    · rcases List.mem_append.1 ha with ha | ha
      · exact (h i hi).2 a ha
      · rw [List.mem_singleton.1 ha]; exact ht
    · exact (h i hi).2 a ha
theorem Zero.ends {d : Int → Int → Int} {x y : Qm} {o : Option Sg} (h : Zero x) (hd : ∀ l z, d l z = 0) (e : Ends d x 0 y o) : Zero y := by
  cases e with
  | none a _ _ _ => exact h.alike a
  | some a =>
    rename_i i s r
    intro j hj
    by_cases e : j = i
    · subst e
      rw [a.n, a.q, hd]
      refine ⟨rfl, fun b hb => (h j hj).2 b ?_⟩
      rw [a.hq]; exact List.mem_cons_of_mem _ hb
    · rw [a.ns j e, a.qs j e]; exact h j hj
theorem Zero.ready {x : Qm} (h : Zero x) (h0 : (x.F 0).q ≠ []) (h1 : (x.F 1).q ≠ []) : Ready x 0 :=
  ⟨⟨h0, by rw [h.time (by decide)]; decide⟩, h1, by rw [h.time (by decide)]; decide⟩
theorem zero_new (c : Cf) : Zero (newQ c) := fun _ _ => ⟨rfl, fun _ h => by cases h⟩

/-! ### There is room -/
theorem room_in {x : Qm} (hx : x.Ok) {s : Sg} {now : Int} (he : enqE s = 0) (h1 : (lenQ x : Int) < x.c.l) (h2 : ((x.F s.s.toNat).q.length : Int) < x.c.w) (hn : 0 ≤ now) (ht : s.t = 0) : InQ x s now := by
  refine ⟨he, ?_⟩
  have hh := (addS_fit hn hx.hc.hh.1).1
  unfold fateQ
  rw [if_neg (by omega), if_neg (by omega), if_neg (by rw [ht]; omega)]

/-! ### The two begin -/
/-- The first one alone is there. -/
structure Beg (x : Qm) (C : Cf) : Prop where
  c : x.c = C
  T0 : x.T 0 = true
  p0 : (x.F 0).p = 1
  c0 : (x.F 0).c = C.f
  N : x.N = [0]
  O : x.O = []
  T1 : x.T 1 = false
theorem in_new {x : Qm} (hx : x.Ok) {s : Sg} {now : Int} (hi : InQ x s now) (ht : x.T s.s.toNat = false) :
    ((enqQ x s now).F s.s.toNat).p = 1 ∧ ((enqQ x s now).F s.s.toNat).c = x.c.f ∧ ((enqQ x s now).F s.s.toNat).n = 0 ∧ ((enqQ x s now).F s.s.toNat).q = [segF x s now] ∧ (enqQ x s now).T s.s.toNat = true ∧ (enqQ x s now).N = x.N ++ [s.s] ∧ (enqQ x s now).O = x.O := by
  have hc : (collQ x now).T s.s.toNat = false := by simp [collQ, ht]
  have e3 : preF (collQ x now) s now = { Fl.zero with s := s.s, c := x.c.f } := by
    unfold preF
    rw [if_neg (by rw [hc]; decide)]; rfl
  have e1 : (takeQ (collQ x now) s now).F s.s.toNat = takeF (collQ x now) s now := upF_at _ _ _
  have e4 : takeF (collQ x now) s now = { Fl.zero with s := s.s, c := x.c.f, q := [segF x s now], p := 1, u := 0 } := by
    unfold takeF
    rw [e3]
    rfl
  have e5 : (takeQ (collQ x now) s now).N = x.N ++ [s.s] := by
    show (if (if (collQ x now).T s.s.toNat = true then ((collQ x now).F s.s.toNat).p else 0) = 0 then (collQ x now).N ++ [s.s] else (collQ x now).N) = _
    rw [if_pos (by rw [if_neg (by rw [hc]; decide)])]; rfl
  rw [enq_in hx hi, e1, e4]
  exact ⟨rfl, rfl, rfl, rfl, upF_at _ _ _, e5, rfl⟩
theorem new_beg {c : Cf} (hc : c.Ok) {s : Sg} {now : Int} (hs : s.s = 0) (hi : InQ (newQ c) s now) : Beg (enqQ (newQ c) s now) c := by
  have hn : s.s.toNat = 0 := by rw [hs]; rfl
  obtain ⟨a, b, _, _, e, f, g⟩ := in_new (new_ok hc) hi rfl
  rw [hn] at a b e
  have h1 := (enq_els (x := newQ c) (now := now) hi.1 (j := 1) (by rw [hs]; decide)).2
  exact ⟨enq_c _ _ _, e, a, b, by rw [f, hs]; rfl, g, by rw [h1]; rfl⟩
theorem Beg.again {x : Qm} {C : Cf} {s : Sg} {now : Int} (h : Beg x C) (hs : s.s = 0) : Beg (enqQ x s now) C := by
  have hn : s.s.toNat = 0 := by rw [hs]; rfl
  have p0 : (x.F 0).p ≠ 0 := by rw [h.p0]; decide
  obtain ⟨a, b, _, e⟩ := enq_live (s := s) (now := now) h.T0 p0
  have hN : (enqQ x s now).N = x.N := enq_kept (by rw [hn]; exact h.T0) (by rw [hn]; exact p0)
  have hO := (enq_lists (x := x) (s := s) (now := now)).1
  have h1 : (enqQ x s now).T 1 = false := by
    by_cases he : enqE s = 0
    · rw [(enq_els he (j := 1) (by rw [hs]; decide)).2]; simp [collQ, h.T1]
    · rw [enq_bad he]; exact h.T1
  exact ⟨(enq_c _ _ _).trans h.c, e, by rw [b]; exact h.p0, by rw [a]; exact h.c0, by rw [hN]; exact h.N, by rw [hO]; exact h.O, h1⟩
theorem Beg.both {x : Qm} {C : Cf} {s : Sg} {now L : Int} (hx : x.Ok) (h : Beg x C) (hs : s.s = 1) (hi : InQ x s now) (hL : 0 ≤ L) : Fair (enqQ x s now) C 0 0 L := by
  have hn : s.s.toNat = 1 := by rw [hs]; rfl
  have hf := hx.hc.hf
  rw [h.c] at hf
  have p0 : (x.F 0).p ≠ 0 := by rw [h.p0]; decide
  obtain ⟨a, b, _, e⟩ := enq_live (s := s) (now := now) h.T0 p0
  obtain ⟨a1, b1, _, _, e1, f1, g1⟩ := in_new hx hi (by rw [hn]; exact h.T1)
  rw [hn] at a1 b1 e1
  rw [h.c] at b1
  refine ⟨(enq_c _ _ _).trans h.c, e, e1, by rw [b]; exact .inl h.p0, .inl a1, ?_, ?_, 0, 0, by rw [a, h.c0]; omega, by rw [b1]; omega, .inl ⟨?_, rfl⟩⟩
  · rw [a, h.c0, b1]; omega
  · rw [a, h.c0, b1]; omega
  · rw [f1, g1, h.N, h.O, hs]; rfl
end Go.Proofs.Ytoekmdidonnamaa
