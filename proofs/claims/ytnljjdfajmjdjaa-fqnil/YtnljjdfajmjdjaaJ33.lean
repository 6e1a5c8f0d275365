/-
  The document's queue as plain numbers and lists: how far two departures of a flow are apart; the least time of all; the order of what departs. No program is spoken of. Conditions: none.
  The document's queue as plain numbers and lists: two flows begin to take turns; no time is ever waited for, if none is told. No program is spoken of. Conditions: none.
  The document's queue as plain numbers and lists: a queue with one flow alone: what is put in, pulled, and closed leaves of it. No program is spoken of. Conditions: none.
  The document's queue as plain numbers and lists: a pull of a queue with one flow alone, whatever its place; what is put in and closed there. No program is spoken of. Conditions: none.
-/
import Derived.Test.YtnljjdfajmjdjaaJ32
namespace Go.Proofs.Ytnljjdfajmjdjaa
open Go.RowKit
set_option maxRecDepth 100000

/-! ### Departures are so far apart -/
/-- What a reader keeps of each flow: it has passed, or is the flow's own next time. -/
def Pace (x : Qm) (nx : Nat → Int) (now : Int) : Prop := ∀ k : Nat, k < 8 → nx k ≤ now ∨ (x.T k = true ∧ nx k = (x.F k).n)
theorem Pace.more {x : Qm} {nx : Nat → Int} {now now' : Int} (h : Pace x nx now) (hn : now ≤ now') : Pace x nx now' := fun k hk => by
  rcases h k hk with a | a
  · exact .inl (by omega)
  · exact .inr a
/-- A segment is put in; of those that are not there nothing is kept. -/
theorem Pace.enq {x : Qm} {nx nx' : Nat → Int} {now : Int} {s : Sg} (h : Pace x nx now) (hN : Near x now) (hn : 0 ≤ now ∧ now < 18446744073709551615)
    (hnx : ∀ k : Nat, k < 8 → nx' k = if (enqQ x s now).T k = true then nx k else 0) : Pace (enqQ x s now) nx' now := fun k hk => by
  rw [hnx k hk]
  split
  · rename_i t
    rcases h k hk with a | ⟨ht, e⟩
    · exact .inl a
    · by_cases p0 : (x.F k).p = 0
      · cases hd : deadF x now k with
        | true => exact .inl (by rw [e]; exact hN.dead hk hd hn.2)
        | false =>
          have c1 : (collQ x now).F k = x.F k := by simp [collQ, hd]
          have c2 : (collQ x now).T k = true := by simp [collQ, hd, ht]
          refine .inr ⟨t, ?_⟩
          rw [e]
          by_cases he : enqE s = 0
          · by_cases hs : (k : Int) = s.s
            · have hk' : s.s.toNat = k := by omega
              unfold enqQ
              rw [if_pos he]
              split
              · have e1 : (takeQ (collQ x now) s now).F k = takeF (collQ x now) s now := by show upF _ s.s.toNat _ k = _; rw [hk', upF_at]
                rw [e1]
                show _ = (preF (collQ x now) s now).n
                unfold preF
                rw [hk', if_pos c2, c1]
                split <;> rfl
              · rw [c1]
            · rw [(enq_els he hs).1, c1]
          · rw [enq_bad he]
      · exact .inr ⟨t, by rw [e, (enq_live ht p0).2.2.1]⟩
  · exact .inl hn.1
theorem Pace.none {d : Int → Int → Int} {x y : Qm} {nx : Nat → Int} {now : Int} (h : Pace x nx now) (e : Ends d x now y none) : Pace y nx now := by
  cases e with
  | none a _ _ _ =>
    intro k hk
    rcases h k hk with b | b
    · exact .inl b
    · exact .inr ⟨by rw [a.T]; exact b.1, by rw [a.n]; exact b.2⟩
/-- What departs is not ahead of what is kept, nor of its own stamp; what it takes is kept. -/
theorem Pace.some {d : Int → Int → Int} {x y : Qm} {nx : Nat → Int} {now : Int} {s : Sg} (h : Pace x nx now) (e : Ends d x now y (some s)) :
    (0 ≤ s.s ∧ s.s < 8) ∧ nx s.s.toNat ≤ now ∧ s.t ≤ now ∧ Pace y (upF nx s.s.toNat (addS now (d s.l s.s))) now := by
  cases e with
  | some a =>
    rename_i i r
    have hi := a.hi
    have hs := a.hs
    have hw := a.hw
    have hn : s.s.toNat = i := by omega
    have ht : (x.F i).n ≤ now ∧ s.t ≤ now := by
      unfold timeF at hw
      rw [a.hq] at hw
      have : ((s :: r).headD Sg.zero).t = s.t := rfl
      rw [this] at hw
      omega
    rw [hn]
    refine ⟨by omega, ?_, ht.2, fun k hk => ?_⟩
    · rcases h i hi with b | b
      · exact b
      · omega
    · by_cases e : k = i
      · subst e
        rw [upF_at]
        exact .inr ⟨by rw [a.T]; exact a.hT, by rw [a.n, hs]⟩
      · rw [upF_ne _ _ e]
        rcases h k hk with b | b
        · exact .inl b
        · exact .inr ⟨by rw [a.T]; exact b.1, by rw [a.ns k e]; exact b.2⟩

/-! ### The least time of all -/
/-- Of the first k flows: the least time of those with segments. -/
def leastN (x : Qm) : Nat → Option Int
  | 0 => none
  | k + 1 => if x.T k = true ∧ (x.F k).q ≠ [] then (match leastN x k with
    | none => some (timeF (x.F k))
    | some t => if timeF (x.F k) < t then some (timeF (x.F k)) else some t) else leastN x k
theorem leastN_none {x : Qm} : ∀ {k : Nat}, leastN x k = none → ∀ i, i < k → x.T i = true → (x.F i).q = []
  | k + 1, h, i, hi, ht => by
    unfold leastN at h
    split at h
    · split at h
      · cases h
      · split at h <;> cases h
    · rename_i hc
      by_cases e : i = k
      · subst e; exact Classical.byContradiction fun hq => hc ⟨ht, hq⟩
      · exact leastN_none h i (by omega) ht
theorem leastN_some {x : Qm} : ∀ {k : Nat} {t : Int}, leastN x k = some t → (∃ i, i < k ∧ x.T i = true ∧ (x.F i).q ≠ [] ∧ timeF (x.F i) = t) ∧ ∀ i, i < k → x.T i = true → (x.F i).q ≠ [] → t ≤ timeF (x.F i)
  | k + 1, t, h => by
    unfold leastN at h
    split at h
    · rename_i hc
      split at h
      · rename_i h0
        cases h
        refine ⟨⟨k, by omega, hc.1, hc.2, rfl⟩, fun i hi ht hq => ?_⟩
        by_cases e : i = k
        · subst e; omega
        · exact absurd (leastN_none h0 i (by omega) ht) hq
      · rename_i t0 h0
        obtain ⟨⟨i0, a, b, c, e0⟩, hl⟩ := leastN_some h0
        split at h
        · rename_i hlt
          cases h
          refine ⟨⟨k, by omega, hc.1, hc.2, rfl⟩, fun i hi ht hq => ?_⟩
          by_cases e : i = k
          · subst e; omega
          · have := hl i (by omega) ht hq; omega
        · rename_i hlt
          cases h
          refine ⟨⟨i0, by omega, b, c, e0⟩, fun i hi ht hq => ?_⟩
          by_cases e : i = k
          · subst e; omega
          · exact hl i (by omega) ht hq
    · rename_i hc
      obtain ⟨⟨i0, a, b, c, e0⟩, hl⟩ := leastN_some h
      refine ⟨⟨i0, by omega, b, c, e0⟩, fun i hi ht hq => ?_⟩
      by_cases e : i = k
      · subst e; exact absurd ⟨ht, hq⟩ hc
      · exact hl i (by omega) ht hq
/-- A pull has a segment just if the least time has come; else the watchdog tells that. -/
theorem ends_least {d : Int → Int → Int} {x y : Qm} {now : Int} {o : Option Sg} (hy : y.Ok) (e : Ends d x now y o) :
    (o.isSome = true ↔ ∃ t, leastN x 8 = some t ∧ t ≤ now) ∧ (o = none → lenQ y = lenQ x ∧ dogQ y = leastN x 8) ∧ (o.isSome = true → lenQ y + 1 = lenQ x) := by
  cases e with
  | some a =>
    refine ⟨⟨fun _ => ?_, fun _ => rfl⟩, fun e => (by cases e), fun _ => a.len⟩
    rename_i i s r _
    have hq : (x.F i).q ≠ [] := by rw [a.hq]; exact List.cons_ne_nil _ _
    cases h : leastN x 8 with
    | none => exact absurd (leastN_none h i a.hi a.hT) hq
    | some t => exact ⟨t, rfl, by have := (leastN_some h).2 i a.hi a.hT hq; have := a.hw; omega⟩
  | none a h late w =>
    refine ⟨⟨fun e => (by cases e), fun ⟨t, ht, hle⟩ => ?_⟩, fun _ => ⟨a.len, ?_⟩, fun e => (by cases e)⟩
    · obtain ⟨⟨i, hi, hT, hq, e⟩, _⟩ := leastN_some ht
      have := h i hi hT hq
      omega
    · cases hd : dogQ y with
      | none =>
        cases hl : leastN x 8 with
        | none => rfl
        | some t =>
          obtain ⟨⟨i, hi, hT, hq, _⟩, _⟩ := leastN_some hl
          have hT' : y.T i = true := by rw [a.T]; exact hT
          exact absurd (w i hi hT' (by rw [a.q]; exact hq)) (dog_none hd i hi hT')
      | some t =>
        obtain ⟨⟨b, hb, bT, bp, bt⟩, bl⟩ := dog_some hd
        have bq : (x.F b).q ≠ [] := by rw [← a.q]; exact (hy.is b hb bT).wt bp
        have bT' : x.T b = true := by rw [← a.T]; exact bT
        cases hl : leastN x 8 with
        | none => exact absurd (leastN_none hl b hb bT') bq
        | some t' =>
          obtain ⟨⟨i, hi, hT, hq, e⟩, l⟩ := leastN_some hl
          have h1 := l b hb bT' bq
          rw [← a.time] at h1
          have hT' : y.T i = true := by rw [a.T]; exact hT
          have h2 := bl i hi hT' (w i hi hT' (by rw [a.q]; exact hq))
          rw [a.time] at h2
          congr 1
          omega

/-! ### The order of what departs -/
/-- Of each flow: what came is what went, and then what is queued. -/
def Order (x : Qm) (put got : Nat → List Int) : Prop := ∀ k : Nat, k < 8 → got k ++ (x.F k).q.map Sg.f = put k
theorem Order.enq {x : Qm} {put got : Nat → List Int} (h : Order x put got) (hx : x.Ok) (s : Sg) (now : Int) :
    Order (enqQ x s now) (if InQ x s now then upF put s.s.toNat (put s.s.toNat ++ [s.f]) else put) got := fun k hk => by
  rw [enq_q hx s now hk]
  by_cases hi : InQ x s now
  · have hs := (enqE_is hi.1).1
    rw [if_pos hi]
    by_cases e : s.s = (k : Int)
    · have hn : s.s.toNat = k := by omega
      rw [if_pos ⟨hi, e⟩, hn, upF_at, ← h k hk]
      simp [segF]
    · rw [if_neg fun a => e a.2, upF_ne _ _ (by omega)]
      exact h k hk
  · rw [if_neg hi, if_neg fun a => hi a.1]; exact h k hk
theorem Order.none {d : Int → Int → Int} {x y : Qm} {put got : Nat → List Int} {now : Int} (h : Order x put got) (e : Ends d x now y none) : Order y put got := by
  cases e with
  | none a _ _ _ => intro k hk; rw [a.q]; exact h k hk
theorem Order.some {d : Int → Int → Int} {x y : Qm} {put got : Nat → List Int} {now : Int} {s : Sg} (h : Order x put got) (e : Ends d x now y (some s)) :
    Order y put (upF got s.s.toNat (got s.s.toNat ++ [s.f])) := by
  cases e with
  | some a =>
    rename_i i r
    have hi := a.hi
    have hs := a.hs
    have hn : s.s.toNat = i := by omega
    intro k hk
    rw [hn]
    by_cases e : k = i
    · subst e
      rw [upF_at, a.q, ← h k hk, a.hq]
      simp
    · rw [upF_ne _ _ e, a.qs k e]; exact h k hk
end Go.Proofs.Ytnljjdfajmjdjaa
namespace Go.Proofs.Ytnljjdfajmjdjaa
open Go.RowKit
set_option maxRecDepth 100000

/-! ### No times -/
/-- All times are 0. -/
def Zero (x : Qm) : Prop := ∀ i : Nat, i < 8 → (x.F i).n = 0 ∧ ∀ s ∈ (x.F i).q, s.t = 0
theorem Zero.time {x : Qm} (h : Zero x) {i : Nat} (hi : i < 8) : timeF (x.F i) = 0 := by
  obtain ⟨hn, hq⟩ := h i hi
  unfold timeF
  rw [hn]
  cases e : (x.F i).q with
  | nil => rfl
  | cons s r =>
    have : s.t = 0 := hq s (by rw [e]; exact List.mem_cons_self ..)
    show max 0 s.t = 0
    rw [this]; rfl
theorem Zero.alike {x y : Qm} (h : Zero x) (a : Alike x y) : Zero y := fun i hi => by rw [a.n, a.q]; exact h i hi
theorem Zero.enq {x : Qm} (h : Zero x) (hx : x.Ok) {s : Sg} (hs : s.t = 0) : Zero (enqQ x s 0) := fun i hi => by
  have hh := hx.hc.hh.1
  have ht : (segF x s 0).t = 0 := by
    show min s.t (addS 0 x.c.h) = 0
    have : 0 ≤ addS 0 x.c.h := (addS_fit (Int.le_refl 0) hh).1
    omega
  have hc : ((collQ x 0).F i).n = 0 := by
    cases hd : deadF x 0 i with
    | true => simp [collQ, hd, Fl.zero]
    | false => simp [collQ, hd]; exact (h i hi).1
  refine ⟨?_, fun a ha => ?_⟩
  · by_cases he : enqE s = 0
    · by_cases e : (i : Int) = s.s
      · have hn : s.s.toNat = i := by omega
        unfold enqQ
        rw [if_pos he]
        split
        · have e1 : (takeQ (collQ x 0) s 0).F i = takeF (collQ x 0) s 0 := by show upF _ s.s.toNat _ i = _; rw [hn, upF_at]
          rw [e1]
          show (preF (collQ x 0) s 0).n = 0
          unfold preF
          rw [hn]
          split
          · split
            · exact hc
            · exact hc
          · rfl
        · exact hc
      · rw [(enq_els he e).1]; exact hc
    · rw [enq_bad he]; exact (h i hi).1
  · rw [enq_q hx s 0 hi] at ha
    split at ha
    · rcases List.mem_append.1 ha with ha | ha
      · exact (h i hi).2 a ha
      · rw [List.mem_singleton.1 ha]; exact ht
    · exact (h i hi).2 a ha
theorem Zero.ends {d : Int → Int → Int} {x y : Qm} {o : Option Sg} (h : Zero x) (hd : ∀ l z, d l z = 0) (e : Ends d x 0 y o) : Zero y := by
  cases e with
  | none a _ _ _ => exact h.alike a
  | some a =>
    rename_i i s r
    intro j hj
    by_cases e : j = i
    · subst e
      rw [a.n, a.q, hd]
      refine ⟨rfl, fun b hb => (h j hj).2 b ?_⟩
      rw [a.hq]; exact List.mem_cons_of_mem _ hb
    · rw [a.ns j e, a.qs j e]; exact h j hj
theorem Zero.ready {x : Qm} (h : Zero x) (h0 : (x.F 0).q ≠ []) (h1 : (x.F 1).q ≠ []) : Ready x 0 :=
  ⟨⟨h0, by rw [h.time (by decide)]; decide⟩, h1, by rw [h.time (by decide)]; decide⟩
theorem zero_new (c : Cf) : Zero (newQ c) := fun _ _ => ⟨rfl, fun _ h => by cases h⟩

/-! ### There is room -/
theorem room_in {x : Qm} (hx : x.Ok) {s : Sg} {now : Int} (he : enqE s = 0) (h1 : (lenQ x : Int) < x.c.l) (h2 : ((x.F s.s.toNat).q.length : Int) < x.c.w) (hn : 0 ≤ now) (ht : s.t = 0) : InQ x s now := by
  refine ⟨he, ?_⟩
  have hh := (addS_fit hn hx.hc.hh.1).1
  unfold fateQ
  rw [if_neg (by omega), if_neg (by omega), if_neg (by rw [ht]; omega)]

/-! ### The two begin -/
/-- The first one alone is there. -/
structure Beg (x : Qm) (C : Cf) : Prop where
  c : x.c = C
  T0 : x.T 0 = true
  p0 : (x.F 0).p = 1
  c0 : (x.F 0).c = C.f
  N : x.N = [0]
  O : x.O = []
  T1 : x.T 1 = false
theorem in_new {x : Qm} (hx : x.Ok) {s : Sg} {now : Int} (hi : InQ x s now) (ht : x.T s.s.toNat = false) :
    ((enqQ x s now).F s.s.toNat).p = 1 ∧ ((enqQ x s now).F s.s.toNat).c = x.c.f ∧ ((enqQ x s now).F s.s.toNat).n = 0 ∧ ((enqQ x s now).F s.s.toNat).q = [segF x s now] ∧ (enqQ x s now).T s.s.toNat = true ∧ (enqQ x s now).N = x.N ++ [s.s] ∧ (enqQ x s now).O = x.O := by
  have hc : (collQ x now).T s.s.toNat = false := by simp [collQ, ht]
  have e3 : preF (collQ x now) s now = { Fl.zero with s := s.s, c := x.c.f } := by
    unfold preF
    rw [if_neg (by rw [hc]; decide)]; rfl
  have e1 : (takeQ (collQ x now) s now).F s.s.toNat = takeF (collQ x now) s now := upF_at _ _ _
  have e4 : takeF (collQ x now) s now = { Fl.zero with s := s.s, c := x.c.f, q := [segF x s now], p := 1, u := 0 } := by
    unfold takeF
    rw [e3]
    rfl
  have e5 : (takeQ (collQ x now) s now).N = x.N ++ [s.s] := by
    show (if (if (collQ x now).T s.s.toNat = true then ((collQ x now).F s.s.toNat).p else 0) = 0 then (collQ x now).N ++ [s.s] else (collQ x now).N) = _
    rw [if_pos (by rw [if_neg (by rw [hc]; decide)])]; rfl
  rw [enq_in hx hi, e1, e4]
  exact ⟨rfl, rfl, rfl, rfl, upF_at _ _ _, e5, rfl⟩
theorem new_beg {c : Cf} (hc : c.Ok) {s : Sg} {now : Int} (hs : s.s = 0) (hi : InQ (newQ c) s now) : Beg (enqQ (newQ c) s now) c := by
  have hn : s.s.toNat = 0 := by rw [hs]; rfl
  obtain ⟨a, b, _, _, e, f, g⟩ := in_new (new_ok hc) hi rfl
  rw [hn] at a b e
  have h1 := (enq_els (x := newQ c) (now := now) hi.1 (j := 1) (by rw [hs]; decide)).2
  exact ⟨enq_c _ _ _, e, a, b, by rw [f, hs]; rfl, g, by rw [h1]; rfl⟩
theorem Beg.again {x : Qm} {C : Cf} {s : Sg} {now : Int} (h : Beg x C) (hs : s.s = 0) : Beg (enqQ x s now) C := by
  have hn : s.s.toNat = 0 := by rw [hs]; rfl
  have p0 : (x.F 0).p ≠ 0 := by rw [h.p0]; decide
  obtain ⟨a, b, _, e⟩ := enq_live (s := s) (now := now) h.T0 p0
  have hN : (enqQ x s now).N = x.N := enq_kept (by rw [hn]; exact h.T0) (by rw [hn]; exact p0)
  have hO := (enq_lists (x := x) (s := s) (now := now)).1
  have h1 : (enqQ x s now).T 1 = false := by
    by_cases he : enqE s = 0
    · rw [(enq_els he (j := 1) (by rw [hs]; decide)).2]; simp [collQ, h.T1]
    · rw [enq_bad he]; exact h.T1
  exact ⟨(enq_c _ _ _).trans h.c, e, by rw [b]; exact h.p0, by rw [a]; exact h.c0, by rw [hN]; exact h.N, by rw [hO]; exact h.O, h1⟩
theorem Beg.both {x : Qm} {C : Cf} {s : Sg} {now L : Int} (hx : x.Ok) (h : Beg x C) (hs : s.s = 1) (hi : InQ x s now) (hL : 0 ≤ L) : Fair (enqQ x s now) C 0 0 L := by
  have hn : s.s.toNat = 1 := by rw [hs]; rfl
  have hf := hx.hc.hf
  rw [h.c] at hf
  have p0 : (x.F 0).p ≠ 0 := by rw [h.p0]; decide
  obtain ⟨a, b, _, e⟩ := enq_live (s := s) (now := now) h.T0 p0
  obtain ⟨a1, b1, _, _, e1, f1, g1⟩ := in_new hx hi (by rw [hn]; exact h.T1)
  rw [hn] at a1 b1 e1
  rw [h.c] at b1
  refine ⟨(enq_c _ _ _).trans h.c, e, e1, by rw [b]; exact .inl h.p0, .inl a1, ?_, ?_, 0, 0, by rw [a, h.c0]; omega, by rw [b1]; omega, .inl ⟨?_, rfl⟩⟩
  · rw [a, h.c0, b1]; omega
  · rw [a, h.c0, b1]; omega
  · rw [f1, g1, h.N, h.O, hs]; rfl
end Go.Proofs.Ytnljjdfajmjdjaa
namespace Go.Proofs.Ytnljjdfajmjdjaa
open Go.RowKit
set_option maxRecDepth 100000

/-- One flow alone is there: f, of the socket k. -/
structure Solo (x : Qm) (k : Nat) (f : Fl) : Prop where
  hk : k < 8
  F : x.F k = f
  T : x.T k = true
  els : ∀ j : Nat, j < 8 → j ≠ k → x.T j = false
  N : x.N = if f.p = 1 then [(k : Int)] else []
  O : x.O = if f.p = 2 then [(k : Int)] else []
theorem Solo.first {x : Qm} {k : Nat} {f : Fl} (h : Solo x k f) : firstQ x = if f.p = 3 then some k else none := by
  cases hf : firstQ x with
  | none =>
    rw [if_neg]
    intro e
    exact firstN_none hf k h.hk ⟨h.T, by rw [h.F]; exact e⟩
  | some b =>
    obtain ⟨hb, bT, bp⟩ := firstN_some hf
    have : b = k := Classical.byContradiction fun e => by have := h.els b hb e; rw [this] at bT; cases bT
    subst this
    rw [if_pos (by rw [← h.F]; exact bp)]
theorem Solo.dog {x : Qm} {k : Nat} {f : Fl} (h : Solo x k f) : dogQ x = if f.p = 3 then some (timeF f) else none := by
  unfold dogQ
  rw [h.first]
  split
  · rw [← h.F]; rfl
  · rfl
theorem Solo.len {x : Qm} (hx : x.Ok) {k : Nat} {f : Fl} (h : Solo x k f) : lenQ x = f.q.length := by
  have e := lenQ_up (x := newQ x.c) (y := { newQ x.c with F := upF (newQ x.c).F k f }) h.hk (fun j hj => upF_ne _ _ hj)
  have e1 : ({ newQ x.c with F := upF (newQ x.c).F k f } : Qm).F k = f := upF_at _ _ _
  have e2 : lenQ (newQ x.c) = 0 := by rw [lenQ_eq]; rfl
  have e3 : lenQ x = lenQ { newQ x.c with F := upF (newQ x.c).F k f } := lenQ_same fun i hi => by
    by_cases e : i = k
    · subst e; rw [h.F, e1]
    · have : ({ newQ x.c with F := upF (newQ x.c).F k f } : Qm).F i = Fl.zero := upF_ne _ _ e
      rw [this, hx.no i hi (h.els i hi e)]
  have e4 : ((newQ x.c).F k).q.length = 0 := rfl
  rw [e1] at e
  omega

/-! ### A turn, a pull -/
theorem Solo.turn {d : Int → Int → Int} {x : Qm} {now : Int} {k : Nat} {f : Fl} (hx : x.Ok) (h : Solo x k f) (hp : f.p = 1 ∨ f.p = 2) :
    (f.c ≤ 0 → ∃ y, turnQ d x now = .on y ∧ Solo y k { f with c := f.c + x.c.q, p := 2 } ∧ y.c = x.c) ∧
    (0 < f.c → f.q = [] → ∃ y, turnQ d x now = .on y ∧ Solo y k { f with p := 0, u := now } ∧ y.c = x.c) ∧
    (0 < f.c → f.q ≠ [] → now < timeF f → ∃ y, turnQ d x now = .on y ∧ Solo y k { f with p := 3 } ∧ y.c = x.c) ∧
    (∀ s r, 0 < f.c → f.q = s :: r → timeF f ≤ now → ∃ y, turnQ d x now = .stop y (some s) ∧ Solo y k { f with q := r, c := f.c - s.l, n := addS now (d s.l (k : Int)) } ∧ y.c = x.c) := by
  have hb : headB x.N x.O = true ∧ headS x.N x.O = (k : Int) ∧ ¬ (headF x.N x.O = true ∧ x.O ≠ []) ∧ x.N.erase (k : Int) = [] ∧ x.O.erase (k : Int) = [] := by
    rw [h.N, h.O]
    rcases hp with e | e <;> rw [e] <;> simp [headB, headS, headF]
  have same : ∀ {i : Nat}, headS x.N x.O = (i : Int) → i = k := fun e => by have := hb.2.1; omega
  -- what a turn that goes on leaves
  have mk : ∀ {y : Qm} {i : Nat} {c p u : Int}, p ≠ 1 → Stp x y now i c p u → Solo y k { f with c := c, p := p, u := u } ∧ y.c = x.c := fun {y i c p u} p1 st => by
    obtain rfl := same st.hs
    refine ⟨⟨h.hk, by rw [st.at_, h.F], by rw [st.T]; exact h.T, fun j hj hj' => by rw [st.T]; exact h.els j hj hj', ?_, ?_⟩, st.hk⟩
    · rw [st.N, hb.2.2.2.1, if_neg p1]
    · rw [st.O, hb.2.2.2.2]; rfl
  cases turn_is d now hx.ls with
  | none hb' ht => rw [hb.1] at hb'; cases hb'
  | more i _ hi hs hc ht =>
    obtain rfl := same hs
    rw [h.F] at hc
    refine ⟨fun _ => ⟨_, ht, ?_⟩, fun e => by omega, fun e => by omega, fun _ _ e => by omega⟩
    obtain ⟨i', c, p, u, st⟩ := turn_step hx ht
    have hi' := same st.hs
    have hw := st.how
    rw [hi', h.F] at hw
    rcases hw with ⟨_, rfl, rfl, rfl⟩ | ⟨e, _⟩
    · exact mk (by decide) st
    · omega
  | back i _ hi hs hc hq hf ht => exact absurd hf hb.2.2.1
  | gone i _ hi hs hc hq hf ht =>
    obtain rfl := same hs
    rw [h.F] at hc hq
    refine ⟨fun e => by omega, fun _ _ => ⟨_, ht, ?_⟩, fun _ e => absurd hq e, fun _ _ _ e => by rw [hq] at e; cases e⟩
    obtain ⟨i', c, p, u, st⟩ := turn_step hx ht
    have hi' := same st.hs
    have hw := st.how
    rw [hi', h.F] at hw
    rcases hw with ⟨e, _⟩ | ⟨_, rfl, ⟨_, _, _, e⟩ | ⟨rfl, _, rfl⟩ | ⟨_, e, _⟩⟩
    · omega
    · exact absurd e hb.2.2.1
    · exact mk (by decide) st
    · exact absurd hq e
  | wait i _ hi hs hc s r hq hw ht =>
    obtain rfl := same hs
    rw [h.F] at hc hq hw
    refine ⟨fun e => by omega, fun _ e => (by rw [hq] at e; cases e), fun _ _ _ => ⟨_, ht, ?_⟩, fun _ _ _ _ e => by omega⟩
    obtain ⟨i', c, p, u, st⟩ := turn_step hx ht
    have hi' := same st.hs
    have hw := st.how
    rw [hi', h.F] at hw
    rcases hw with ⟨e, _⟩ | ⟨_, rfl, ⟨_, e, _⟩ | ⟨_, e, _⟩ | ⟨rfl, _, rfl, _⟩⟩
    · omega
    · rw [hq] at e; cases e
    · rw [hq] at e; cases e
    · exact mk (by decide) st
  | dep i _ hi hs hc s r hq hw ht =>
    obtain rfl := same hs
    rw [h.F] at hc hq hw
    refine ⟨fun e => by omega, fun _ e => (by rw [hq] at e; cases e), fun _ _ e => by omega, fun s' r' _ e _ => ?_⟩
    rw [hq] at e
    cases e
    refine ⟨_, ht, ⟨h.hk, ?_, h.T, h.els, h.N, h.O⟩, rfl⟩
    show upF x.F i _ i = _
    rw [upF_at, h.F]
end Go.Proofs.Ytnljjdfajmjdjaa
namespace Go.Proofs.Ytnljjdfajmjdjaa
open Go.RowKit
set_option maxRecDepth 100000

/-- A credit c, more by q again and again till it is above 0, is e. -/
inductive Top (q : Int) : Int → Int → Prop where
  | done {c : Int} (h : 0 < c) : Top q c c
  | more {c e : Int} (h : c ≤ 0) (t : Top q (c + q) e) : Top q c e
theorem Top.all {q : Int} (hq : 0 < q) : ∀ (n : Nat) (c : Int), needK q c ≤ n → ∃ e, Top q c e
  | 0, c, h => by
    refine ⟨c, .done ?_⟩
    unfold needK at h
    split at h <;> omega
  | n + 1, c, h => by
    by_cases hc : c ≤ 0
    · obtain ⟨e, t⟩ := Top.all hq n (c + q) (by have := needK_less hq hc; omega)
      exact ⟨e, .more hc t⟩
    · exact ⟨c, .done (by omega)⟩
theorem Top.is {q : Int} (hq : 0 < q) (c : Int) : ∃ e, Top q c e := Top.all hq _ c (Nat.le_refl _)
theorem Top.pos {q c e : Int} (t : Top q c e) : 0 < e := by
  induction t with
  | done h => exact h
  | more _ _ ih => exact ih
theorem Top.one {q c e e' : Int} (t : Top q c e) (t' : Top q c e') : e = e' := by
  induction t with
  | done h => cases t' with
    | done _ => rfl
    | more h' _ => omega
  | more h _ ih => cases t' with
    | done h' => omega
    | more _ t => exact ih t

/-! ### A pull -/
theorem Solo.rest {d : Int → Int → Int} {x : Qm} {now : Int} {k : Nat} {f : Fl} (h : Solo x k f) (hp : f.p ≠ 1 ∧ f.p ≠ 2) : pullQ d x now = (x, none) := by
  refine pull_stop ?_
  unfold turnQ
  rw [if_pos]
  rw [h.N, h.O, if_neg hp.1, if_neg hp.2]; rfl
theorem Solo.pull {d : Int → Int → Int} {now : Int} (hn : U64 now) (hd : ∀ l z, 0 ≤ d l z) {k : Nat} {Q c e : Int} (t : Top Q c e) : ∀ {x : Qm} {f : Fl}, x.Ok → Solo x k f → (f.p = 1 ∨ f.p = 2) → f.c = c → x.c.q = Q →
    (f.q = [] → ∃ y, pullQ d x now = (y, none) ∧ y.Ok ∧ Solo y k { f with c := e, p := 0, u := now } ∧ y.c = x.c) ∧
    (f.q ≠ [] → now < timeF f → ∃ y, pullQ d x now = (y, none) ∧ y.Ok ∧ Solo y k { f with c := e, p := 3 } ∧ y.c = x.c) ∧
    (∀ s r, f.q = s :: r → timeF f ≤ now → ∃ y, pullQ d x now = (y, some s) ∧ y.Ok ∧ Solo y k { f with q := r, c := e - s.l, n := addS now (d s.l (k : Int)), p := if 0 < f.c then f.p else 2 } ∧ y.c = x.c) := by
  induction t with
  | done hc =>
    intro x f hx h hp hfc hq
    obtain ⟨_, h2, h3, h4⟩ := h.turn (d := d) (now := now) hx hp
    have hq0 := hx.hc.hq
    have hok := turn_ok hx hn hd
    refine ⟨fun hqe => ?_, fun hqe hw => ?_, fun s r hqe hw => ?_⟩
    · obtain ⟨y, ht, hs, hy⟩ := h2 (by omega) hqe
      refine ⟨y, ?_, hok.1 y ht, by rw [← hfc]; exact hs, hy⟩
      rw [pull_on hx.ls (by omega) ht]
      exact hs.rest ⟨by dsimp only; decide, by dsimp only; decide⟩
    · obtain ⟨y, ht, hs, hy⟩ := h3 (by omega) hqe hw
      refine ⟨y, ?_, hok.1 y ht, by rw [← hfc]; exact hs, hy⟩
      rw [pull_on hx.ls (by omega) ht]
      exact hs.rest ⟨by dsimp only; decide, by dsimp only; decide⟩
    · obtain ⟨y, ht, hs, hy⟩ := h4 s r (by omega) hqe hw
      refine ⟨y, pull_stop ht, hok.2 y _ ht, ?_, hy⟩
      rw [if_pos (by omega), ← hfc]
      exact hs
  | more hc _ ih =>
    intro x f hx h hp hfc hq
    obtain ⟨h1, _, _, _⟩ := h.turn (d := d) (now := now) hx hp
    have hq0 := hx.hc.hq
    obtain ⟨y, ht, hs, hy⟩ := h1 (by omega)
    have hyok := (turn_ok hx hn hd).1 y ht
    have e : pullQ d x now = pullQ d y now := pull_on hx.ls (by omega) ht
    obtain ⟨g1, g2, g3⟩ := ih hyok hs (.inr rfl) (by dsimp only; rw [hfc, hq]) (by rw [hy]; exact hq)
    rw [e]
    refine ⟨fun hqe => ?_, fun hqe hw => ?_, fun s r hqe hw => ?_⟩
    · obtain ⟨z, a, b, c, dd⟩ := g1 hqe
      exact ⟨z, a, b, c, dd.trans hy⟩
    · obtain ⟨z, a, b, c, dd⟩ := g2 hqe hw
      exact ⟨z, a, b, c, dd.trans hy⟩
    · obtain ⟨z, a, b, c, dd⟩ := g3 s r hqe hw
      refine ⟨z, a, b, ?_, dd.trans hy⟩
      rw [if_neg (by omega)]
      dsimp only at c
      have : (if 0 < f.c + x.c.q then (2 : Int) else 2) = 2 := by split <;> rfl
      rw [this] at c
      exact c
theorem Solo.deq {d : Int → Int → Int} {x : Qm} {now : Int} {k : Nat} {f : Fl} (h : Solo x k f) :
    (f.p ≠ 3 → deqQ d x now = pullQ d x now) ∧ (f.p = 3 → now < timeF f → deqQ d x now = pullQ d x now) ∧
    (f.p = 3 → timeF f ≤ now → deqQ d x now = pullQ d (putQ x k 2) now ∧ Solo (putQ x k 2) k { f with p := 2 }) := by
  have hput : f.p = 3 → Solo (putQ x k 2) k { f with p := 2 } := fun hp =>
    ⟨h.hk, by rw [putQ_F, h.F], h.T, h.els, by show x.N.erase (k : Int) = _; rw [h.N, hp]; rfl, by show x.O.erase (k : Int) ++ [(k : Int)] = _; rw [h.O, hp]; rfl⟩
  have hw : ∀ n {y : Qm} {g : Fl}, Solo y k g → (g.p = 3 → now < timeF g) → wakeN now n y = y := fun n {y g} hs hg => by
    cases n with
    | zero => rfl
    | succ n =>
      unfold wakeN
      rw [hs.first]
      split
      · rename_i e
        split at e
        · cases e
        · rfl
      · rename_i e
        split at e
        · rename_i hp
          cases e
          rw [if_neg (by rw [hs.F]; have := hg hp; omega)]
        · cases e
  refine ⟨fun hp => ?_, fun hp ht => ?_, fun hp ht => ⟨?_, hput hp⟩⟩
  · unfold deqQ; rw [hw 8 h fun e => absurd e hp]
  · unfold deqQ; rw [hw 8 h fun _ => ht]
  · unfold deqQ
    congr 1
    unfold wakeN
    rw [h.first, if_pos hp]
    dsimp only
    rw [if_pos (by rw [h.F]; exact ht)]
    exact hw 7 (hput hp) fun e => by cases e

/-! ### What is put in, and closed -/
theorem Solo.new {c : Cf} (hc : c.Ok) {s : Sg} {now : Int} {k : Nat} (hk : s.s = (k : Int)) (hi : InQ (newQ c) s now) :
    Solo (enqQ (newQ c) s now) k ⟨s.s, c.f, 1, 0, 0, [segF (newQ c) s now]⟩ := by
  have hs := (enqE_is hi.1).1
  have hn : s.s.toNat = k := by omega
  have hx := new_ok hc
  obtain ⟨a, b, n, q, e, f, g⟩ := in_new hx hi rfl
  rw [hn] at a b n q e
  have hok := (enq_ok hx (s := s) (now := now))
  have e1 : (enqQ (newQ c) s now).F k = takeF (collQ (newQ c) now) s now := by
    rw [enq_in hx hi]; show upF _ s.s.toNat _ k = _; rw [hn, upF_at]
  have e3 : preF (collQ (newQ c) now) s now = { Fl.zero with s := s.s, c := c.f } := by
    unfold preF
    rw [if_neg (by simp [collQ, newQ])]; rfl
  have e4 : takeF (collQ (newQ c) now) s now = ⟨s.s, c.f, 1, 0, 0, [segF (newQ c) s now]⟩ := by
    unfold takeF
    rw [e3]
    rfl
  exact ⟨by omega, by rw [e1, e4], e, fun j _ hj' => by rw [(enq_els hi.1 (j := j) (by omega)).2]; simp [collQ, newQ], by rw [f, hk]; rfl, by rw [g]; rfl⟩
/-- One more, of a flow that is somewhere. -/
theorem Solo.enq {x : Qm} (hx : x.Ok) {s : Sg} {now : Int} {k : Nat} {f : Fl} (h : Solo x k f) (hp : f.p ≠ 0) (hk : s.s = (k : Int)) (hi : InQ x s now) :
    Solo (enqQ x s now) k { f with q := f.q ++ [segF x s now] } := by
  have hs := (enqE_is hi.1).1
  have hn : s.s.toNat = k := by omega
  obtain ⟨c1, c2⟩ := coll_live (now := now) h.T (by rw [h.F]; exact hp)
  have e1 : (enqQ x s now).F k = takeF (collQ x now) s now := by
    rw [enq_in hx hi]; show upF _ s.s.toNat _ k = _; rw [hn, upF_at]
  have e3 : preF (collQ x now) s now = f := by
    unfold preF
    rw [hn, if_pos c2, c1, h.F, if_neg fun a => hp a.1]
  have e4 : takeF (collQ x now) s now = { f with q := f.q ++ [segF x s now] } := by
    unfold takeF
    rw [e3, if_neg hp, if_neg hp]
    rfl
  have hN : (enqQ x s now).N = x.N := enq_kept (by rw [hn]; exact h.T) (by rw [hn, h.F]; exact hp)
  exact ⟨h.hk, by rw [e1, e4], (enq_live (s := s) (now := now) h.T (by rw [h.F]; exact hp)).2.2.2, fun j hj hj' => by rw [(enq_els hi.1 (j := j) (by omega)).2]; simp [collQ, h.els j hj hj'], by rw [hN]; exact h.N, by rw [enq_lists.1]; exact h.O⟩
/-- One, of a flow that is nowhere: what it has then. -/
theorem Solo.enq0 {x : Qm} (hx : x.Ok) {s : Sg} {now : Int} {k : Nat} {f : Fl} (h : Solo x k f) (hp : f.p = 0) (hk : s.s = (k : Int)) (hi : InQ x s now) :
    Solo (enqQ x s now) k (if addS f.u 3000000000 ≤ now then ⟨s.s, x.c.f, 1, 0, 0, [segF x s now]⟩
      else { f with c := if addS f.u 40000000 ≤ now then max f.c x.c.q else f.c, p := 1, u := 0, q := f.q ++ [segF x s now] }) := by
  have hs := (enqE_is hi.1).1
  have hn : s.s.toNat = k := by omega
  have e1 : (enqQ x s now).F k = takeF (collQ x now) s now := by
    rw [enq_in hx hi]; show upF _ s.s.toNat _ k = _; rw [hn, upF_at]
  have eT : (enqQ x s now).T k = true := by rw [enq_in hx hi]; show upF _ s.s.toNat _ k = _; rw [hn, upF_at]
  have hd : deadF x now k = decide (addS f.u 3000000000 ≤ now) := by unfold deadF; rw [h.T, h.F, hp]; simp
  have hT : (if (collQ x now).T s.s.toNat = true then ((collQ x now).F s.s.toNat).p else 0) = 0 := by
    rw [hn]
    split
    · by_cases a : addS f.u 3000000000 ≤ now
      · simp [collQ, hd, a, Fl.zero]
      · simp [collQ, hd, a, h.F, hp]
    · rfl
  have hN : (enqQ x s now).N = [(k : Int)] := by
    rw [enq_in hx hi]
    show (if (if (collQ x now).T s.s.toNat = true then ((collQ x now).F s.s.toNat).p else 0) = 0 then (collQ x now).N ++ [s.s] else (collQ x now).N) = _
    rw [if_pos hT, hk]
    show x.N ++ _ = _
    rw [h.N, hp]; rfl
  have hO : (enqQ x s now).O = [] := by rw [enq_lists.1, h.O, hp]; rfl
  have hels : ∀ j : Nat, j < 8 → j ≠ k → (enqQ x s now).T j = false := fun j hj hj' => by rw [(enq_els hi.1 (j := j) (by omega)).2]; simp [collQ, h.els j hj hj']
  have hF : takeF (collQ x now) s now = (if addS f.u 3000000000 ≤ now then ⟨s.s, x.c.f, 1, 0, 0, [segF x s now]⟩
      else { f with c := if addS f.u 40000000 ≤ now then max f.c x.c.q else f.c, p := 1, u := 0, q := f.q ++ [segF x s now] }) := by
    by_cases a : addS f.u 3000000000 ≤ now
    · rw [if_pos a]
      have e3 : preF (collQ x now) s now = { Fl.zero with s := s.s, c := x.c.f } := by
        unfold preF
        rw [hn, if_neg (by simp [collQ, hd, a])]; rfl
      unfold takeF
      rw [e3]
      rfl
    · rw [if_neg a]
      have c1 : (collQ x now).F k = f := by simp [collQ, hd, a, h.F]
      have c2 : (collQ x now).T k = true := by simp [collQ, hd, a, h.T]
      have e3 : preF (collQ x now) s now = { f with c := if addS f.u 40000000 ≤ now then max f.c x.c.q else f.c } := by
        unfold preF
        rw [hn, if_pos c2, c1]
        by_cases b : addS f.u 40000000 ≤ now
        · rw [if_pos ⟨hp, b⟩, if_pos b]; rfl
        · rw [if_neg fun e => b e.2, if_neg b]
      unfold takeF
      rw [e3]
      dsimp only
      rw [if_pos hp, if_pos hp]
      rfl
  refine ⟨h.hk, e1.trans hF, eT, hels, ?_, ?_⟩
  · rw [hN]; split <;> rfl
  · rw [hO]; split <;> rfl
theorem Solo.cls {x : Qm} {k : Nat} {f : Fl} (h : Solo x k f) :
    clsV x (k : Int) = f.q ∧ (∀ j : Nat, j < 8 → (clsQ x (k : Int)).T j = false) ∧ (clsQ x (k : Int)).N = [] ∧ (clsQ x (k : Int)).O = [] ∧ (clsQ x (k : Int)).c = x.c := by
  have hk := h.hk
  have hc : (0 ≤ (k : Int) ∧ (k : Int) < 8) ∧ x.T (k : Int).toNat = true := ⟨by omega, h.T⟩
  unfold clsV clsQ
  rw [if_pos hc, if_pos hc]
  refine ⟨by rw [← h.F]; rfl, fun j hj => ?_, ?_, ?_, rfl⟩
  · show upF x.T k false j = false
    by_cases e : j = k
    · subst e; rw [upF_at]
    · rw [upF_ne _ _ e]; exact h.els j hj e
  · show x.N.erase (k : Int) = []
    rw [h.N]; split <;> simp
  · show x.O.erase (k : Int) = []
    rw [h.O]; split <;> simp
end Go.Proofs.Ytnljjdfajmjdjaa
