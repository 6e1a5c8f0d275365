/-
  The document's queue as plain numbers and lists: how far two departures of a flow are apart; the least time of all; the order of what departs. No program is spoken of. Conditions: none.
-/
import Derived.Test.YtoekmdidonnamaaQmEnq
namespace Go.Proofs.Ytoekmdidonnamaa
open Go.RowKit
set_option maxRecDepth 100000

/-! ### Departures are so far apart -/
/-- What a reader keeps of each flow: it has passed, or is the flow's own next time. -/
def Pace (x : Qm) (nx : Nat → Int) (now : Int) : Prop := ∀ k : Nat, k < 8 → nx k ≤ now ∨ (x.T k = true ∧ nx k = (x.F k).n)
theorem Pace.more {x : Qm} {nx : Nat → Int} {now now' : Int} (h : Pace x nx now) (hn : now ≤ now') : Pace x nx now' := fun k hk => by
  rcases h k hk with a | a
  · exact .inl (by omega)
  · exact .inr a
/-- A segment is put in; of those that are not there nothing is kept. -/
theorem Pace.enq {x : Qm} {nx nx' : Nat → Int} {now : Int} {s : Sg} (h : Pace x nx now) (hN : Near x now) (hn : 0 ≤ now ∧ now < 18446744073709551615)
    (hnx : ∀ k : Nat, k < 8 → nx' k = if (enqQ x s now).T k = true then nx k else 0) : Pace (enqQ x s now) nx' now := fun k hk => by
  rw [hnx k hk]
  split
  · rename_i t
    rcases h k hk with a | ⟨ht, e⟩
    · exact .inl a
    · by_cases p0 : (x.F k).p = 0
      · cases hd : deadF x now k with
        | true => exact .inl (by rw [e]; exact hN.dead hk hd hn.2)
        | false =>
          have c1 : (collQ x now).F k = x.F k := by simp [collQ, hd]
          have c2 : (collQ x now).T k = true := by simp [collQ, hd, ht]
          refine .inr ⟨t, ?_⟩
          rw [e]
          by_cases he : enqE s = 0
          · by_cases hs : (k : Int) = s.s
            · have hk' : s.s.toNat = k := by omega
              unfold enqQ
              rw [if_pos he]
              split
              · have e1 : (takeQ (collQ x now) s now).F k = takeF (collQ x now) s now := by show upF _ s.s.toNat _ k = _; rw [hk', upF_at]
                rw [e1]
                show _ = (preF (collQ x now) s now).n
                unfold preF
                rw [hk', if_pos c2, c1]
                split <;> rfl
              · rw [c1]
            · rw [(enq_els he hs).1, c1]
          · rw [enq_bad he]
      · exact .inr ⟨t, by rw [e, (enq_live ht p0).2.2.1]⟩
  · exact .inl hn.1
theorem Pace.none {d : Int → Int → Int} {x y : Qm} {nx : Nat → Int} {now : Int} (h : Pace x nx now) (e : Ends d x now y none) : Pace y nx now := by
  cases e with
  | none a _ _ _ =>
    intro k hk
    rcases h k hk with b | b
    · exact .inl b
    · exact .inr ⟨by rw [a.T]; exact b.1, by rw [a.n]; exact b.2⟩
/-- What departs is not ahead of what is kept, nor of its own stamp; what it takes is kept. -/
theorem Pace.some {d : Int → Int → Int} {x y : Qm} {nx : Nat → Int} {now : Int} {s : Sg} (h : Pace x nx now) (e : Ends d x now y (some s)) :
    (0 ≤ s.s ∧ s.s < 8) ∧ nx s.s.toNat ≤ now ∧ s.t ≤ now ∧ Pace y (upF nx s.s.toNat (addS now (d s.l s.s))) now := by
  cases e with
  | some a =>
    rename_i i r
    have hi := a.hi
    have hs := a.hs
    have hw := a.hw
    have hn : s.s.toNat = i := by omega
    have ht : (x.F i).n ≤ now ∧ s.t ≤ now := by
      unfold timeF at hw
      rw [a.hq] at hw
      have : ((s :: r).headD Sg.zero).t = s.t := rfl
      rw [this] at hw
      omega
    rw [hn]
    refine ⟨by omega, ?_, ht.2, fun k hk => ?_⟩
    · rcases h i hi with b | b
      · exact b
      · omega
    · by_cases e : k = i
      · subst e
        rw [upF_at]
        exact .inr ⟨by rw [a.T]; exact a.hT, by rw [a.n, hs]⟩
      · rw [upF_ne _ _ e]
        rcases h k hk with b | b
        · exact .inl b
        · exact .inr ⟨by rw [a.T]; exact b.1, by rw [a.ns k e]; exact b.2⟩

/-! ### The least time of all -/
/-- Of the first k flows: the least time of those with segments. -/
def leastN (x : Qm) : Nat → Option Int
  | 0 => none
  | k + 1 => if x.T k = true ∧ (x.F k).q ≠ [] then (match leastN x k with
    | none => some (timeF (x.F k))
    | some t => if timeF (x.F k) < t then some (timeF (x.F k)) else some t) else leastN x k
theorem leastN_none {x : Qm} : ∀ {k : Nat}, leastN x k = none → ∀ i, i < k → x.T i = true → (x.F i).q = []
  | k + 1, h, i, hi, ht => by
    unfold leastN at h
    split at h
    · split at h
      · cases h
      · split at h <;> cases h
    · rename_i hc
      by_cases e : i = k
      · subst e; exact Classical.byContradiction fun hq => hc ⟨ht, hq⟩
      · exact leastN_none h i (by omega) ht
theorem leastN_some {x : Qm} : ∀ {k : Nat} {t : Int}, leastN x k = some t → (∃ i, i < k ∧ x.T i = true ∧ (x.F i).q ≠ [] ∧ timeF (x.F i) = t) ∧ ∀ i, i < k → x.T i = true → (x.F i).q ≠ [] → t ≤ timeF (x.F i)
  | k + 1, t, h => by
    unfold leastN at h
    split at h
    · rename_i hc
      split at h
      · rename_i h0
        cases h
        refine ⟨⟨k, by omega, hc.1, hc.2, rfl⟩, fun i hi ht hq => ?_⟩
        by_cases e : i = k
        · subst e; omega
        · exact absurd (leastN_none h0 i (by omega) ht) hq
      · rename_i t0 h0
        obtain ⟨⟨i0, a, b, c, e0⟩, hl⟩ := leastN_some h0
        split at h
        · rename_i hlt
          cases h
          refine ⟨⟨k, by omega, hc.1, hc.2, rfl⟩, fun i hi ht hq => ?_⟩
          by_cases e : i = k
          · subst e; omega
          · have := hl i (by omega) ht hq; omega
        · rename_i hlt
          cases h
          refine ⟨⟨i0, by omega, b, c, e0⟩, fun i hi ht hq => ?_⟩
          by_cases e : i = k
          · subst e; omega
          · exact hl i (by omega) ht hq
    · rename_i hc
      obtain ⟨⟨i0, a, b, c, e0⟩, hl⟩ := leastN_some h
      refine ⟨⟨i0, by omega, b, c, e0⟩, fun i hi ht hq => ?_⟩
      by_cases e : i = k
      · subst e; exact absurd ⟨ht, hq⟩ hc
      · exact hl i (by omega) ht hq
/-- A pull has a segment just if the least time has come; else the watchdog tells that. -/
theorem ends_least {d : Int → Int → Int} {x y : Qm} {now : Int} {o : Option Sg} (hy : y.Ok) (e : Ends d x now y o) :
    (o.isSome = true ↔ ∃ t, leastN x 8 = some t ∧ t ≤ now) ∧ (o = none → lenQ y = lenQ x ∧ dogQ y = leastN x 8) ∧ (o.isSome = true → lenQ y + 1 = lenQ x) := by
  cases e with
  | some a =>
    refine ⟨⟨fun _ => ?_, fun _ => rfl⟩, fun e => (by cases e), fun _ => a.len⟩
    rename_i i s r _
    have hq : (x.F i).q ≠ [] := by rw [a.hq]; exact List.cons_ne_nil _ _
    cases h : leastN x 8 with
    | none => exact absurd (leastN_none h i a.hi a.hT) hq
    | some t => exact ⟨t, rfl, by have := (leastN_some h).2 i a.hi a.hT hq; have := a.hw; omega⟩
  | none a h late w =>
    refine ⟨⟨fun e => (by cases e), fun ⟨t, ht, hle⟩ => ?_⟩, fun _ => ⟨a.len, ?_⟩, fun e => (by cases e)⟩
    · obtain ⟨⟨i, hi, hT, hq, e⟩, _⟩ := leastN_some ht
      have := h i hi hT hq
      omega
    · cases hd : dogQ y with
      | none =>
        cases hl : leastN x 8 with
        | none => rfl
        | some t =>
          obtain ⟨⟨i, hi, hT, hq, _⟩, _⟩ := leastN_some hl
          have hT' : y.T i = true := by rw [a.T]; exact hT
          exact absurd (w i hi hT' (by rw [a.q]; exact hq)) (dog_none hd i hi hT')
      | some t =>
        obtain ⟨⟨b, hb, bT, bp, bt⟩, bl⟩ := dog_some hd
        have bq : (x.F b).q ≠ [] := by rw [← a.q]; exact (hy.is b hb bT).wt bp
        have bT' : x.T b = true := by rw [← a.T]; exact bT
        cases hl : leastN x 8 with
        | none => exact absurd (leastN_none hl b hb bT') bq
        | some t' =>
          obtain ⟨⟨i, hi, hT, hq, e⟩, l⟩ := leastN_some hl
          have h1 := l b hb bT' bq
          rw [← a.time] at h1
          have hT' : y.T i = true := by rw [a.T]; exact hT
          have h2 := bl i hi hT' (w i hi hT' (by rw [a.q]; exact hq))
          rw [a.time] at h2
          congr 1
          omega

/-! ### The order of what departs -/
/-- Of each flow: what came is what went, and then what is queued. -/
def Order (x : Qm) (put got : Nat → List Int) : Prop := ∀ k : Nat, k < 8 → got k ++ (x.F k).q.map Sg.f = put k
theorem Order.enq {x : Qm} {put got : Nat → List Int} (h : Order x put got) (hx : x.Ok) (s : Sg) (now : Int) :
    Order (enqQ x s now) (if InQ x s now then upF put s.s.toNat (put s.s.toNat ++ [s.f]) else put) got := fun k hk => by
  rw [enq_q hx s now hk]
  by_cases hi : InQ x s now
  · have hs := (enqE_is hi.1).1
    rw [if_pos hi]
    by_cases e : s.s = (k : Int)
    · have hn : s.s.toNat = k := by omega
      rw [if_pos ⟨hi, e⟩, hn, upF_at, ← h k hk]
      simp [segF]
    · rw [if_neg fun a => e a.2, upF_ne _ _ (by omega)]
      exact h k hk
  · rw [if_neg hi, if_neg fun a => hi a.1]; exact h k hk
theorem Order.none {d : Int → Int → Int} {x y : Qm} {put got : Nat → List Int} {now : Int} (h : Order x put got) (e : Ends d x now y none) : Order y put got := by
  cases e with
  | none a _ _ _ => intro k hk; rw [a.q]; exact h k hk
theorem Order.some {d : Int → Int → Int} {x y : Qm} {put got : Nat → List Int} {now : Int} {s : Sg} (h : Order x put got) (e : Ends d x now y (some s)) :
    Order y put (upF got s.s.toNat (got s.s.toNat ++ [s.f])) := by
  cases e with
  | some a =>
    rename_i i r
    have hi := a.hi
    have hs := a.hs
    have hn : s.s.toNat = i := by omega
    intro k hk
    rw [hn]
    by_cases e : k = i
    · subst e
      rw [upF_at, a.q, ← h k hk, a.hq]
      simp
    · rw [upF_ne _ _ e, a.qs k e]; exact h k hk
end Go.Proofs.Ytoekmdidonnamaa
