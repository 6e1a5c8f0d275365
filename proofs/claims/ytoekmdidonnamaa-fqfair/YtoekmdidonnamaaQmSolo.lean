/-
  The document's queue as plain numbers and lists: a queue with one flow alone: what is put in, pulled, and closed leaves of it. No program is spoken of. Conditions: none.
-/
import Derived.Test.YtoekmdidonnamaaQmBeg
namespace Go.Proofs.Ytoekmdidonnamaa
open Go.RowKit
set_option maxRecDepth 100000

/-- One flow alone is there: f, of the socket k. -/
structure Solo (x : Qm) (k : Nat) (f : Fl) : Prop where
  hk : k < 8
  F : x.F k = f
  T : x.T k = true
  els : ∀ j : Nat, j < 8 → j ≠ k → x.T j = false
  N : x.N = if f.p = 1 then [(k : Int)] else []
  O : x.O = if f.p = 2 then [(k : Int)] else []
theorem Solo.first {x : Qm} {k : Nat} {f : Fl} (h : Solo x k f) : firstQ x = if f.p = 3 then some k else none := by
  cases hf : firstQ x with
  | none =>
    rw [if_neg]
    intro e
    exact firstN_none hf k h.hk ⟨h.T, by rw [h.F]; exact e⟩
  | some b =>
    obtain ⟨hb, bT, bp⟩ := firstN_some hf
    have : b = k := Classical.byContradiction fun e => by have := h.els b hb e; rw [this] at bT; cases bT
    subst this
    rw [if_pos (by rw [← h.F]; exact bp)]
theorem Solo.dog {x : Qm} {k : Nat} {f : Fl} (h : Solo x k f) : dogQ x = if f.p = 3 then some (timeF f) else none := by
  unfold dogQ
  rw [h.first]
  split
  · rw [← h.F]; rfl
  · rfl
theorem Solo.len {x : Qm} (hx : x.Ok) {k : Nat} {f : Fl} (h : Solo x k f) : lenQ x = f.q.length := by
  have e := lenQ_up (x := newQ x.c) (y := { newQ x.c with F := upF (newQ x.c).F k f }) h.hk (fun j hj => upF_ne _ _ hj)
  have e1 : ({ newQ x.c with F := upF (newQ x.c).F k f } : Qm).F k = f := upF_at _ _ _
  have e2 : lenQ (newQ x.c) = 0 := by rw [lenQ_eq]; rfl
  have e3 : lenQ x = lenQ { newQ x.c with F := upF (newQ x.c).F k f } := lenQ_same fun i hi => by
    by_cases e : i = k
    · subst e; rw [h.F, e1]
    · have : ({ newQ x.c with F := upF (newQ x.c).F k f } : Qm).F i = Fl.zero := upF_ne _ _ e
      rw [this, hx.no i hi (h.els i hi e)]
  have e4 : ((newQ x.c).F k).q.length = 0 := rfl
  rw [e1] at e
  omega

/-! ### A turn, a pull -/
theorem Solo.turn {d : Int → Int → Int} {x : Qm} {now : Int} {k : Nat} {f : Fl} (hx : x.Ok) (h : Solo x k f) (hp : f.p = 1 ∨ f.p = 2) :
    (f.c ≤ 0 → ∃ y, turnQ d x now = .on y ∧ Solo y k { f with c := f.c + x.c.q, p := 2 } ∧ y.c = x.c) ∧
    (0 < f.c → f.q = [] → ∃ y, turnQ d x now = .on y ∧ Solo y k { f with p := 0, u := now } ∧ y.c = x.c) ∧
    (0 < f.c → f.q ≠ [] → now < timeF f → ∃ y, turnQ d x now = .on y ∧ Solo y k { f with p := 3 } ∧ y.c = x.c) ∧
    (∀ s r, 0 < f.c → f.q = s :: r → timeF f ≤ now → ∃ y, turnQ d x now = .stop y (some s) ∧ Solo y k { f with q := r, c := f.c - s.l, n := addS now (d s.l (k : Int)) } ∧ y.c = x.c) := by
  have hb : headB x.N x.O = true ∧ headS x.N x.O = (k : Int) ∧ ¬ (headF x.N x.O = true ∧ x.O ≠ []) ∧ x.N.erase (k : Int) = [] ∧ x.O.erase (k : Int) = [] := by
    rw [h.N, h.O]
    rcases hp with e | e <;> rw [e] <;> simp [headB, headS, headF]
  have same : ∀ {i : Nat}, headS x.N x.O = (i : Int) → i = k := fun e => by have := hb.2.1; omega
  -- what a turn that goes on leaves
  have mk : ∀ {y : Qm} {i : Nat} {c p u : Int}, p ≠ 1 → Stp x y now i c p u → Solo y k { f with c := c, p := p, u := u } ∧ y.c = x.c := fun {y i c p u} p1 st => by
    obtain rfl := same st.hs
    refine ⟨⟨h.hk, by rw [st.at_, h.F], by rw [st.T]; exact h.T, fun j hj hj' => by rw [st.T]; exact h.els j hj hj', ?_, ?_⟩, st.hk⟩
    · rw [st.N, hb.2.2.2.1, if_neg p1]
    · rw [st.O, hb.2.2.2.2]; rfl
  cases turn_is d now hx.ls with
  | none hb' ht => rw [hb.1] at hb'; cases hb'
  | more i _ hi hs hc ht =>
    obtain rfl := same hs
    rw [h.F] at hc
    refine ⟨fun _ => ⟨_, ht, ?_⟩, fun e => by omega, fun e => by omega, fun _ _ e => by omega⟩
    obtain ⟨i', c, p, u, st⟩ := turn_step hx ht
    have hi' := same st.hs
    have hw := st.how
    rw [hi', h.F] at hw
    rcases hw with ⟨_, rfl, rfl, rfl⟩ | ⟨e, _⟩
    · exact mk (by decide) st
    · omega
  | back i _ hi hs hc hq hf ht => exact absurd hf hb.2.2.1
  | gone i _ hi hs hc hq hf ht =>
    obtain rfl := same hs
    rw [h.F] at hc hq
    refine ⟨fun e => by omega, fun _ _ => ⟨_, ht, ?_⟩, fun _ e => absurd hq e, fun _ _ _ e => by rw [hq] at e; cases e⟩
    obtain ⟨i', c, p, u, st⟩ := turn_step hx ht
    have hi' := same st.hs
    have hw := st.how
    rw [hi', h.F] at hw
    rcases hw with ⟨e, _⟩ | ⟨_, rfl, ⟨_, _, _, e⟩ | ⟨rfl, _, rfl⟩ | ⟨_, e, _⟩⟩
    · omega
    · exact absurd e hb.2.2.1
    · exact mk (by decide) st
    · exact absurd hq e
  | wait i _ hi hs hc s r hq hw ht =>
    obtain rfl := same hs
    rw [h.F] at hc hq hw
    refine ⟨fun e => by omega, fun _ e => (by rw [hq] at e; cases e), fun _ _ _ => ⟨_, ht, ?_⟩, fun _ _ _ _ e => by omega⟩
    obtain ⟨i', c, p, u, st⟩ := turn_step hx ht
    have hi' := same st.hs
    have hw := st.how
    rw [hi', h.F] at hw
    rcases hw with ⟨e, _⟩ | ⟨_, rfl, ⟨_, e, _⟩ | ⟨_, e, _⟩ | ⟨rfl, _, rfl, _⟩⟩
    · omega
    · rw [hq] at e; cases e
    · rw [hq] at e; cases e
    · exact mk (by decide) st
  | dep i _ hi hs hc s r hq hw ht =>
    obtain rfl := same hs
    rw [h.F] at hc hq hw
    refine ⟨fun e => by omega, fun _ e => (by rw [hq] at e; cases e), fun _ _ e => by omega, fun s' r' _ e _ => ?_⟩
    rw [hq] at e
    cases e
    refine ⟨_, ht, ⟨h.hk, ?_, h.T, h.els, h.N, h.O⟩, rfl⟩
    show upF x.F i _ i = _
    rw [upF_at, h.F]
end Go.Proofs.Ytoekmdidonnamaa
