/-
  The document's queue as plain numbers and lists: a pull of a queue with one flow alone, whatever its place; what is put in and closed there. No program is spoken of. Conditions: none.
-/
import Derived.Test.YtoekmdidonnamaaQmSolo
namespace Go.Proofs.Ytoekmdidonnamaa
open Go.RowKit
set_option maxRecDepth 100000

/-- A credit c, more by q again and again till it is above 0, is e. -/
inductive Top (q : Int) : Int → Int → Prop where
  | done {c : Int} (h : 0 < c) : Top q c c
  | more {c e : Int} (h : c ≤ 0) (t : Top q (c + q) e) : Top q c e
theorem Top.all {q : Int} (hq : 0 < q) : ∀ (n : Nat) (c : Int), needK q c ≤ n → ∃ e, Top q c e
  | 0, c, h => by
    refine ⟨c, .done ?_⟩
    unfold needK at h
    split at h <;> omega
  | n + 1, c, h => by
    by_cases hc : c ≤ 0
    · obtain ⟨e, t⟩ := Top.all hq n (c + q) (by have := needK_less hq hc; omega)
      exact ⟨e, .more hc t⟩
    · exact ⟨c, .done (by omega)⟩
theorem Top.is {q : Int} (hq : 0 < q) (c : Int) : ∃ e, Top q c e := Top.all hq _ c (Nat.le_refl _)
theorem Top.pos {q c e : Int} (t : Top q c e) : 0 < e := by
  induction t with
  | done h => exact h
  | more _ _ ih => exact ih
theorem Top.one {q c e e' : Int} (t : Top q c e) (t' : Top q c e') : e = e' := by
  induction t with
  | done h => cases t' with
    | done _ => rfl
    | more h' _ => omega
  | more h _ ih => cases t' with
    | done h' => omega
    | more _ t => exact ih t

/-! ### A pull -/
theorem Solo.rest {d : Int → Int → Int} {x : Qm} {now : Int} {k : Nat} {f : Fl} (h : Solo x k f) (hp : f.p ≠ 1 ∧ f.p ≠ 2) : pullQ d x now = (x, none) := by
  refine pull_stop ?_
  unfold turnQ
  rw [if_pos]
  rw [h.N, h.O, if_neg hp.1, if_neg hp.2]; rfl
theorem Solo.pull {d : Int → Int → Int} {now : Int} (hn : U64 now) (hd : ∀ l z, 0 ≤ d l z) {k : Nat} {Q c e : Int} (t : Top Q c e) : ∀ {x : Qm} {f : Fl}, x.Ok → Solo x k f → (f.p = 1 ∨ f.p = 2) → f.c = c → x.c.q = Q →
    (f.q = [] → ∃ y, pullQ d x now = (y, none) ∧ y.Ok ∧ Solo y k { f with c := e, p := 0, u := now } ∧ y.c = x.c) ∧
    (f.q ≠ [] → now < timeF f → ∃ y, pullQ d x now = (y, none) ∧ y.Ok ∧ Solo y k { f with c := e, p := 3 } ∧ y.c = x.c) ∧
    (∀ s r, f.q = s :: r → timeF f ≤ now → ∃ y, pullQ d x now = (y, some s) ∧ y.Ok ∧ Solo y k { f with q := r, c := e - s.l, n := addS now (d s.l (k : Int)), p := if 0 < f.c then f.p else 2 } ∧ y.c = x.c) := by
  induction t with
  | done hc =>
    intro x f hx h hp hfc hq
    obtain ⟨_, h2, h3, h4⟩ := h.turn (d := d) (now := now) hx hp
    have hq0 := hx.hc.hq
    have hok := turn_ok hx hn hd
    refine ⟨fun hqe => ?_, fun hqe hw => ?_, fun s r hqe hw => ?_⟩
    · obtain ⟨y, ht, hs, hy⟩ := h2 (by omega) hqe
      refine ⟨y, ?_, hok.1 y ht, by rw [← hfc]; exact hs, hy⟩
      rw [pull_on hx.ls (by omega) ht]
      exact hs.rest ⟨by dsimp only; decide, by dsimp only; decide⟩
    · obtain ⟨y, ht, hs, hy⟩ := h3 (by omega) hqe hw
      refine ⟨y, ?_, hok.1 y ht, by rw [← hfc]; exact hs, hy⟩
      rw [pull_on hx.ls (by omega) ht]
      exact hs.rest ⟨by dsimp only; decide, by dsimp only; decide⟩
    · obtain ⟨y, ht, hs, hy⟩ := h4 s r (by omega) hqe hw
      refine ⟨y, pull_stop ht, hok.2 y _ ht, ?_, hy⟩
      rw [if_pos (by omega), ← hfc]
      exact hs
  | more hc _ ih =>
    intro x f hx h hp hfc hq
    obtain ⟨h1, _, _, _⟩ := h.turn (d := d) (now := now) hx hp
    have hq0 := hx.hc.hq
    obtain ⟨y, ht, hs, hy⟩ := h1 (by omega)
    have hyok := (turn_ok hx hn hd).1 y ht
    have e : pullQ d x now = pullQ d y now := pull_on hx.ls (by omega) ht
    obtain ⟨g1, g2, g3⟩ := ih hyok hs (.inr rfl) (by dsimp only; rw [hfc, hq]) (by rw [hy]; exact hq)
    rw [e]
    refine ⟨fun hqe => ?_, fun hqe hw => ?_, fun s r hqe hw => ?_⟩
    · obtain ⟨z, a, b, c, dd⟩ := g1 hqe
      exact ⟨z, a, b, c, dd.trans hy⟩
    · obtain ⟨z, a, b, c, dd⟩ := g2 hqe hw
      exact ⟨z, a, b, c, dd.trans hy⟩
    · obtain ⟨z, a, b, c, dd⟩ := g3 s r hqe hw
      refine ⟨z, a, b, ?_, dd.trans hy⟩
      rw [if_neg (by omega)]
      dsimp only at c
      have : (if 0 < f.c + x.c.q then (2 : Int) else 2) = 2 := by split <;> rfl
      rw [this] at c
      exact c
theorem Solo.deq {d : Int → Int → Int} {x : Qm} {now : Int} {k : Nat} {f : Fl} (h : Solo x k f) :
    (f.p ≠ 3 → deqQ d x now = pullQ d x now) ∧ (f.p = 3 → now < timeF f → deqQ d x now = pullQ d x now) ∧
    (f.p = 3 → timeF f ≤ now → deqQ d x now = pullQ d (putQ x k 2) now ∧ Solo (putQ x k 2) k { f with p := 2 }) := by
  have hput : f.p = 3 → Solo (putQ x k 2) k { f with p := 2 } := fun hp =>
    ⟨h.hk, by rw [putQ_F, h.F], h.T, h.els, by show x.N.erase (k : Int) = _; rw [h.N, hp]; rfl, by show x.O.erase (k : Int) ++ [(k : Int)] = _; rw [h.O, hp]; rfl⟩
  have hw : ∀ n {y : Qm} {g : Fl}, Solo y k g → (g.p = 3 → now < timeF g) → wakeN now n y = y := fun n {y g} hs hg => by
    cases n with
    | zero => rfl
    | succ n =>
      unfold wakeN
      rw [hs.first]
      split
      · rename_i e
        split at e
        · cases e
        · rfl
      · rename_i e
        split at e
        · rename_i hp
          cases e
          rw [if_neg (by rw [hs.F]; have := hg hp; omega)]
        · cases e
  refine ⟨fun hp => ?_, fun hp ht => ?_, fun hp ht => ⟨?_, hput hp⟩⟩
  · unfold deqQ; rw [hw 8 h fun e => absurd e hp]
  · unfold deqQ; rw [hw 8 h fun _ => ht]
  · unfold deqQ
    congr 1
    unfold wakeN
    rw [h.first, if_pos hp]
    dsimp only
    rw [if_pos (by rw [h.F]; exact ht)]
    exact hw 7 (hput hp) fun e => by cases e

/-! ### What is put in, and closed -/
theorem Solo.new {c : Cf} (hc : c.Ok) {s : Sg} {now : Int} {k : Nat} (hk : s.s = (k : Int)) (hi : InQ (newQ c) s now) :
    Solo (enqQ (newQ c) s now) k ⟨s.s, c.f, 1, 0, 0, [segF (newQ c) s now]⟩ := by
  have hs := (enqE_is hi.1).1
  have hn : s.s.toNat = k := by omega
  have hx := new_ok hc
  obtain ⟨a, b, n, q, e, f, g⟩ := in_new hx hi rfl
  rw [hn] at a b n q e
  have hok := (enq_ok hx (s := s) (now := now))
  have e1 : (enqQ (newQ c) s now).F k = takeF (collQ (newQ c) now) s now := by
    rw [enq_in hx hi]; show upF _ s.s.toNat _ k = _; rw [hn, upF_at]
  have e3 : preF (collQ (newQ c) now) s now = { Fl.zero with s := s.s, c := c.f } := by
    unfold preF
    rw [if_neg (by simp [collQ, newQ])]; rfl
  have e4 : takeF (collQ (newQ c) now) s now = ⟨s.s, c.f, 1, 0, 0, [segF (newQ c) s now]⟩ := by
    unfold takeF
    rw [e3]
    rfl
  exact ⟨by omega, by rw [e1, e4], e, fun j _ hj' => by rw [(enq_els hi.1 (j := j) (by omega)).2]; simp [collQ, newQ], by rw [f, hk]; rfl, by rw [g]; rfl⟩
/-- One more, of a flow that is somewhere. -/
theorem Solo.enq {x : Qm} (hx : x.Ok) {s : Sg} {now : Int} {k : Nat} {f : Fl} (h : Solo x k f) (hp : f.p ≠ 0) (hk : s.s = (k : Int)) (hi : InQ x s now) :
    Solo (enqQ x s now) k { f with q := f.q ++ [segF x s now] } := by
  have hs := (enqE_is hi.1).1
  have hn : s.s.toNat = k := by omega
  obtain ⟨c1, c2⟩ := coll_live (now := now) h.T (by rw [h.F]; exact hp)
  have e1 : (enqQ x s now).F k = takeF (collQ x now) s now := by
    rw [enq_in hx hi]; show upF _ s.s.toNat _ k = _; rw [hn, upF_at]
  have e3 : preF (collQ x now) s now = f := by
    unfold preF
    rw [hn, if_pos c2, c1, h.F, if_neg fun a => hp a.1]
  have e4 : takeF (collQ x now) s now = { f with q := f.q ++ [segF x s now] } := by
    unfold takeF
    rw [e3, if_neg hp, if_neg hp]
    rfl
  have hN : (enqQ x s now).N = x.N := enq_kept (by rw [hn]; exact h.T) (by rw [hn, h.F]; exact hp)
  exact ⟨h.hk, by rw [e1, e4], (enq_live (s := s) (now := now) h.T (by rw [h.F]; exact hp)).2.2.2, fun j hj hj' => by rw [(enq_els hi.1 (j := j) (by omega)).2]; simp [collQ, h.els j hj hj'], by rw [hN]; exact h.N, by rw [enq_lists.1]; exact h.O⟩
/-- One, of a flow that is nowhere: what it has then. -/
theorem Solo.enq0 {x : Qm} (hx : x.Ok) {s : Sg} {now : Int} {k : Nat} {f : Fl} (h : Solo x k f) (hp : f.p = 0) (hk : s.s = (k : Int)) (hi : InQ x s now) :
    Solo (enqQ x s now) k (if addS f.u 3000000000 ≤ now then ⟨s.s, x.c.f, 1, 0, 0, [segF x s now]⟩
      else { f with c := if addS f.u 40000000 ≤ now then max f.c x.c.q else f.c, p := 1, u := 0, q := f.q ++ [segF x s now] }) := by
  have hs := (enqE_is hi.1).1
  have hn : s.s.toNat = k := by omega
  have e1 : (enqQ x s now).F k = takeF (collQ x now) s now := by
    rw [enq_in hx hi]; show upF _ s.s.toNat _ k = _; rw [hn, upF_at]
  have eT : (enqQ x s now).T k = true := by rw [enq_in hx hi]; show upF _ s.s.toNat _ k = _; rw [hn, upF_at]
  have hd : deadF x now k = decide (addS f.u 3000000000 ≤ now) := by unfold deadF; rw [h.T, h.F, hp]; simp
  have hT : (if (collQ x now).T s.s.toNat = true then ((collQ x now).F s.s.toNat).p else 0) = 0 := by
    rw [hn]
    split
    · by_cases a : addS f.u 3000000000 ≤ now
      · simp [collQ, hd, a, Fl.zero]
      · simp [collQ, hd, a, h.F, hp]
    · rfl
  have hN : (enqQ x s now).N = [(k : Int)] := by
    rw [enq_in hx hi]
    show (if (if (collQ x now).T s.s.toNat = true then ((collQ x now).F s.s.toNat).p else 0) = 0 then (collQ x now).N ++ [s.s] else (collQ x now).N) = _
    rw [if_pos hT, hk]
    show x.N ++ _ = _
    rw [h.N, hp]; rfl
  have hO : (enqQ x s now).O = [] := by rw [enq_lists.1, h.O, hp]; rfl
  have hels : ∀ j : Nat, j < 8 → j ≠ k → (enqQ x s now).T j = false := fun j hj hj' => by rw [(enq_els hi.1 (j := j) (by omega)).2]; simp [collQ, h.els j hj hj']
  have hF : takeF (collQ x now) s now = (if addS f.u 3000000000 ≤ now then ⟨s.s, x.c.f, 1, 0, 0, [segF x s now]⟩
      else { f with c := if addS f.u 40000000 ≤ now then max f.c x.c.q else f.c, p := 1, u := 0, q := f.q ++ [segF x s now] }) := by
    by_cases a : addS f.u 3000000000 ≤ now
    · rw [if_pos a]
      have e3 : preF (collQ x now) s now = { Fl.zero with s := s.s, c := x.c.f } := by
        unfold preF
        rw [hn, if_neg (by simp [collQ, hd, a])]; rfl
      unfold takeF
      rw [e3]
      rfl
    · rw [if_neg a]
      have c1 : (collQ x now).F k = f := by simp [collQ, hd, a, h.F]
      have c2 : (collQ x now).T k = true := by simp [collQ, hd, a, h.T]
      have e3 : preF (collQ x now) s now = { f with c := if addS f.u 40000000 ≤ now then max f.c x.c.q else f.c } := by
        unfold preF
        rw [hn, if_pos c2, c1]
        by_cases b : addS f.u 40000000 ≤ now
        · rw [if_pos ⟨hp, b⟩, if_pos b]; rfl
        · rw [if_neg fun e => b e.2, if_neg b]
      unfold takeF
      rw [e3]
      dsimp only
      rw [if_pos hp, if_pos hp]
      rfl
  refine ⟨h.hk, e1.trans hF, eT, hels, ?_, ?_⟩
  · rw [hN]; split <;> rfl
  · rw [hO]; split <;> rfl
theorem Solo.cls {x : Qm} {k : Nat} {f : Fl} (h : Solo x k f) :
    clsV x (k : Int) = f.q ∧ (∀ j : Nat, j < 8 → (clsQ x (k : Int)).T j = false) ∧ (clsQ x (k : Int)).N = [] ∧ (clsQ x (k : Int)).O = [] ∧ (clsQ x (k : Int)).c = x.c := by
  have hk := h.hk
  have hc : (0 ≤ (k : Int) ∧ (k : Int) < 8) ∧ x.T (k : Int).toNat = true := ⟨by omega, h.T⟩
  unfold clsV clsQ
  rw [if_pos hc, if_pos hc]
  refine ⟨by rw [← h.F]; rfl, fun j hj => ?_, ?_, ?_, rfl⟩
  · show upF x.T k false j = false
    by_cases e : j = k
    · subst e; rw [upF_at]
    · rw [upF_ne _ _ e]; exact h.els j hj e
  · show x.N.erase (k : Int) = []
    rw [h.N]; split <;> simp
  · show x.O.erase (k : Int) = []
    rw [h.O]; split <;> simp
end Go.Proofs.Ytoekmdidonnamaa
