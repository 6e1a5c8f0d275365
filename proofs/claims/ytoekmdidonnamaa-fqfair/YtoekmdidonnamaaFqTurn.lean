/-
  The turns of a pull, as they lie in memory: lists, the tree's keys. No program is spoken of. Conditions: none.
-/
import Derived.Test.YtoekmdidonnamaaFqWk
namespace Go.Proofs.Ytoekmdidonnamaa
open Go.RowKit
set_option maxRecDepth 100000

theorem head_moves {x : Qm} (h : LsOk x.N x.O) (hb : headB x.N x.O = true) {i : Nat} (hs : headS x.N x.O = (i : Int)) :
    x.N.erase (i : Int) = dropN x.N ∧ x.O.erase (i : Int) = dropO x.N x.O ∧ dropO x.N x.O ++ [(i : Int)] = backO x.N x.O := by
  have e2 := erase_both h hb
  rw [hs] at e2
  refine ⟨e2.1, e2.2, ?_⟩
  rw [← hs]
  generalize x.N = N at *; generalize x.O = O at *
  cases N with
  | nil =>
    cases O with
    | nil => cases hb
    | cons z r => rfl
  | cons z r => rfl
/-- The head goes back. -/
theorem seen_back {x : Qm} (h : LsOk x.N x.O) (hb : headB x.N x.O = true) {i : Nat} (hs : headS x.N x.O = (i : Int)) : Seen { x with N := dropN x.N, O := backO x.N x.O } (putQ x i 2) := by
  obtain ⟨e1, e2, e3⟩ := head_moves h hb hs
  exact seen_put x 2 (by show x.N.erase (i : Int) = _; exact e1) (by show x.O.erase (i : Int) ++ [(i : Int)] = _; rw [e2, e3])
/-- The head is in no list. -/
theorem seen_drop {x : Qm} (h : LsOk x.N x.O) (hb : headB x.N x.O = true) {i : Nat} (hs : headS x.N x.O = (i : Int)) {p : Int} (h1 : p ≠ 1) (h2 : p ≠ 2) : Seen { x with N := dropN x.N, O := dropO x.N x.O } (putQ x i p) := by
  obtain ⟨e1, e2, _⟩ := head_moves h hb hs
  refine seen_put x p ?_ ?_
  · show (if p = 1 then _ else x.N.erase (i : Int)) = _
    rw [if_neg h1, e1]
  · show (if p = 2 then _ else x.O.erase (i : Int)) = _
    rw [if_neg h2, e2]
theorem Seen.trans {x y z : Qm} (h : Seen x y) (k : Seen y z) : Seen x z :=
  ⟨k.c.trans h.c, k.N.trans h.N, k.O.trans h.O, fun i hi => (k.T i hi).trans (h.T i hi), fun i hi => (k.k i hi).trans (h.k i hi), fun i hi => (k.n i hi).trans (h.n i hi), fun i hi => (k.u i hi).trans (h.u i hi), fun i hi => (k.q i hi).trans (h.q i hi)⟩
/-- .. and it is nowhere since now. -/
theorem seen_gone {x : Qm} (h : LsOk x.N x.O) (hb : headB x.N x.O = true) {i : Nat} (hs : headS x.N x.O = (i : Int)) (now : Int) :
    Seen { x with F := upF x.F i { x.F i with u := now }, N := dropN x.N, O := dropO x.N x.O } { putQ x i 0 with F := upF (putQ x i 0).F i { (putQ x i 0).F i with u := now } } := by
  have s := seen_drop h hb hs (p := 0) (by decide) (by decide)
  refine ⟨rfl, s.N, s.O, fun _ _ => rfl, fun j _ => ?_, fun j _ => ?_, fun j _ => ?_, fun j _ => ?_⟩
  all_goals
    dsimp only
    by_cases e : j = i
    · subst e; rw [upF_at, upF_at, putQ_F]
    · rw [upF_ne _ _ e, upF_ne _ _ e, putQ_ne x 0 e]
/-- One that does not wait, and does not wait then: the keys stay. -/
theorem ks_at {x y : Qm} {ks : List Key} (hk : KsOf x ks) {i : Nat} (hne : ∀ j : Nat, j ≠ i → y.F j = x.F j) (hT : ∀ j : Nat, j ≠ i → y.T j = x.T j) (hx : (x.F i).p ≠ 3) (hy : (y.F i).p ≠ 3) : KsOf y ks := fun k => by
  rw [hk]
  constructor
  · rintro ⟨j, hj, h1, h2, h3⟩
    have e : j ≠ i := fun e => by subst e; exact hx h2
    exact ⟨j, hj, by rw [hT j e]; exact h1, by rw [hne j e]; exact h2, by unfold keyF; rw [hne j e]; exact h3⟩
  · rintro ⟨j, hj, h1, h2, h3⟩
    have e : j ≠ i := fun e => by subst e; exact hy h2
    exact ⟨j, hj, by rw [← hT j e]; exact h1, by rw [← hne j e]; exact h2, by unfold keyF at h3 ⊢; rw [← hne j e]; exact h3⟩
theorem KLt.tri' (x k : Key) : KLt x k ∨ x = k ∨ KLt k x := by
  obtain ⟨a, b⟩ := x; obtain ⟨c, d⟩ := k
  simp only [KLt, Key.mk.injEq]
  omega
theorem mem_insK {k x : Key} {ks : List Key} : x ∈ insK k ks ↔ x = k ∨ x ∈ ks := by
  unfold insK
  simp only [List.mem_append, List.mem_filter, List.mem_cons, decide_eq_true_eq]
  constructor
  · rintro (h | h | h)
    · exact .inr h.1
    · exact .inl h
    · exact .inr h.1
  · rintro (h | h)
    · exact .inr (.inl h)
    · rcases KLt.tri' x k with h' | h' | h'
      · exact .inl ⟨h, h'⟩
      · exact .inr (.inl h')
      · exact .inr (.inr ⟨h, h'⟩)
/-- One comes to wait. -/
theorem ks_ins {x y : Qm} {ks : List Key} (hk : KsOf x ks) {i : Nat} (hi : i < 8) (hne : ∀ j : Nat, j ≠ i → y.F j = x.F j) (hT : ∀ j : Nat, y.T j = x.T j) (ht : x.T i = true) (hx : (x.F i).p ≠ 3) (hy : (y.F i).p = 3) (he : keyF y i = keyF x i) :
    KsOf y (insK (keyF x i) ks) := fun k => by
  rw [mem_insK]
  constructor
  · rintro (h | h)
    · exact ⟨i, hi, by rw [hT]; exact ht, hy, by rw [he]; exact h⟩
    · obtain ⟨j, hj, h1, h2, h3⟩ := (hk k).1 h
      have e : j ≠ i := fun e => by subst e; exact hx h2
      exact ⟨j, hj, by rw [hT]; exact h1, by rw [hne j e]; exact h2, by unfold keyF; rw [hne j e]; exact h3⟩
  · rintro ⟨j, hj, h1, h2, h3⟩
    by_cases e : j = i
    · subst e; exact .inl (h3.trans he)
    · exact .inr ((hk k).2 ⟨j, hj, by rw [← hT]; exact h1, by rw [← hne j e]; exact h2, by unfold keyF at h3 ⊢; rw [← hne j e]; exact h3⟩)
/-- There is room for it. -/
theorem ks_room {x : Qm} {ks : List Key} (hk : KsOf x ks) (hs : ks.Pairwise KLt) {i : Nat} (hi : i < 8) (hx : (x.F i).p ≠ 3) : insE 8 ks (keyF x i) = 0 ∧ insS 8 ks (keyF x i) = insK (keyF x i) ks := by
  have hn : keyF x i ∉ ks := fun h => hx ((hk.at hi).1 h).2
  have hb : ∀ k ∈ ks, ∃ j : Nat, j < 8 ∧ k = keyF x j ∧ j ≠ i := fun k h => by
    obtain ⟨j, hj, _, h2, h3⟩ := (hk k).1 h
    exact ⟨j, hj, h3, fun e => by subst e; exact hx h2⟩
  have hnd : (((i : Int)) :: ks.map (·.b)).Nodup := by
    refine List.nodup_cons.2 ⟨fun h => ?_, ?_⟩
    · obtain ⟨k, h1, h2⟩ := List.mem_map.1 h
      obtain ⟨j, _, h3, h4⟩ := hb k h1
      rw [h3] at h2
      have : (j : Int) = (i : Int) := h2
      omega
    · rw [List.Nodup, List.pairwise_map]
      refine List.Pairwise.imp_of_mem (R := KLt) ?_ hs
      intro a b ha hb' hab e
      obtain ⟨j, _, h3, _⟩ := hb a ha
      obtain ⟨j', _, h5, _⟩ := hb b hb'
      have e' : (j : Int) = (j' : Int) := by rw [h3, h5] at e; exact e
      obtain rfl : j = j' := by omega
      rw [h3, h5] at hab
      unfold KLt at hab; omega
  have hl := nodup_le 8 hnd (fun z hz => by
    rcases List.mem_cons.1 hz with h | h
    · omega
    · obtain ⟨k, h1, h2⟩ := List.mem_map.1 h
      obtain ⟨j, hj, h3, _⟩ := hb k h1
      rw [h3] at h2
      have : (j : Int) = z := h2
      omega)
  simp at hl
  unfold insE insS
  rw [if_neg hn, if_neg hn, if_neg (by omega), if_neg (by omega)]
  exact ⟨rfl, rfl⟩
end Go.Proofs.Ytoekmdidonnamaa
