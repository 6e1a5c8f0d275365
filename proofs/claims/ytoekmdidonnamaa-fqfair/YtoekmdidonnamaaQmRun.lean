/-
  The document's queue as plain numbers and lists: a pull ends; it is the same whatever number of turns is allowed, if they are enough. No program is spoken of. Conditions: none.
-/
import Derived.Test.YtoekmdidonnamaaQmSt
namespace Go.Proofs.Ytoekmdidonnamaa
open Go.RowKit
set_option maxRecDepth 100000

/-! ### The lists behind a move -/
theorem LsOk.gone {N O : List Int} (h : LsOk N O) (z : Int) : z ∉ N.erase z ++ O.erase z := fun hm => by
  have hn := List.nodup_append.1 h.once
  rcases List.mem_append.1 hm with h1 | h1
  · exact hn.1.not_mem_erase h1
  · exact hn.2.1.not_mem_erase h1
theorem LsOk.put {N O : List Int} (h : LsOk N O) {z : Int} (hz : 0 ≤ z ∧ z < 8) (p : Int) :
    LsOk (if p = 1 then N.erase z ++ [z] else N.erase z) (if p = 2 then O.erase z ++ [z] else O.erase z) := by
  have he := h.erase z
  have hg := h.gone z
  by_cases h1 : p = 1
  · subst h1; exact he.pushNew hz hg
  · rw [if_neg h1]
    by_cases h2 : p = 2
    · rw [if_pos h2]; exact he.pushOld hz hg
    · rw [if_neg h2]; exact he
theorem head_sock {N O : List Int} (h : LsOk N O) (hb : headB N O = true) : 0 ≤ headS N O ∧ headS N O < 8 := by
  refine h.all _ ?_
  cases N with
  | nil =>
    cases O with
    | nil => cases hb
    | cons x r => exact List.mem_cons_self ..
  | cons x r => exact List.mem_cons_self ..
theorem sock_nat {z : Int} (h : 0 ≤ z) : ((z.toNat : Nat) : Int) = z := by omega

/-! ### Costs -/
theorem cost_eq {x y : Qm} {w : Nat} {l : List Int} (hc : y.c.q = x.c.q) (h : ∀ z ∈ l, (y.F z.toNat).c = (x.F z.toNat).c) : costQ y w l = costQ x w l :=
  sum_eq fun z hz => by rw [hc, h z hz]
theorem cost_cons (x : Qm) (w : Nat) (z : Int) (l : List Int) : costQ x w (z :: l) = needK x.c.q (x.F z.toNat).c + w + costQ x w l := rfl
theorem cost_app (x : Qm) (w : Nat) (l m : List Int) : costQ x w (l ++ m) = costQ x w l + costQ x w m := by simp [costQ]
theorem cost_one (x : Qm) (w : Nat) (z : Int) : costQ x w [z] = needK x.c.q (x.F z.toNat).c + w := by simp [costQ]

/-- What a turn leaves of the lists and the credits, whatever it does: the head goes to p, its credit is c. -/
structure Moved (x y : Qm) (z c p : Int) : Prop where
  N : y.N = if p = 1 then x.N.erase z ++ [z] else x.N.erase z
  O : y.O = if p = 2 then x.O.erase z ++ [z] else x.O.erase z
  k : y.c = x.c
  at_ : (y.F z.toNat).c = c
  els : ∀ i, i ≠ z.toNat → y.F i = x.F i
  T : y.T = x.T
theorem Moved.ok {x y : Qm} {z c p : Int} (m : Moved x y z c p) (h : LsOk x.N x.O) (hz : 0 ≤ z ∧ z < 8) : LsOk y.N y.O := by
  rw [m.N, m.O]; exact h.put hz p
theorem Moved.others {x y : Qm} {z c p : Int} (m : Moved x y z c p) (hz : 0 ≤ z) {w : Nat} {l : List Int} (hl : ∀ u ∈ l, 0 ≤ u) (hn : z ∉ l) : costQ y w l = costQ x w l :=
  cost_eq (by rw [m.k]) fun u hu => by
    have h0 := hl u hu
    have : u ≠ z := fun e => hn (e ▸ hu)
    rw [m.els u.toNat (by omega)]
theorem Moved.turns {x y : Qm} {c p : Int} (h : LsOk x.N x.O) (hb : headB x.N x.O = true) (m : Moved x y (headS x.N x.O) c p) (hp : p ≠ 1) :
    turnsQ y + needK x.c.q (x.F (headS x.N x.O).toNat).c + (if headF x.N x.O = true then 2 else 1) = turnsQ x + (if p = 2 then needK x.c.q c + 1 else 0) := by
  have hz := head_sock h hb
  have hnn : ∀ u ∈ x.N ++ x.O, 0 ≤ u := fun u hu => (h.all u hu).1
  obtain ⟨z, hzz⟩ : ∃ z, z = headS x.N x.O := ⟨_, rfl⟩
  rw [← hzz] at m hz ⊢
  have hN := m.N
  rw [if_neg hp] at hN
  unfold turnsQ
  rw [hN, m.O]
  have hnd := h.once
  cases hxN : x.N with
  | nil =>
    rw [hxN] at hzz hb hnd hnn
    cases hxO : x.O with
    | nil => rw [hxO] at hb; cases hb
    | cons u r =>
      rw [hxO] at hzz hnd hnn
      obtain rfl : z = u := hzz
      have hur : z ∉ r := (List.nodup_cons.1 hnd).1
      have hl : ∀ a ∈ r, 0 ≤ a := fun a ha => hnn a (List.mem_cons_of_mem _ ha)
      rw [List.erase_cons_head, show headF ([] : List Int) (z :: r) = false from rfl, cost_cons]
      have e0 := m.others hz.1 (w := 1) hl hur
      have e1 := m.at_
      by_cases h2 : p = 2
      · rw [if_pos h2, if_pos h2, cost_app, cost_one, e0, m.k, e1]
        simp [costQ]; omega
      · rw [if_neg h2, if_neg h2, e0]
        simp [costQ]; omega
  | cons u r =>
    rw [hxN] at hzz hnd hnn
    obtain rfl : z = u := hzz
    have hzr : z ∉ r ++ x.O := (List.nodup_cons.1 hnd).1
    rw [List.mem_append, not_or] at hzr
    have hl1 : ∀ a ∈ r, 0 ≤ a := fun a ha => hnn a (List.mem_cons_of_mem _ (List.mem_append_left _ ha))
    have hl2 : ∀ a ∈ x.O, 0 ≤ a := fun a ha => hnn a (List.mem_cons_of_mem _ (List.mem_append_right _ ha))
    rw [List.erase_cons_head, List.erase_of_not_mem hzr.2, show headF (z :: r) x.O = true from rfl, cost_cons]
    have e0 := m.others hz.1 (w := 2) hl1 hzr.1
    have e2 := m.others hz.1 (w := 1) hl2 hzr.2
    have e1 := m.at_
    by_cases h2 : p = 2
    · rw [if_pos h2, if_pos h2, cost_app, cost_one, e0, e2, m.k, e1]
      simp; omega
    · rw [if_neg h2, if_neg h2, e0, e2]
      simp; omega

/-- What a turn that goes on does. -/
theorem turn_on {d : Int → Int → Int} {x y : Qm} {now : Int} (h : LsOk x.N x.O) (ht : turnQ d x now = .on y) :
    headB x.N x.O = true ∧ ∃ c p, Moved x y (headS x.N x.O) c p ∧ p ≠ 1 ∧
      (((x.F (headS x.N x.O).toNat).c ≤ 0 ∧ p = 2 ∧ c = (x.F (headS x.N x.O).toNat).c + x.c.q) ∨
       (¬ (x.F (headS x.N x.O).toNat).c ≤ 0 ∧ c = (x.F (headS x.N x.O).toNat).c ∧ (p ≠ 2 ∨ headF x.N x.O = true))) := by
  unfold turnQ at ht
  by_cases hb : headB x.N x.O = false
  · rw [if_pos hb] at ht; cases ht
  · rw [if_neg hb] at ht
    have hb' : headB x.N x.O = true := by simpa using hb
    have hz := head_sock h hb'
    refine ⟨hb', ?_⟩
    obtain ⟨z, hzz⟩ : ∃ z, z = headS x.N x.O := ⟨_, rfl⟩
    rw [← hzz] at ht hz ⊢
    have hzn := sock_nat hz.1
    dsimp only at ht
    by_cases hc : (x.F z.toNat).c ≤ 0
    · rw [if_pos hc] at ht
      cases ht
      refine ⟨_, 2, ⟨by simp [putQ, hzn], by simp [putQ, hzn], rfl, rfl, fun i hi => ?_, rfl⟩, by decide, .inl ⟨hc, rfl, ?_⟩⟩
      · simp [putQ, upF, hi]
      · simp [putQ, upF]
    · rw [if_neg hc] at ht
      split at ht
      · split at ht
        · rename_i hf
          cases ht
          refine ⟨_, 2, ⟨by simp [putQ, hzn], by simp [putQ, hzn], rfl, rfl, fun i hi => ?_, rfl⟩, by decide, .inr ⟨hc, ?_, .inr hf.1⟩⟩
          · simp [putQ, upF, hi]
          · simp [putQ, upF]
        · cases ht
          refine ⟨_, 0, ⟨by simp [putQ, hzn], by simp [putQ, hzn], rfl, rfl, fun i hi => ?_, rfl⟩, by decide, .inr ⟨hc, ?_, .inl (by decide)⟩⟩
          · simp [putQ, upF, hi]
          · simp [putQ, upF]
      · split at ht
        · cases ht
          refine ⟨_, 3, ⟨by simp [putQ, hzn], by simp [putQ, hzn], rfl, rfl, fun i hi => ?_, rfl⟩, by decide, .inr ⟨hc, ?_, .inl (by decide)⟩⟩
          · simp [putQ, upF, hi]
          · simp [putQ, upF]
        · cases ht

theorem turn_less {d : Int → Int → Int} {x y : Qm} {now : Int} (h : LsOk x.N x.O) (hq : 0 < x.c.q) (ht : turnQ d x now = .on y) : turnsQ y < turnsQ x ∧ LsOk y.N y.O ∧ y.c = x.c := by
  obtain ⟨hb, c, p, m, hp, hor⟩ := turn_on h ht
  refine ⟨?_, m.ok h (head_sock h hb), m.k⟩
  have e := m.turns h hb hp
  rcases hor with ⟨hc, rfl, rfl⟩ | ⟨hc, rfl, hor⟩
  · rw [if_pos rfl] at e
    have := needK_less hq hc
    split at e <;> omega
  · have h0 : needK x.c.q (x.F (headS x.N x.O).toNat).c = 0 := by unfold needK; rw [if_neg hc]
    rw [h0] at e
    by_cases h2 : p = 2
    · rw [if_pos h2] at e
      rcases hor with h3 | h3
      · exact absurd h2 h3
      · rw [if_pos h3] at e; omega
    · rw [if_neg h2] at e
      split at e <;> omega

theorem run_enough (d : Int → Int → Int) (now : Int) : ∀ (k m : Nat) (x : Qm), LsOk x.N x.O → 0 < x.c.q → turnsQ x < k → turnsQ x < m → runQ d now k x = runQ d now m x
  | 0, _, _, _, _, h, _ => absurd h (Nat.not_lt_zero _)
  | _ + 1, 0, _, _, _, _, h => absurd h (Nat.not_lt_zero _)
  | k + 1, m + 1, x, hok, hq, hk, hm => by
    unfold runQ
    cases ht : turnQ d x now with
    | on y =>
      obtain ⟨h1, h2, h3⟩ := turn_less hok hq ht
      exact run_enough d now k m y h2 (by rw [h3]; exact hq) (by omega) (by omega)
    | stop y s => rfl
/-- A pull: what it leaves, and what departs. -/
def pullQ (d : Int → Int → Int) (x : Qm) (now : Int) : Qm × Option Sg := runQ d now (turnsQ x + 1) x
theorem pull_on {d : Int → Int → Int} {x y : Qm} {now : Int} (h : LsOk x.N x.O) (hq : 0 < x.c.q) (ht : turnQ d x now = .on y) : pullQ d x now = pullQ d y now := by
  obtain ⟨h1, h2, h3⟩ := turn_less h hq ht
  unfold pullQ
  conv => lhs; unfold runQ
  rw [ht]
  exact run_enough d now _ _ y h2 (by rw [h3]; exact hq) (by omega) (by omega)
theorem pull_stop {d : Int → Int → Int} {x y : Qm} {now : Int} {s : Option Sg} (ht : turnQ d x now = .stop y s) : pullQ d x now = (y, s) := by
  unfold pullQ runQ
  rw [ht]
def deqQ (d : Int → Int → Int) (x : Qm) (now : Int) : Qm × Option Sg := pullQ d (wakeN now 8 x) now
end Go.Proofs.Ytoekmdidonnamaa
