/-
  The document's queue as plain numbers and lists: each turn of a pull, and its end, said of each flow; next times are never far ahead. No program is spoken of. Conditions: none.
-/
import Derived.Test.YtoekmdidonnamaaQmWork
namespace Go.Proofs.Ytoekmdidonnamaa
open Go.RowKit
set_option maxRecDepth 100000

/-! ### A turn, flow by flow -/
structure Stp (x y : Qm) (now : Int) (i : Nat) (c p u : Int) : Prop where
  hb : headB x.N x.O = true
  hi : i < 8
  hs : headS x.N x.O = (i : Int)
  hT : x.T i = true
  hok : (x.F i).Ok i
  at_ : y.F i = { x.F i with c := c, p := p, u := u }
  els : ∀ j : Nat, j ≠ i → y.F j = x.F j
  T : y.T = x.T
  hk : y.c = x.c
  N : y.N = x.N.erase (i : Int)
  O : y.O = if p = 2 then x.O.erase (i : Int) ++ [(i : Int)] else x.O.erase (i : Int)
  how : ((x.F i).c ≤ 0 ∧ c = (x.F i).c + x.c.q ∧ p = 2 ∧ u = (x.F i).u) ∨
    (0 < (x.F i).c ∧ c = (x.F i).c ∧ ((p = 2 ∧ (x.F i).q = [] ∧ u = (x.F i).u ∧ headF x.N x.O = true ∧ x.O ≠ []) ∨ (p = 0 ∧ (x.F i).q = [] ∧ u = now) ∨ (p = 3 ∧ (x.F i).q ≠ [] ∧ u = (x.F i).u ∧ now < timeF (x.F i))))
theorem turn_step {d : Int → Int → Int} {x y : Qm} {now : Int} (h : x.Ok) (ht : turnQ d x now = .on y) : ∃ i c p u, Stp x y now i c p u := by
  cases turn_is d now h.ls with
  | none hb e => rw [e] at ht; cases ht
  | dep i hb hi hs hc s r hq hw e => rw [e] at ht; cases ht
  | more i hb hi hs hc e =>
    rw [e] at ht; cases ht
    obtain ⟨i', _, e', _, hT, hp, hok⟩ := h.head hb
    obtain rfl : i' = i := by omega
    refine ⟨i', (x.F i').c + x.c.q, 2, (x.F i').u, hb, hi, hs, hT, hok, ?_, fun j hj => ?_, rfl, rfl, rfl, rfl, .inl ⟨hc, rfl, rfl, rfl⟩⟩
    · rw [putQ_F]; show { upF x.F i' _ i' with p := 2 } = _; rw [upF_at]
    · rw [putQ_ne _ _ hj]; exact upF_ne _ _ hj
  | back i hb hi hs hc hq hf e =>
    rw [e] at ht; cases ht
    obtain ⟨i', _, e', _, hT, hp, hok⟩ := h.head hb
    obtain rfl : i' = i := by omega
    exact ⟨i', (x.F i').c, 2, (x.F i').u, hb, hi, hs, hT, hok, putQ_F _ _ _, fun j hj => putQ_ne _ _ hj, rfl, rfl, rfl, rfl, .inr ⟨by omega, rfl, .inl ⟨rfl, hq, rfl, hf⟩⟩⟩
  | gone i hb hi hs hc hq hf e =>
    rw [e] at ht; cases ht
    obtain ⟨i', _, e', _, hT, hp, hok⟩ := h.head hb
    obtain rfl : i' = i := by omega
    refine ⟨i', (x.F i').c, 0, now, hb, hi, hs, hT, hok, ?_, fun j hj => ?_, rfl, rfl, rfl, rfl, .inr ⟨by omega, rfl, .inr (.inl ⟨rfl, hq, rfl⟩)⟩⟩
    · show upF _ i' _ i' = _; rw [upF_at, putQ_F]
    · show upF _ i' _ j = _; rw [upF_ne _ _ hj]; exact putQ_ne _ _ hj
  | wait i hb hi hs hc s r hq hw e =>
    rw [e] at ht; cases ht
    obtain ⟨i', _, e', _, hT, hp, hok⟩ := h.head hb
    obtain rfl : i' = i := by omega
    exact ⟨i', (x.F i').c, 3, (x.F i').u, hb, hi, hs, hT, hok, putQ_F _ _ _, fun j hj => putQ_ne _ _ hj, rfl, rfl, rfl, rfl, .inr ⟨by omega, rfl, .inr (.inr ⟨rfl, by rw [hq]; exact List.cons_ne_nil _ _, rfl, hw⟩)⟩⟩
/-- What departs in one turn. -/
structure Last (d : Int → Int → Int) (x y : Qm) (now : Int) (i : Nat) (s : Sg) (r : List Sg) : Prop where
  hb : headB x.N x.O = true
  hi : i < 8
  hs : headS x.N x.O = (i : Int)
  hT : x.T i = true
  hok : (x.F i).Ok i
  hq : (x.F i).q = s :: r
  hc : 0 < (x.F i).c
  hw : timeF (x.F i) ≤ now
  at_ : y.F i = { x.F i with q := r, c := (x.F i).c - s.l, n := addS now (d s.l (i : Int)) }
  els : ∀ j : Nat, j ≠ i → y.F j = x.F j
  T : y.T = x.T
  hk : y.c = x.c
  N : y.N = x.N
  O : y.O = x.O
theorem turn_last {d : Int → Int → Int} {x y : Qm} {now : Int} {o : Option Sg} (h : x.Ok) (ht : turnQ d x now = .stop y o) :
    (o = none ∧ y = x ∧ headB x.N x.O = false) ∨ ∃ i s r, o = some s ∧ Last d x y now i s r := by
  cases turn_is d now h.ls with
  | none hb e => rw [e] at ht; cases ht; exact .inl ⟨rfl, rfl, hb⟩
  | dep i hb hi hs hc s r hq hw e =>
    rw [e] at ht; cases ht
    obtain ⟨i', _, e', _, hT, hp, hok⟩ := h.head hb
    obtain rfl : i' = i := by omega
    exact .inr ⟨i', s, r, rfl, hb, hi, hs, hT, hok, hq, by omega, by omega, upF_at _ _ _, fun j hj => upF_ne _ _ hj, rfl, rfl, rfl, rfl⟩
  | more i hb hi hs hc e => rw [e] at ht; cases ht
  | back i hb hi hs hc hq hf e => rw [e] at ht; cases ht
  | gone i hb hi hs hc hq hf e => rw [e] at ht; cases ht
  | wait i hb hi hs hc s r hq hw e => rw [e] at ht; cases ht

/-- What holds of a queue, is kept by each turn and by what departs, holds behind a pull. -/
theorem run_holds {d : Int → Int → Int} {now : Int} (hn : U64 now) (hd : ∀ l z, 0 ≤ d l z) {I : Qm → Prop} {R : Qm → Option Sg → Prop}
    (hstep : ∀ x y i c p u, x.Ok → I x → Stp x y now i c p u → I y) (hlast : ∀ x y i s r, x.Ok → I x → Last d x y now i s r → R y (some s)) (hnone : ∀ x, x.Ok → I x → headB x.N x.O = false → R x none) :
    ∀ (k : Nat) {x : Qm}, x.Ok → I x → turnsQ x < k → R (runQ d now k x).1 (runQ d now k x).2
  | 0, _, _, _, h => absurd h (Nat.not_lt_zero _)
  | k + 1, x, h, hI, hk => by
    unfold runQ
    cases ht : turnQ d x now with
    | on y =>
      obtain ⟨i, c, p, u, st⟩ := turn_step h ht
      have hq := h.hc.hq
      have hm := (turn_less h.ls (by omega) ht).1
      exact run_holds hn hd hstep hlast hnone k ((turn_ok h hn hd).1 y ht) (hstep x y i c p u h hI st) (by omega)
    | stop y o =>
      dsimp only
      rcases turn_last h ht with ⟨rfl, rfl, hb⟩ | ⟨i, s, r, rfl, l⟩
      · exact hnone _ h hI hb
      · exact hlast x y i s r h hI l
theorem wake_holds {now : Int} {I : Qm → Prop} (hput : ∀ x i, x.Ok → I x → i < 8 → x.T i = true → (x.F i).p = 3 → timeF (x.F i) ≤ now → I (putQ x i 2)) :
    ∀ (k : Nat) {x : Qm}, x.Ok → I x → I (wakeN now k x)
  | 0, _, _, h => h
  | k + 1, x, h, hI => by
    unfold wakeN
    cases hf : firstQ x with
    | none => exact hI
    | some i =>
      dsimp only
      split
      · rename_i hw
        obtain ⟨hi, hT, hp⟩ := firstN_some hf
        have hok := h.is i hi hT
        refine wake_holds hput k (h.put hi (fun j hj => putQ_ne _ _ hj) (fun _ => rfl) rfl hT ?_ (by rw [putQ_F]; rfl) (by rw [putQ_F]; rfl) (by rw [putQ_F]; exact Nat.le_refl _)) (hput x i h hI hi hT hp hw)
        rw [putQ_F]
        exact ⟨hok.hs, hok.hc, by dsimp only; omega, hok.hn, hok.hu, fun _ => hok.no (by omega), fun e => (by cases e), fun e => (by cases e), hok.hq⟩
      · exact hI
theorem deq_holds {d : Int → Int → Int} {now : Int} (hn : U64 now) (hd : ∀ l z, 0 ≤ d l z) {I : Qm → Prop} {R : Qm → Option Sg → Prop}
    (hput : ∀ x i, x.Ok → I x → i < 8 → x.T i = true → (x.F i).p = 3 → timeF (x.F i) ≤ now → I (putQ x i 2))
    (hstep : ∀ x y i c p u, x.Ok → I x → Stp x y now i c p u → I y) (hlast : ∀ x y i s r, x.Ok → I x → Last d x y now i s r → R y (some s)) (hnone : ∀ x, x.Ok → I x → headB x.N x.O = false → R x none)
    {x : Qm} (h : x.Ok) (hI : I x) : R (deqQ d x now).1 (deqQ d x now).2 :=
  run_holds hn hd hstep hlast hnone _ (wake_ok 8 h) (wake_holds hput 8 h hI) (Nat.lt_succ_self _)

/-! ### Next times are never far ahead -/
/-- Not by more than a second, of now, and of the time since when it is nowhere. -/
def Near (x : Qm) (now : Int) : Prop := ∀ i : Nat, i < 8 → x.T i = true → (x.F i).n ≤ now + 1000000000 ∧ ((x.F i).p = 0 → (x.F i).n ≤ (x.F i).u + 1000000000)
theorem Near.more {x : Qm} {now now' : Int} (h : Near x now) (hn : now ≤ now') : Near x now' := fun i hi ht => ⟨by have := (h i hi ht).1; omega, (h i hi ht).2⟩
theorem addS_le {a b : Int} : addS a b ≤ a + b := by unfold addS; split <;> omega
theorem near_deq {d : Int → Int → Int} {x : Qm} {now : Int} (h : x.Ok) (hn : U64 now) (hd : ∀ l z, 0 ≤ d l z ∧ d l z ≤ 1000000000) (hx : Near x now) : Near (deqQ d x now).1 now := by
  refine deq_holds (I := fun x => Near x now) (R := fun y _ => Near y now) hn (fun l z => (hd l z).1) (fun x i _ hI hi hT hp hw j hj tj => ?_) (fun x y i c p u _ hI st j hj tj => ?_) (fun x y i s r _ hI st j hj tj => ?_) (fun x _ hI _ => hI) h hx
  · by_cases e : j = i
    · subst e; rw [putQ_F]; exact ⟨(hI j hi hT).1, fun e => by cases e⟩
    · rw [putQ_ne _ _ e]; exact hI j hj tj
  · rw [st.T] at tj
    by_cases e : j = i
    · subst e
      rw [st.at_]
      refine ⟨(hI j hj tj).1, fun e => ?_⟩
      have e : p = 0 := e
      rcases st.how with ⟨_, _, e2, _⟩ | ⟨_, _, ⟨e2, _, _⟩ | ⟨_, _, e3⟩ | ⟨e2, _⟩⟩
      · omega
      · omega
      · rw [e3]; exact (hI j hj tj).1
      · omega
    · rw [st.els j e]; exact hI j hj tj
  · rw [st.T] at tj
    by_cases e : j = i
    · subst e
      rw [st.at_]
      have hq0 : (x.F j).p ≠ 0 := fun e => by have := st.hok.em e; rw [st.hq] at this; cases this
      exact ⟨by have := addS_le (a := now) (b := d s.l (j : Int)); have := (hd s.l (j : Int)).2; dsimp only; omega, fun e => absurd e hq0⟩
    · rw [st.els j e]; exact hI j hj tj
theorem near_enq {x : Qm} {s : Sg} {now : Int} (hn : 0 ≤ now) (hx : Near x now) : Near (enqQ x s now) now := by
  have hcoll : Near (collQ x now) now := fun i hi ht => by
    have : deadF x now i = false ∧ x.T i = true := by
      have : (x.T i && !deadF x now i) = true := ht
      simp at this
      exact ⟨this.2, this.1⟩
    have e : (collQ x now).F i = x.F i := by simp [collQ, this.1]
    rw [e]
    exact hx i hi this.2
  unfold enqQ
  split
  · split
    · intro i hi ht
      by_cases e : i = s.s.toNat
      · subst e
        have e1 : (takeQ (collQ x now) s now).F s.s.toNat = takeF (collQ x now) s now := upF_at _ _ _
        rw [e1]
        have hn' : (takeF (collQ x now) s now).n ≤ now + 1000000000 := by
          show (preF (collQ x now) s now).n ≤ _
          unfold preF
          split
          · rename_i t
            have := (hcoll _ hi t).1
            split <;> exact this
          · show (0 : Int) ≤ _; omega
        refine ⟨hn', fun e => ?_⟩
        have e : (if (preF (collQ x now) s now).p = 0 then 1 else (preF (collQ x now) s now).p) = 0 := e
        split at e
        · cases e
        · rename_i h; exact absurd e h
      · have e1 : (takeQ (collQ x now) s now).F i = (collQ x now).F i := upF_ne _ _ e
        have e2 : (takeQ (collQ x now) s now).T i = (collQ x now).T i := upF_ne _ _ e
        rw [e1]; rw [e2] at ht
        exact hcoll i hi ht
    · exact hcoll
  · exact hx
/-- One that is collected waits for nothing any more. -/
theorem Near.dead {x : Qm} {now : Int} (h : Near x now) {i : Nat} (hi : i < 8) (hd : deadF x now i = true) (hn : now < 18446744073709551615) : (x.F i).n ≤ now := by
  unfold deadF at hd
  simp at hd
  have h1 := (h i hi hd.1.1).2 hd.1.2
  have h2 := hd.2
  unfold addS at h2
  split at h2 <;> omega
end Go.Proofs.Ytoekmdidonnamaa
