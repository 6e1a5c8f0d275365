/-
  The document's queue as plain numbers and lists: a pull has a segment just if the time of a flow with segments has come; which one; what is as it was. The watchdog. No program is spoken of. Conditions: none.
-/
import Derived.Test.YtnljjdfajmjdjaaJ03
namespace Go.Proofs.Ytnljjdfajmjdjaa
open Go.RowKit
set_option maxRecDepth 100000

/-! ### Sums over the sockets -/
def sum8 (g : Nat → Nat) : Nat := g 0 + g 1 + g 2 + g 3 + g 4 + g 5 + g 6 + g 7
theorem sum8_up {g g' : Nat → Nat} {i : Nat} (hi : i < 8) (h : ∀ j : Nat, j ≠ i → g' j = g j) : sum8 g' + g i = sum8 g + g' i := by
  unfold sum8
  have h0 := h 0; have h1 := h 1; have h2 := h 2; have h3 := h 3; have h4 := h 4; have h5 := h 5; have h6 := h 6; have h7 := h 7
  match i, hi with
  | 0, _ => rw [h1 (by decide), h2 (by decide), h3 (by decide), h4 (by decide), h5 (by decide), h6 (by decide), h7 (by decide)]; omega
  | 1, _ => rw [h0 (by decide), h2 (by decide), h3 (by decide), h4 (by decide), h5 (by decide), h6 (by decide), h7 (by decide)]; omega
  | 2, _ => rw [h0 (by decide), h1 (by decide), h3 (by decide), h4 (by decide), h5 (by decide), h6 (by decide), h7 (by decide)]; omega
  | 3, _ => rw [h0 (by decide), h1 (by decide), h2 (by decide), h4 (by decide), h5 (by decide), h6 (by decide), h7 (by decide)]; omega
  | 4, _ => rw [h0 (by decide), h1 (by decide), h2 (by decide), h3 (by decide), h5 (by decide), h6 (by decide), h7 (by decide)]; omega
  | 5, _ => rw [h0 (by decide), h1 (by decide), h2 (by decide), h3 (by decide), h4 (by decide), h6 (by decide), h7 (by decide)]; omega
  | 6, _ => rw [h0 (by decide), h1 (by decide), h2 (by decide), h3 (by decide), h4 (by decide), h5 (by decide), h7 (by decide)]; omega
  | 7, _ => rw [h0 (by decide), h1 (by decide), h2 (by decide), h3 (by decide), h4 (by decide), h5 (by decide), h6 (by decide)]; omega
theorem sum8_zero {g : Nat → Nat} (h : sum8 g = 0) : ∀ i, i < 8 → g i = 0 := by
  unfold sum8 at h
  intro i hi
  match i, hi with
  | 0, _ => omega
  | 1, _ => omega
  | 2, _ => omega
  | 3, _ => omega
  | 4, _ => omega
  | 5, _ => omega
  | 6, _ => omega
  | 7, _ => omega
theorem sum8_le {g : Nat → Nat} (h : ∀ i, g i ≤ 1) : sum8 g ≤ 8 := by
  unfold sum8
  have h0 := h 0; have h1 := h 1; have h2 := h 2; have h3 := h 3; have h4 := h 4; have h5 := h 5; have h6 := h 6; have h7 := h 7
  omega

/-! ### Those that wait -/
/-- Whose time is this late at the latest waits no more. -/
def Late (x : Qm) (now : Int) : Prop := ∀ i : Nat, i < 8 → x.T i = true → (x.F i).p = 3 → now < timeF (x.F i)
/-- Segments, next times, and who is there, are as they were. -/
structure Alike (x y : Qm) : Prop where
  c : y.c = x.c
  T : ∀ i, y.T i = x.T i
  q : ∀ i, (y.F i).q = (x.F i).q
  n : ∀ i, (y.F i).n = (x.F i).n
  s : ∀ i, (y.F i).s = (x.F i).s
theorem Alike.refl (x : Qm) : Alike x x := ⟨rfl, fun _ => rfl, fun _ => rfl, fun _ => rfl, fun _ => rfl⟩
theorem Alike.trans {x y z : Qm} (h : Alike x y) (k : Alike y z) : Alike x z :=
  ⟨k.c.trans h.c, fun i => (k.T i).trans (h.T i), fun i => (k.q i).trans (h.q i), fun i => (k.n i).trans (h.n i), fun i => (k.s i).trans (h.s i)⟩
theorem Alike.time {x y : Qm} (h : Alike x y) (i : Nat) : timeF (y.F i) = timeF (x.F i) := by unfold timeF; rw [h.n, h.q]
theorem Alike.len {x y : Qm} (h : Alike x y) : lenQ y = lenQ x := lenQ_same fun i _ => by rw [h.q]
theorem put_alike (x : Qm) (i : Nat) (p : Int) : Alike x (putQ x i p) := by
  refine ⟨rfl, fun _ => rfl, fun j => ?_, fun j => ?_, fun j => ?_⟩ <;>
  · by_cases e : j = i
    · subst e; rw [putQ_F]
    · rw [putQ_ne _ _ e]
def waits1 (x : Qm) (i : Nat) : Nat := if x.T i = true ∧ (x.F i).p = 3 then 1 else 0
theorem wake_alike (now : Int) : ∀ (k : Nat) (x : Qm), Alike x (wakeN now k x)
  | 0, x => .refl x
  | k + 1, x => by
    unfold wakeN
    cases hf : firstQ x with
    | none => exact .refl x
    | some i =>
      dsimp only
      split
      · exact (put_alike x i 2).trans (wake_alike now k _)
      · exact .refl x
theorem wake_late {now : Int} : ∀ (k : Nat) {x : Qm}, sum8 (waits1 x) ≤ k → Late (wakeN now k x) now
  | 0, x, h => fun i hi ht hp => by
    have := sum8_zero (Nat.le_zero.1 h) i hi
    unfold waits1 at this
    rw [if_pos ⟨ht, hp⟩] at this
    cases this
  | k + 1, x, h => by
    unfold wakeN
    cases hf : firstQ x with
    | none => exact fun i hi ht hp => absurd ⟨ht, hp⟩ (firstN_none hf i hi)
    | some b =>
      dsimp only
      split
      · obtain ⟨hb, hT, hp⟩ := firstN_some hf
        refine wake_late k ?_
        have e := sum8_up (g := waits1 x) (g' := waits1 (putQ x b 2)) hb (fun j hj => by unfold waits1; rw [putQ_ne _ _ hj]; rfl)
        have e1 : waits1 x b = 1 := by unfold waits1; rw [if_pos ⟨hT, hp⟩]
        have e2 : waits1 (putQ x b 2) b = 0 := by unfold waits1; rw [putQ_F]; simp
        omega
      · rename_i hn
        exact fun i hi ht hp => by have := (firstN_least hf i hi ht hp).1; omega
theorem wake8_late (now : Int) (x : Qm) : Late (wakeN now 8 x) now := wake_late 8 (sum8_le fun i => by unfold waits1; split <;> decide)

/-! ### A pull -/
theorem turn_alike {d : Int → Int → Int} {x y : Qm} {now : Int} (h : x.Ok) (hl : Late x now) (ht : turnQ d x now = .on y) : Alike x y ∧ Late y now := by
  have hput : ∀ {i : Nat} {p : Int}, p ≠ 3 → Late (putQ x i p) now := fun {i p} hp j hj tj pj => by
    by_cases e : j = i
    · subst e; rw [putQ_F] at pj; exact absurd pj hp
    · rw [putQ_ne _ _ e] at pj ⊢; exact hl j hj tj pj
  cases turn_is d now h.ls with
  | none hb e => rw [e] at ht; cases ht
  | dep i hb hi hs hc s r hq hw e => rw [e] at ht; cases ht
  | more i hb hi hs hc e =>
    rw [e] at ht; cases ht
    refine ⟨Alike.trans (y := { x with F := upF x.F i { x.F i with c := (x.F i).c + x.c.q } }) ?_ (put_alike _ i 2), fun j hj tj pj => ?_⟩
    · refine ⟨rfl, fun _ => rfl, fun j => ?_, fun j => ?_, fun j => ?_⟩ <;>
      · by_cases e : j = i
        · subst e; dsimp only; rw [upF_at]
        · dsimp only; rw [upF_ne _ _ e]
    · by_cases e : j = i
      · subst e; rw [putQ_F] at pj; cases pj
      · rw [putQ_ne _ _ e] at pj ⊢
        have e3 : ({ x with F := upF x.F i { x.F i with c := (x.F i).c + x.c.q } } : Qm).F j = x.F j := upF_ne _ _ e
        rw [e3] at pj ⊢
        exact hl j hj tj pj
  | back i hb hi hs hc hq hf e => rw [e] at ht; cases ht; exact ⟨put_alike x i 2, hput (by decide)⟩
  | gone i hb hi hs hc hq hf e =>
    rw [e] at ht; cases ht
    refine ⟨(put_alike x i 0).trans ?_, fun j hj tj pj => ?_⟩
    · refine ⟨rfl, fun _ => rfl, fun j => ?_, fun j => ?_, fun j => ?_⟩ <;>
      · by_cases e : j = i
        · subst e; dsimp only; rw [upF_at]
        · dsimp only; rw [upF_ne _ _ e]
    · have hh := hput (i := i) (p := 0) (by decide)
      by_cases e : j = i
      · subst e
        have e3 : ({ putQ x j 0 with F := upF (putQ x j 0).F j { (putQ x j 0).F j with u := now } } : Qm).F j = { (putQ x j 0).F j with u := now } := upF_at _ _ _
        rw [e3] at pj
        have : ((putQ x j 0).F j).p = 3 := pj
        rw [putQ_F] at this; cases this
      · have e3 : ({ putQ x i 0 with F := upF (putQ x i 0).F i { (putQ x i 0).F i with u := now } } : Qm).F j = (putQ x i 0).F j := upF_ne _ _ e
        rw [e3] at pj ⊢
        exact hh j hj tj pj
  | wait i hb hi hs hc s r hq hw e =>
    rw [e] at ht; cases ht
    refine ⟨put_alike x i 3, fun j hj tj pj => ?_⟩
    rw [(put_alike x i 3).time]
    by_cases e : j = i
    · subst e; exact hw
    · rw [putQ_ne _ _ e] at pj; exact hl j hj tj pj

/-- What departs, and what is left: the first one of a flow whose time has come; else as it was. -/
structure Dep (d : Int → Int → Int) (x y : Qm) (now : Int) (i : Nat) (s : Sg) (r : List Sg) : Prop where
  hi : i < 8
  hT : x.T i = true
  hs : s.s = (i : Int)
  hq : (x.F i).q = s :: r
  hw : timeF (x.F i) ≤ now
  c : y.c = x.c
  T : ∀ j, y.T j = x.T j
  q : (y.F i).q = r
  n : (y.F i).n = addS now (d s.l (i : Int))
  s : ∀ j, (y.F j).s = (x.F j).s
  qs : ∀ j, j ≠ i → (y.F j).q = (x.F j).q
  ns : ∀ j, j ≠ i → (y.F j).n = (x.F j).n
theorem Dep.of {d : Int → Int → Int} {x y z : Qm} {now : Int} {i : Nat} {s : Sg} {r : List Sg} (a : Alike x y) (h : Dep d y z now i s r) : Dep d x z now i s r :=
  ⟨h.hi, by rw [← a.T]; exact h.hT, h.hs, by rw [← a.q]; exact h.hq, by rw [← a.time]; exact h.hw, h.c.trans a.c, fun j => (h.T j).trans (a.T j), h.q, h.n, fun j => (h.s j).trans (a.s j), fun j e => (h.qs j e).trans (a.q j), fun j e => (h.ns j e).trans (a.n j)⟩
theorem Dep.len {d : Int → Int → Int} {x y : Qm} {now : Int} {i : Nat} {s : Sg} {r : List Sg} (h : Dep d x y now i s r) : lenQ y + 1 = lenQ x := by
  have e := sum8_up (g := fun i => (x.F i).q.length) (g' := fun i => (y.F i).q.length) h.hi (fun j hj => by rw [h.qs j hj])
  have e1 : lenQ x = sum8 fun i => (x.F i).q.length := lenQ_eq x
  have e2 : lenQ y = sum8 fun i => (y.F i).q.length := lenQ_eq y
  rw [h.hq, h.q, List.length_cons] at e
  omega
/-- How a pull ends. -/
inductive Ends (d : Int → Int → Int) (x : Qm) (now : Int) (y : Qm) : Option Sg → Prop where
  | none (a : Alike x y) (h : ∀ i : Nat, i < 8 → x.T i = true → (x.F i).q ≠ [] → now < timeF (x.F i)) (late : Late y now) (w : ∀ i : Nat, i < 8 → y.T i = true → (y.F i).q ≠ [] → (y.F i).p = 3) : Ends d x now y none
  | some {i s r} (h : Dep d x y now i s r) : Ends d x now y (some s)
theorem Ends.of {d : Int → Int → Int} {x y z : Qm} {now : Int} {o : Option Sg} (a : Alike x y) (h : Ends d y now z o) : Ends d x now z o := by
  cases h with
  | none b h l w => exact .none (a.trans b) (fun i hi ht hq => by rw [← a.time]; exact h i hi (by rw [a.T]; exact ht) (by rw [a.q]; exact hq)) l w
  | some h => exact .some (h.of a)
theorem run_ends {d : Int → Int → Int} {now : Int} (hn : U64 now) (hd : ∀ l z, 0 ≤ d l z) : ∀ (k : Nat) {x : Qm}, x.Ok → Late x now → turnsQ x < k → Ends d x now (runQ d now k x).1 (runQ d now k x).2
  | 0, _, _, _, h => absurd h (Nat.not_lt_zero _)
  | k + 1, x, h, hl, hk => by
    unfold runQ
    cases ht : turnQ d x now with
    | on y =>
      obtain ⟨a, l⟩ := turn_alike h hl ht
      have hq := h.hc.hq
      have hm := (turn_less h.ls (by omega) ht).1
      exact (run_ends hn hd k ((turn_ok h hn hd).1 y ht) l (by omega)).of a
    | stop y s =>
      dsimp only
      cases turn_is d now h.ls with
      | none hb e =>
        rw [e] at ht; cases ht
        have hnil : x.N = [] ∧ x.O = [] := by
          unfold headB at hb
          simpa using hb
        have hw : ∀ i : Nat, i < 8 → x.T i = true → (x.F i).q ≠ [] → (x.F i).p = 3 := fun i hi t q => by
          have ok := h.is i hi t
          have h1 := h.new i hi
          have h2 := h.old i hi
          rw [hnil.1] at h1
          rw [hnil.2] at h2
          have n1 : (x.F i).p ≠ 1 := fun e => by have := h1.2 ⟨t, e⟩; cases this
          have n2 : (x.F i).p ≠ 2 := fun e => by have := h2.2 ⟨t, e⟩; cases this
          have n0 : (x.F i).p ≠ 0 := fun e => q (ok.em e)
          have := ok.hp
          omega
        exact .none (.refl x) (fun i hi t q => hl i hi t (hw i hi t q)) hl hw
      | more i hb hi hs hc e => rw [e] at ht; cases ht
      | back i hb hi hs hc hq hf e => rw [e] at ht; cases ht
      | gone i hb hi hs hc hq hf e => rw [e] at ht; cases ht
      | wait i hb hi hs hc s r hq hw e => rw [e] at ht; cases ht
      | dep i hb hi hs hc s r hq hw e =>
        rw [e] at ht; cases ht
        obtain ⟨i', _, e', _, hT, hp, hok⟩ := h.head hb
        obtain rfl : i' = i := by omega
        refine .some ⟨hi, hT, (hok.hq s (by rw [hq]; exact List.mem_cons_self ..)).hs, hq, by omega, rfl, fun _ => rfl, ?_, ?_, fun j => ?_, fun j hj => ?_, fun j hj => ?_⟩
        · dsimp only; rw [upF_at]
        · dsimp only; rw [upF_at]
        · dsimp only
          by_cases e : j = i'
          · subst e; rw [upF_at]
          · rw [upF_ne _ _ e]
        · dsimp only; rw [upF_ne _ _ hj]
        · dsimp only; rw [upF_ne _ _ hj]
theorem deq_ends {d : Int → Int → Int} {x : Qm} {now : Int} (h : x.Ok) (hn : U64 now) (hd : ∀ l z, 0 ≤ d l z) : Ends d x now (deqQ d x now).1 (deqQ d x now).2 :=
  (run_ends hn hd _ (wake_ok 8 h) (wake8_late now x) (Nat.lt_succ_self _)).of (wake_alike now 8 x)

/-! ### The watchdog -/
def dogQ (x : Qm) : Option Int := (firstQ x).map fun i => timeF (x.F i)
theorem dog_some {x : Qm} {t : Int} (h : dogQ x = some t) : (∃ i : Nat, i < 8 ∧ x.T i = true ∧ (x.F i).p = 3 ∧ timeF (x.F i) = t) ∧ ∀ i : Nat, i < 8 → x.T i = true → (x.F i).p = 3 → t ≤ timeF (x.F i) := by
  unfold dogQ at h
  cases hf : firstQ x with
  | none => rw [hf] at h; cases h
  | some b =>
    rw [hf] at h
    cases h
    obtain ⟨hb, hT, hp⟩ := firstN_some hf
    exact ⟨⟨b, hb, hT, hp, rfl⟩, fun i hi ht hp => (firstN_least hf i hi ht hp).1⟩
theorem dog_none {x : Qm} (h : dogQ x = none) : ∀ i : Nat, i < 8 → x.T i = true → (x.F i).p ≠ 3 := by
  unfold dogQ at h
  cases hf : firstQ x with
  | none => exact fun i hi ht hp => firstN_none hf i hi ⟨ht, hp⟩
  | some b => rw [hf] at h; cases h
end Go.Proofs.Ytnljjdfajmjdjaa
