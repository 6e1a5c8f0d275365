/-
  The document's queue as plain numbers and lists: each turn of a pull, and its end, said of each flow; next times are never far ahead. No program is spoken of. Conditions: none.
  The document's queue as plain numbers and lists: two flows that always have segments take turns; what they had differs by little. No program is spoken of. Conditions: none.
  The document's queue as plain numbers and lists: what a segment that is put in leaves of each flow; the two that take turns stay so. No program is spoken of. Conditions: none.
-/
import Derived.Test.YtnljjdfajmjdjaaJ28
namespace Go.Proofs.Ytnljjdfajmjdjaa
open Go.RowKit
set_option maxRecDepth 100000

/-! ### A turn, flow by flow -/
structure Stp (x y : Qm) (now : Int) (i : Nat) (c p u : Int) : Prop where
  hb : headB x.N x.O = true
  hi : i < 8
  hs : headS x.N x.O = (i : Int)
  hT : x.T i = true
  hok : (x.F i).Ok i
  at_ : y.F i = { x.F i with c := c, p := p, u := u }
  els : ∀ j : Nat, j ≠ i → y.F j = x.F j
  T : y.T = x.T
  hk : y.c = x.c
  N : y.N = x.N.erase (i : Int)
  O : y.O = if p = 2 then x.O.erase (i : Int) ++ [(i : Int)] else x.O.erase (i : Int)
  how : ((x.F i).c ≤ 0 ∧ c = (x.F i).c + x.c.q ∧ p = 2 ∧ u = (x.F i).u) ∨
    (0 < (x.F i).c ∧ c = (x.F i).c ∧ ((p = 2 ∧ (x.F i).q = [] ∧ u = (x.F i).u ∧ headF x.N x.O = true ∧ x.O ≠ []) ∨ (p = 0 ∧ (x.F i).q = [] ∧ u = now) ∨ (p = 3 ∧ (x.F i).q ≠ [] ∧ u = (x.F i).u ∧ now < timeF (x.F i))))
theorem turn_step {d : Int → Int → Int} {x y : Qm} {now : Int} (h : x.Ok) (ht : turnQ d x now = .on y) : ∃ i c p u, Stp x y now i c p u := by
  cases turn_is d now h.ls with
  | none hb e => rw [e] at ht; cases ht
  | dep i hb hi hs hc s r hq hw e => rw [e] at ht; cases ht
  | more i hb hi hs hc e =>
    rw [e] at ht; cases ht
    obtain ⟨i', _, e', _, hT, hp, hok⟩ := h.head hb
    obtain rfl : i' = i := by omega
    refine ⟨i', (x.F i').c + x.c.q, 2, (x.F i').u, hb, hi, hs, hT, hok, ?_, fun j hj => ?_, rfl, rfl, rfl, rfl, .inl ⟨hc, rfl, rfl, rfl⟩⟩
    · rw [putQ_F]; show { upF x.F i' _ i' with p := 2 } = _; rw [upF_at]
    · rw [putQ_ne _ _ hj]; exact upF_ne _ _ hj
  | back i hb hi hs hc hq hf e =>
    rw [e] at ht; cases ht
    obtain ⟨i', _, e', _, hT, hp, hok⟩ := h.head hb
    obtain rfl : i' = i := by omega
    exact ⟨i', (x.F i').c, 2, (x.F i').u, hb, hi, hs, hT, hok, putQ_F _ _ _, fun j hj => putQ_ne _ _ hj, rfl, rfl, rfl, rfl, .inr ⟨by omega, rfl, .inl ⟨rfl, hq, rfl, hf⟩⟩⟩
  | gone i hb hi hs hc hq hf e =>
    rw [e] at ht; cases ht
    obtain ⟨i', _, e', _, hT, hp, hok⟩ := h.head hb
    obtain rfl : i' = i := by omega
    refine ⟨i', (x.F i').c, 0, now, hb, hi, hs, hT, hok, ?_, fun j hj => ?_, rfl, rfl, rfl, rfl, .inr ⟨by omega, rfl, .inr (.inl ⟨rfl, hq, rfl⟩)⟩⟩
    · show upF _ i' _ i' = _; rw [upF_at, putQ_F]
    · show upF _ i' _ j = _; rw [upF_ne _ _ hj]; exact putQ_ne _ _ hj
  | wait i hb hi hs hc s r hq hw e =>
    rw [e] at ht; cases ht
    obtain ⟨i', _, e', _, hT, hp, hok⟩ := h.head hb
    obtain rfl : i' = i := by omega
    exact ⟨i', (x.F i').c, 3, (x.F i').u, hb, hi, hs, hT, hok, putQ_F _ _ _, fun j hj => putQ_ne _ _ hj, rfl, rfl, rfl, rfl, .inr ⟨by omega, rfl, .inr (.inr ⟨rfl, by rw [hq]; exact List.cons_ne_nil _ _, rfl, hw⟩)⟩⟩
/-- What departs in one turn. -/
structure Last (d : Int → Int → Int) (x y : Qm) (now : Int) (i : Nat) (s : Sg) (r : List Sg) : Prop where
  hb : headB x.N x.O = true
  hi : i < 8
  hs : headS x.N x.O = (i : Int)
  hT : x.T i = true
  hok : (x.F i).Ok i
  hq : (x.F i).q = s :: r
  hc : 0 < (x.F i).c
  hw : timeF (x.F i) ≤ now
  at_ : y.F i = { x.F i with q := r, c := (x.F i).c - s.l, n := addS now (d s.l (i : Int)) }
  els : ∀ j : Nat, j ≠ i → y.F j = x.F j
  T : y.T = x.T
  hk : y.c = x.c
  N : y.N = x.N
  O : y.O = x.O
theorem turn_last {d : Int → Int → Int} {x y : Qm} {now : Int} {o : Option Sg} (h : x.Ok) (ht : turnQ d x now = .stop y o) :
    (o = none ∧ y = x ∧ headB x.N x.O = false) ∨ ∃ i s r, o = some s ∧ Last d x y now i s r := by
  cases turn_is d now h.ls with
  | none hb e => rw [e] at ht; cases ht; exact .inl ⟨rfl, rfl, hb⟩
  | dep i hb hi hs hc s r hq hw e =>
    rw [e] at ht; cases ht
    obtain ⟨i', _, e', _, hT, hp, hok⟩ := h.head hb
    obtain rfl : i' = i := by omega
    exact .inr ⟨i', s, r, rfl, hb, hi, hs, hT, hok, hq, by omega, by omega, upF_at _ _ _, fun j hj => upF_ne _ _ hj, rfl, rfl, rfl, rfl⟩
  | more i hb hi hs hc e => rw [e] at ht; cases ht
  | back i hb hi hs hc hq hf e => rw [e] at ht; cases ht
  | gone i hb hi hs hc hq hf e => rw [e] at ht; cases ht
  | wait i hb hi hs hc s r hq hw e => rw [e] at ht; cases ht

/-- What holds of a queue, is kept by each turn and by what departs, holds behind a pull. -/
theorem run_holds {d : Int → Int → Int} {now : Int} (hn : U64 now) (hd : ∀ l z, 0 ≤ d l z) {I : Qm → Prop} {R : Qm → Option Sg → Prop}
    (hstep : ∀ x y i c p u, x.Ok → I x → Stp x y now i c p u → I y) (hlast : ∀ x y i s r, x.Ok → I x → Last d x y now i s r → R y (some s)) (hnone : ∀ x, x.Ok → I x → headB x.N x.O = false → R x none) :
    ∀ (k : Nat) {x : Qm}, x.Ok → I x → turnsQ x < k → R (runQ d now k x).1 (runQ d now k x).2
  | 0, _, _, _, h => absurd h (Nat.not_lt_zero _)
  | k + 1, x, h, hI, hk => by
    unfold runQ
    cases ht : turnQ d x now with
    | on y =>
      obtain ⟨i, c, p, u, st⟩ := turn_step h ht
      have hq := h.hc.hq
      have hm := (turn_less h.ls (by omega) ht).1
      exact run_holds hn hd hstep hlast hnone k ((turn_ok h hn hd).1 y ht) (hstep x y i c p u h hI st) (by omega)
    | stop y o =>
      dsimp only
      rcases turn_last h ht with ⟨rfl, rfl, hb⟩ | ⟨i, s, r, rfl, l⟩
      · exact hnone _ h hI hb
      · exact hlast x y i s r h hI l
theorem wake_holds {now : Int} {I : Qm → Prop} (hput : ∀ x i, x.Ok → I x → i < 8 → x.T i = true → (x.F i).p = 3 → timeF (x.F i) ≤ now → I (putQ x i 2)) :
    ∀ (k : Nat) {x : Qm}, x.Ok → I x → I (wakeN now k x)
  | 0, _, _, h => h
  | k + 1, x, h, hI => by
    unfold wakeN
    cases hf : firstQ x with
    | none => exact hI
    | some i =>
      dsimp only
      split
      · rename_i hw
        obtain ⟨hi, hT, hp⟩ := firstN_some hf
        have hok := h.is i hi hT
        refine wake_holds hput k (h.put hi (fun j hj => putQ_ne _ _ hj) (fun _ => rfl) rfl hT ?_ (by rw [putQ_F]; rfl) (by rw [putQ_F]; rfl) (by rw [putQ_F]; exact Nat.le_refl _)) (hput x i h hI hi hT hp hw)
        rw [putQ_F]
        exact ⟨hok.hs, hok.hc, by dsimp only; omega, hok.hn, hok.hu, fun _ => hok.no (by omega), fun e => (by cases e), fun e => (by cases e), hok.hq⟩
      · exact hI
theorem deq_holds {d : Int → Int → Int} {now : Int} (hn : U64 now) (hd : ∀ l z, 0 ≤ d l z) {I : Qm → Prop} {R : Qm → Option Sg → Prop}
    (hput : ∀ x i, x.Ok → I x → i < 8 → x.T i = true → (x.F i).p = 3 → timeF (x.F i) ≤ now → I (putQ x i 2))
    (hstep : ∀ x y i c p u, x.Ok → I x → Stp x y now i c p u → I y) (hlast : ∀ x y i s r, x.Ok → I x → Last d x y now i s r → R y (some s)) (hnone : ∀ x, x.Ok → I x → headB x.N x.O = false → R x none)
    {x : Qm} (h : x.Ok) (hI : I x) : R (deqQ d x now).1 (deqQ d x now).2 :=
  run_holds hn hd hstep hlast hnone _ (wake_ok 8 h) (wake_holds hput 8 h hI) (Nat.lt_succ_self _)

/-! ### Next times are never far ahead -/
/-- Not by more than a second, of now, and of the time since when it is nowhere. -/
def Near (x : Qm) (now : Int) : Prop := ∀ i : Nat, i < 8 → x.T i = true → (x.F i).n ≤ now + 1000000000 ∧ ((x.F i).p = 0 → (x.F i).n ≤ (x.F i).u + 1000000000)
theorem Near.more {x : Qm} {now now' : Int} (h : Near x now) (hn : now ≤ now') : Near x now' := fun i hi ht => ⟨by have := (h i hi ht).1; omega, (h i hi ht).2⟩
theorem addS_le {a b : Int} : addS a b ≤ a + b := by unfold addS; split <;> omega
theorem near_deq {d : Int → Int → Int} {x : Qm} {now : Int} (h : x.Ok) (hn : U64 now) (hd : ∀ l z, 0 ≤ d l z ∧ d l z ≤ 1000000000) (hx : Near x now) : Near (deqQ d x now).1 now := by
  refine deq_holds (I := fun x => Near x now) (R := fun y _ => Near y now) hn (fun l z => (hd l z).1) (fun x i _ hI hi hT hp hw j hj tj => ?_) (fun x y i c p u _ hI st j hj tj => ?_) (fun x y i s r _ hI st j hj tj => ?_) (fun x _ hI _ => hI) h hx
  · by_cases e : j = i
    · subst e; rw [putQ_F]; exact ⟨(hI j hi hT).1, fun e => by cases e⟩
    · rw [putQ_ne _ _ e]; exact hI j hj tj
  · rw [st.T] at tj
    by_cases e : j = i
    · subst e
      rw [st.at_]
      refine ⟨(hI j hj tj).1, fun e => ?_⟩
      have e : p = 0 := e
      rcases st.how with ⟨_, _, e2, _⟩ | ⟨_, _, ⟨e2, _, _⟩ | ⟨_, _, e3⟩ | ⟨e2, _⟩⟩
      · omega
      · omega
      · rw [e3]; exact (hI j hj tj).1
      · omega
    · rw [st.els j e]; exact hI j hj tj
  · rw [st.T] at tj
    by_cases e : j = i
    · subst e
      rw [st.at_]
      have hq0 : (x.F j).p ≠ 0 := fun e => by have := st.hok.em e; rw [st.hq] at this; cases this
      exact ⟨by have := addS_le (a := now) (b := d s.l (j : Int)); have := (hd s.l (j : Int)).2; dsimp only; omega, fun e => absurd e hq0⟩
    · rw [st.els j e]; exact hI j hj tj
theorem near_enq {x : Qm} {s : Sg} {now : Int} (hn : 0 ≤ now) (hx : Near x now) : Near (enqQ x s now) now := by
  have hcoll : Near (collQ x now) now := fun i hi ht => by
    have : deadF x now i = false ∧ x.T i = true := by
      have : (x.T i && !deadF x now i) = true := ht
      simp at this
      exact ⟨this.2, this.1⟩
    have e : (collQ x now).F i = x.F i := by simp [collQ, this.1]
    rw [e]
    exact hx i hi this.2
  unfold enqQ
  split
  · split
    · intro i hi ht
      by_cases e : i = s.s.toNat
      · subst e
        have e1 : (takeQ (collQ x now) s now).F s.s.toNat = takeF (collQ x now) s now := upF_at _ _ _
        rw [e1]
        have hn' : (takeF (collQ x now) s now).n ≤ now + 1000000000 := by
          show (preF (collQ x now) s now).n ≤ _
          unfold preF
          split
          · rename_i t
            have := (hcoll _ hi t).1
            split <;> exact this
          · show (0 : Int) ≤ _; omega
        refine ⟨hn', fun e => ?_⟩
        have e : (if (preF (collQ x now) s now).p = 0 then 1 else (preF (collQ x now) s now).p) = 0 := e
        split at e
        · cases e
        · rename_i h; exact absurd e h
      · have e1 : (takeQ (collQ x now) s now).F i = (collQ x now).F i := upF_ne _ _ e
        have e2 : (takeQ (collQ x now) s now).T i = (collQ x now).T i := upF_ne _ _ e
        rw [e1]; rw [e2] at ht
        exact hcoll i hi ht
    · exact hcoll
  · exact hx
/-- One that is collected waits for nothing any more. -/
theorem Near.dead {x : Qm} {now : Int} (h : Near x now) {i : Nat} (hi : i < 8) (hd : deadF x now i = true) (hn : now < 18446744073709551615) : (x.F i).n ≤ now := by
  unfold deadF at hd
  simp at hd
  have h1 := (h i hi hd.1.1).2 hd.1.2
  have h2 := hd.2
  unfold addS at h2
  split at h2 <;> omega
end Go.Proofs.Ytnljjdfajmjdjaa
namespace Go.Proofs.Ytnljjdfajmjdjaa
open Go.RowKit
set_option maxRecDepth 100000

/-! ### Two sockets among the lists -/
def two (l : List Int) : List Int := l.filter fun z => z == 0 || z == 1
theorem two_app (l m : List Int) : two (l ++ m) = two l ++ two m := List.filter_append ..
theorem two_no {z : Int} (h : z ≠ 0 ∧ z ≠ 1) (l : List Int) : two (l.erase z) = two l := by
  induction l with
  | nil => rfl
  | cons a r ih =>
    by_cases e : a = z
    · subst e
      rw [List.erase_cons_head]
      have : ((a == 0) || (a == 1)) = false := by simp [h.1, h.2]
      unfold two
      rw [List.filter_cons, if_neg (by simp [h.1, h.2])]
    · rw [List.erase_cons_tail (by simpa using e)]
      unfold two at ih ⊢
      rw [List.filter_cons, List.filter_cons, ih]
theorem two_one {z : Int} (h : z ≠ 0 ∧ z ≠ 1) : two [z] = [] := by
  unfold two; rw [List.filter_cons, if_neg (by simp [h.1, h.2]), List.filter_nil]
theorem two_put {z : Int} (h : z ≠ 0 ∧ z ≠ 1) (l : List Int) (b : Bool) : two (if b = true then l.erase z ++ [z] else l.erase z) = two l := by
  split
  · rw [two_app, two_one h, two_no h, List.append_nil]
  · exact two_no h l
/-- The head of both lists, one of the two, goes behind. -/
theorem two_head {N O : List Int} {z : Int} (hb : headB N O = true) (hs : headS N O = z) (hz : z = 0 ∨ z = 1) (hn : (N ++ O).Nodup) :
    (two (N ++ O)).headD (-1) = z ∧ two (N.erase z ++ (O.erase z ++ [z])) = (two (N ++ O)).tail ++ [z] := by
  have hb1 : two [z] = [z] := by rcases hz with rfl | rfl <;> rfl
  have hp : ((z == 0) || (z == 1)) = true := by rcases hz with rfl | rfl <;> rfl
  cases N with
  | nil =>
    cases O with
    | nil => cases hb
    | cons u r =>
      have hs : u = z := hs
      subst hs
      rw [List.nil_append] at hn ⊢
      rw [List.erase_cons_head, List.erase_nil, List.nil_append, two_app, hb1]
      have e : two (u :: r) = u :: two r := by unfold two; rw [List.filter_cons, if_pos hp]
      rw [e]
      exact ⟨rfl, rfl⟩
  | cons u r =>
    have hs : u = z := hs
    subst hs
    have hu : u ∉ r ++ O := (List.nodup_cons.1 hn).1
    rw [List.mem_append, not_or] at hu
    rw [List.erase_cons_head, List.erase_of_not_mem hu.2, ← List.append_assoc, two_app (r ++ O) [u], hb1]
    have e : two (u :: r ++ O) = u :: two (r ++ O) := by
      show two (u :: (r ++ O)) = _
      unfold two; rw [List.filter_cons, if_pos hp]
    rw [e]
    exact ⟨rfl, rfl⟩

/-! ### What holds of the two -/
/-- The two are in the lists, have segments, wait for no time; what they had is what they were given less what they have. -/
structure Fair (x : Qm) (C : Cf) (h0 h1 L : Int) : Prop where
  c : x.c = C
  T0 : x.T 0 = true
  T1 : x.T 1 = true
  p0 : (x.F 0).p = 1 ∨ (x.F 0).p = 2
  p1 : (x.F 1).p = 1 ∨ (x.F 1).p = 2
  lo : -L < (x.F 0).c ∧ -L < (x.F 1).c
  hi : (x.F 0).c ≤ max C.f C.q ∧ (x.F 1).c ≤ max C.f C.q
  k : ∃ k0 k1 : Int, (x.F 0).c = C.f + k0 * C.q - h0 ∧ (x.F 1).c = C.f + k1 * C.q - h1 ∧ ((two (x.N ++ x.O) = [0, 1] ∧ k0 = k1) ∨ (two (x.N ++ x.O) = [1, 0] ∧ k0 = k1 + 1))
theorem Fair.near {x : Qm} {C : Cf} {h0 h1 L : Int} (h : Fair x C h0 h1 L) (hq : 0 ≤ C.q) : max h0 h1 - min h0 h1 ≤ C.q + max C.q C.f + L := by
  obtain ⟨k0, k1, e0, e1, hk⟩ := h.k
  have := h.lo; have := h.hi
  rcases hk with ⟨_, rfl⟩ | ⟨_, rfl⟩
  · omega
  · rw [Int.add_mul] at e0; omega
/-- They have segments whose time has come. -/
def Ready (x : Qm) (now : Int) : Prop := ((x.F 0).q ≠ [] ∧ timeF (x.F 0) ≤ now) ∧ (x.F 1).q ≠ [] ∧ timeF (x.F 1) ≤ now
theorem Fair.put {x : Qm} {C : Cf} {h0 h1 L : Int} (h : Fair x C h0 h1 L) {i : Nat} (hp : (x.F i).p = 3) (hi : i < 8) : Fair (putQ x i 2) C h0 h1 L := by
  have n0 : i ≠ 0 := fun e => by subst e; have := h.p0; omega
  have n1 : i ≠ 1 := fun e => by subst e; have := h.p1; omega
  have hz : (i : Int) ≠ 0 ∧ (i : Int) ≠ 1 := by omega
  have e0 : (putQ x i 2).F 0 = x.F 0 := putQ_ne _ _ (Ne.symm n0)
  have e1 : (putQ x i 2).F 1 = x.F 1 := putQ_ne _ _ (Ne.symm n1)
  have et : two ((putQ x i 2).N ++ (putQ x i 2).O) = two (x.N ++ x.O) := by
    show two (x.N.erase (i : Int) ++ (x.O.erase (i : Int) ++ [(i : Int)])) = _
    rw [two_app, two_app, two_no hz, two_no hz, two_one hz, List.append_nil, two_app]
  exact ⟨h.c, h.T0, h.T1, by rw [e0]; exact h.p0, by rw [e1]; exact h.p1, by rw [e0, e1]; exact h.lo, by rw [e0, e1]; exact h.hi, by rw [e0, e1, et]; exact h.k⟩
theorem Ready.put {x : Qm} {now : Int} (h : Ready x now) (i : Nat) (p : Int) : Ready (putQ x i p) now := by
  have a := put_alike x i p
  unfold Ready
  rw [a.q, a.q, a.time, a.time]
  exact h
theorem Fair.step {x y : Qm} {C : Cf} {h0 h1 L now : Int} (hx : x.Ok) (h : Fair x C h0 h1 L) (r : Ready x now) {i : Nat} {c p u : Int} (st : Stp x y now i c p u) : Fair y C h0 h1 L := by
  have hq := hx.hc.hq
  rw [h.c] at hq
  by_cases n : i = 0 ∨ i = 1
  · -- one of the two: it has no credit
    have hz : (i : Int) = 0 ∨ (i : Int) = 1 := by omega
    have hr : (x.F i).q ≠ [] ∧ timeF (x.F i) ≤ now := by
      rcases n with rfl | rfl
      · exact r.1
      · exact r.2
    have hw : (x.F i).c ≤ 0 ∧ c = (x.F i).c + C.q ∧ p = 2 := by
      rcases st.how with ⟨a, b, e, _⟩ | ⟨_, _, ⟨_, e, _⟩ | ⟨_, e, _⟩ | ⟨_, _, _, e⟩⟩
      · rw [h.c] at b; exact ⟨a, b, e⟩
      · exact absurd e hr.1
      · exact absurd e hr.1
      · omega
    obtain ⟨a, rfl, rfl⟩ := hw
    obtain ⟨hh, ht⟩ := two_head st.hb st.hs hz hx.ls.once
    have et : two (y.N ++ y.O) = (two (x.N ++ x.O)).tail ++ [(i : Int)] := by rw [st.N, st.O, if_pos rfl]; exact ht
    have hi := h.hi; have hlo := h.lo
    obtain ⟨k0, k1, e0, e1, hk⟩ := h.k
    rcases n with rfl | rfl
    · have E0 := st.at_
      have E1 := st.els 1 (by decide)
      refine ⟨st.hk.trans h.c, by rw [st.T]; exact h.T0, by rw [st.T]; exact h.T1, by rw [E0]; exact .inr rfl, by rw [E1]; exact h.p1, ⟨by rw [E0]; dsimp only; omega, by rw [E1]; exact hlo.2⟩, ⟨by rw [E0]; dsimp only; omega, by rw [E1]; exact hi.2⟩, k0 + 1, k1, by rw [E0]; dsimp only; rw [e0, Int.add_mul]; omega, by rw [E1]; exact e1, ?_⟩
      rcases hk with ⟨t, e⟩ | ⟨t, e⟩
      · rw [et, t]; exact .inr ⟨rfl, by rw [e]⟩
      · rw [t] at hh; cases hh
    · have E1 := st.at_
      have E0 := st.els 0 (by decide)
      refine ⟨st.hk.trans h.c, by rw [st.T]; exact h.T0, by rw [st.T]; exact h.T1, by rw [E0]; exact h.p0, by rw [E1]; exact .inr rfl, ⟨by rw [E0]; exact hlo.1, by rw [E1]; dsimp only; omega⟩, ⟨by rw [E0]; exact hi.1, by rw [E1]; dsimp only; omega⟩, k0, k1 + 1, by rw [E0]; exact e0, by rw [E1]; dsimp only; rw [e1, Int.add_mul]; omega, ?_⟩
      rcases hk with ⟨t, e⟩ | ⟨t, e⟩
      · rw [t] at hh; cases hh
      · rw [et, t]; exact .inl ⟨rfl, e⟩
  · have hz : (i : Int) ≠ 0 ∧ (i : Int) ≠ 1 := by omega
    have E0 := st.els 0 (by omega)
    have E1 := st.els 1 (by omega)
    have et : two (y.N ++ y.O) = two (x.N ++ x.O) := by
      rw [st.N, st.O, two_app, two_app, two_no hz]
      have := two_put hz x.O (decide (p = 2))
      simp only [decide_eq_true_eq] at this
      rw [this]
    exact ⟨st.hk.trans h.c, by rw [st.T]; exact h.T0, by rw [st.T]; exact h.T1, by rw [E0]; exact h.p0, by rw [E1]; exact h.p1, by rw [E0, E1]; exact h.lo, by rw [E0, E1]; exact h.hi, by rw [E0, E1, et]; exact h.k⟩
theorem Ready.step {x y : Qm} {now : Int} (r : Ready x now) {i : Nat} {c p u : Int} (st : Stp x y now i c p u) : Ready y now := by
  have hE : ∀ j : Nat, (y.F j).q = (x.F j).q ∧ timeF (y.F j) = timeF (x.F j) := fun j => by
    by_cases e : j = i
    · subst e; rw [st.at_]; exact ⟨rfl, rfl⟩
    · rw [st.els j e]; exact ⟨rfl, rfl⟩
  unfold Ready
  rw [(hE 0).1, (hE 0).2, (hE 1).1, (hE 1).2]
  exact r
/-- What departs counts for its flow. -/
def hadQ (h : Int) (i : Nat) (s : Sg) : Int := if s.s = (i : Int) then h + s.l else h
theorem Fair.last {d : Int → Int → Int} {x y : Qm} {C : Cf} {h0 h1 L now : Int} (h : Fair x C h0 h1 L) {i : Nat} {s : Sg} {r : List Sg} (st : Last d x y now i s r) (hl : i = 0 ∨ i = 1 → s.l ≤ L) :
    Fair y C (hadQ h0 0 s) (hadQ h1 1 s) L := by
  have hso := st.hok.hq s (by rw [st.hq]; exact List.mem_cons_self ..)
  have hss := hso.hs
  have hsl := hso.hl
  have hc := st.hc
  have hi := h.hi; have hlo := h.lo
  obtain ⟨k0, k1, e0, e1, hk⟩ := h.k
  have et : two (y.N ++ y.O) = two (x.N ++ x.O) := by rw [st.N, st.O]
  by_cases n0 : i = 0
  · subst n0
    have E0 := st.at_
    have E1 := st.els 1 (by decide)
    have a0 : hadQ h0 0 s = h0 + s.l := if_pos hss
    have a1 : hadQ h1 1 s = h1 := if_neg (by rw [hss]; decide)
    have := hl (.inl rfl)
    rw [a0, a1]
    exact ⟨st.hk.trans h.c, by rw [st.T]; exact h.T0, by rw [st.T]; exact h.T1, by rw [E0]; exact h.p0, by rw [E1]; exact h.p1, ⟨by rw [E0]; dsimp only; omega, by rw [E1]; exact hlo.2⟩, ⟨by rw [E0]; dsimp only; omega, by rw [E1]; exact hi.2⟩, k0, k1, by rw [E0]; dsimp only; rw [e0]; omega, by rw [E1]; exact e1, by rw [et]; exact hk⟩
  · by_cases n1 : i = 1
    · subst n1
      have E1 := st.at_
      have E0 := st.els 0 (by decide)
      have a0 : hadQ h0 0 s = h0 := if_neg (by rw [hss]; decide)
      have a1 : hadQ h1 1 s = h1 + s.l := if_pos hss
      have := hl (.inr rfl)
      rw [a0, a1]
      exact ⟨st.hk.trans h.c, by rw [st.T]; exact h.T0, by rw [st.T]; exact h.T1, by rw [E0]; exact h.p0, by rw [E1]; exact h.p1, ⟨by rw [E0]; exact hlo.1, by rw [E1]; dsimp only; omega⟩, ⟨by rw [E0]; exact hi.1, by rw [E1]; dsimp only; omega⟩, k0, k1, by rw [E0]; exact e0, by rw [E1]; dsimp only; rw [e1]; omega, by rw [et]; exact hk⟩
    · have E0 := st.els 0 (by omega)
      have E1 := st.els 1 (by omega)
      have a0 : hadQ h0 0 s = h0 := if_neg (by rw [hss]; omega)
      have a1 : hadQ h1 1 s = h1 := if_neg (by rw [hss]; omega)
      rw [a0, a1]
      exact ⟨st.hk.trans h.c, by rw [st.T]; exact h.T0, by rw [st.T]; exact h.T1, by rw [E0]; exact h.p0, by rw [E1]; exact h.p1, by rw [E0, E1]; exact hlo, by rw [E0, E1]; exact hi, k0, k1, by rw [E0]; exact e0, by rw [E1]; exact e1, by rw [et]; exact hk⟩
/-- A pull of such a queue: a segment departs, and it is as fair. -/
theorem Fair.deq {d : Int → Int → Int} {x : Qm} {C : Cf} {h0 h1 L now : Int} (hx : x.Ok) (hn : U64 now) (hd : ∀ l z, 0 ≤ d l z) (h : Fair x C h0 h1 L) (r : Ready x now)
    (hl : ∀ s, s ∈ (x.F 0).q ∨ s ∈ (x.F 1).q → s.l ≤ L) : ∃ s, (deqQ d x now).2 = some s ∧ Fair (deqQ d x now).1 C (hadQ h0 0 s) (hadQ h1 1 s) L := by
  refine deq_holds (I := fun y => Fair y C h0 h1 L ∧ Ready y now ∧ ∀ s, s ∈ (y.F 0).q ∨ s ∈ (y.F 1).q → s.l ≤ L)
    (R := fun y o => ∃ s, o = some s ∧ Fair y C (hadQ h0 0 s) (hadQ h1 1 s) L) hn hd (fun y i _ hI hi _ hp _ => ?_) (fun y z i c p u hy hI st => ?_) (fun y z i s q _ hI st => ?_) (fun y hy hI hb => ?_) hx ⟨h, r, hl⟩
  · have a := put_alike y i 2
    exact ⟨hI.1.put hp hi, hI.2.1.put i 2, by rw [a.q, a.q]; exact hI.2.2⟩
  · have hE : ∀ j : Nat, (z.F j).q = (y.F j).q := fun j => by
      by_cases e : j = i
      · subst e; rw [st.at_]
      · rw [st.els j e]
    exact ⟨hI.1.step hy hI.2.1 st, hI.2.1.step st, by rw [hE, hE]; exact hI.2.2⟩
  · refine ⟨s, rfl, hI.1.last st fun e => hI.2.2 s ?_⟩
    have hm : s ∈ (y.F i).q := by rw [st.hq]; exact List.mem_cons_self ..
    rcases e with rfl | rfl
    · exact .inl hm
    · exact .inr hm
  · exfalso
    have hnil : y.N = [] ∧ y.O = [] := by
      unfold headB at hb
      simpa using hb
    obtain ⟨k0, k1, _, _, hk⟩ := hI.1.k
    rw [hnil.1, hnil.2] at hk
    rcases hk with ⟨t, _⟩ | ⟨t, _⟩ <;> cases t
end Go.Proofs.Ytnljjdfajmjdjaa
namespace Go.Proofs.Ytnljjdfajmjdjaa
open Go.RowKit
set_option maxRecDepth 100000

/-! ### What is collected has no segment -/
theorem coll_live {x : Qm} {now : Int} {j : Nat} (ht : x.T j = true) (hp : (x.F j).p ≠ 0) : (collQ x now).F j = x.F j ∧ (collQ x now).T j = true := by
  have hd : deadF x now j = false := by unfold deadF; simp [hp]
  simp [collQ, hd, ht]
theorem dead_is {x : Qm} {now : Int} {j : Nat} (h : deadF x now j = true) : x.T j = true ∧ (x.F j).p = 0 ∧ addS (x.F j).u 3000000000 ≤ now := by
  unfold deadF at h
  simp at h
  exact ⟨h.1.1, h.1.2, h.2⟩
theorem coll_q {x : Qm} (h : x.Ok) (now : Int) {j : Nat} (hj : j < 8) : ((collQ x now).F j).q = (x.F j).q := by
  cases e : deadF x now j with
  | false => simp [collQ, e]
  | true =>
    obtain ⟨ht, hp, _⟩ := dead_is e
    rw [(h.is j hj ht).em hp]
    simp [collQ, e, Fl.zero]
theorem coll_len {x : Qm} (h : x.Ok) (now : Int) : lenQ (collQ x now) = lenQ x := lenQ_same fun i hi => by rw [coll_q h now hi]
theorem fate_coll {x : Qm} (h : x.Ok) {s : Sg} (he : enqE s = 0) (now : Int) : fateQ (collQ x now) s now = fateQ x s now := by
  have hs := (enqE_is he).1
  unfold fateQ
  rw [coll_len h, coll_q h now (by omega)]
  rfl

/-! ### What is put in -/
/-- Is it accepted? -/
def InQ (x : Qm) (s : Sg) (now : Int) : Prop := enqE s = 0 ∧ fateQ x s now = 0
instance (x : Qm) (s : Sg) (now : Int) : Decidable (InQ x s now) := by unfold InQ; infer_instance
theorem enq_v {x : Qm} (h : x.Ok) {s : Sg} (he : enqE s = 0) (now : Int) : enqV x s now = fateQ x s now := by
  unfold enqV; rw [if_pos he, fate_coll h he]
theorem enq_in {x : Qm} (h : x.Ok) {s : Sg} {now : Int} (hi : InQ x s now) : enqQ x s now = takeQ (collQ x now) s now := by
  unfold enqQ; rw [if_pos hi.1, fate_coll h hi.1, if_pos hi.2]
theorem enq_out {x : Qm} (h : x.Ok) {s : Sg} {now : Int} (he : enqE s = 0) (hi : ¬ InQ x s now) : enqQ x s now = collQ x now := by
  unfold enqQ; rw [if_pos he, fate_coll h he, if_neg fun e => hi ⟨he, e⟩]
theorem enq_bad {x : Qm} {s : Sg} {now : Int} (he : enqE s ≠ 0) : enqQ x s now = x := by
  unfold enqQ; rw [if_neg he]
theorem enq_els {x : Qm} {s : Sg} {now : Int} (he : enqE s = 0) {j : Nat} (hj : (j : Int) ≠ s.s) : (enqQ x s now).F j = (collQ x now).F j ∧ (enqQ x s now).T j = (collQ x now).T j := by
  have hs := (enqE_is he).1
  unfold enqQ
  rw [if_pos he]
  split
  · exact ⟨upF_ne _ _ (by omega), upF_ne _ _ (by omega)⟩
  · exact ⟨rfl, rfl⟩
theorem enq_c (x : Qm) (s : Sg) (now : Int) : (enqQ x s now).c = x.c := by
  unfold enqQ; split
  · split <;> rfl
  · rfl
theorem take_q {x : Qm} (h : x.Ok) {s : Sg} (he : enqE s = 0) (now : Int) : (takeF x s now).q = (x.F s.s.toNat).q ++ [segF x s now] := by
  have hs := (enqE_is he).1
  show (preF x s now).q ++ _ = _
  congr 1
  unfold preF
  split
  · split <;> rfl
  · rename_i t
    rw [h.no _ (by omega) (by simpa using t)]
/-- The segments of each flow. -/
theorem enq_q {x : Qm} (h : x.Ok) (s : Sg) (now : Int) {j : Nat} (hj : j < 8) : ((enqQ x s now).F j).q = if InQ x s now ∧ s.s = (j : Int) then (x.F j).q ++ [segF x s now] else (x.F j).q := by
  by_cases he : enqE s = 0
  · have hs := (enqE_is he).1
    by_cases hi : InQ x s now
    · by_cases e : s.s = (j : Int)
      · rw [if_pos ⟨hi, e⟩, enq_in h hi]
        have hn : s.s.toNat = j := by omega
        have e1 : (takeQ (collQ x now) s now).F j = takeF (collQ x now) s now := by show upF _ s.s.toNat _ j = _; rw [hn, upF_at]
        rw [e1, take_q (coll_ok h now) he, hn, coll_q h now hj]
        rfl
      · rw [if_neg fun a => e a.2, (enq_els he (fun a => e a.symm)).1, coll_q h now hj]
    · rw [if_neg fun a => hi a.1, enq_out h he hi, coll_q h now hj]
  · rw [if_neg fun a => he a.1.1, enq_bad he]
theorem enq_len {x : Qm} (h : x.Ok) (s : Sg) (now : Int) : lenQ (enqQ x s now) = lenQ x + if InQ x s now then 1 else 0 := by
  have e1 : lenQ x = sum8 fun i => (x.F i).q.length := lenQ_eq x
  have e2 : lenQ (enqQ x s now) = sum8 fun i => ((enqQ x s now).F i).q.length := lenQ_eq _
  by_cases hi : InQ x s now
  · rw [if_pos hi]
    have hs := (enqE_is hi.1).1
    obtain ⟨i, hii⟩ : ∃ i : Nat, s.s = (i : Int) := ⟨s.s.toNat, by omega⟩
    have hi8 : i < 8 := by omega
    have e3 : lenQ (enqQ x s now) = lenQ (takeQ (collQ x now) s now) := by rw [enq_in h hi]
    have e4 := lenQ_up (x := collQ x now) (y := takeQ (collQ x now) s now) hi8 (fun j hj => upF_ne _ _ (by omega))
    have e5 : ((takeQ (collQ x now) s now).F i).q = (x.F i).q ++ [segF x s now] := by
      have := enq_q h s now hi8
      rw [if_pos ⟨hi, hii⟩, enq_in h hi] at this
      exact this
    rw [e5, coll_q h now hi8, coll_len h] at e4
    simp only [List.length_append, List.length_cons, List.length_nil] at e4
    omega
  · rw [if_neg hi]
    by_cases he : enqE s = 0
    · rw [enq_out h he hi, coll_len h]; rfl
    · rw [enq_bad he]; rfl

/-! ### The two that take turns -/
/-- A flow that is in the lists keeps its credit, place and next time; the lists keep theirs. -/
theorem enq_live {x : Qm} {s : Sg} {now : Int} {j : Nat} (ht : x.T j = true) (hp : (x.F j).p ≠ 0) :
    ((enqQ x s now).F j).c = (x.F j).c ∧ ((enqQ x s now).F j).p = (x.F j).p ∧ ((enqQ x s now).F j).n = (x.F j).n ∧ (enqQ x s now).T j = true := by
  by_cases he : enqE s = 0
  · obtain ⟨c1, c2⟩ := coll_live (now := now) ht hp
    by_cases e : (j : Int) = s.s
    · have hn : s.s.toNat = j := by omega
      unfold enqQ
      rw [if_pos he]
      split
      · have e1 : (takeQ (collQ x now) s now).F j = takeF (collQ x now) s now := by show upF _ s.s.toNat _ j = _; rw [hn, upF_at]
        have e2 : (takeQ (collQ x now) s now).T j = true := by show upF _ s.s.toNat _ j = _; rw [hn, upF_at]
        have e3 : preF (collQ x now) s now = x.F j := by
          unfold preF
          rw [hn, if_pos c2, c1, if_neg fun a => hp a.1]
        have e4 : takeF (collQ x now) s now = { x.F j with q := (x.F j).q ++ [segF (collQ x now) s now] } := by
          unfold takeF
          rw [e3, if_neg hp, if_neg hp]
        rw [e1, e2, e4]
        exact ⟨rfl, rfl, rfl, rfl⟩
      · rw [c1, c2]; exact ⟨rfl, rfl, rfl, rfl⟩
    · obtain ⟨a, b⟩ := enq_els (x := x) (now := now) he e
      rw [a, b, c1, c2]; exact ⟨rfl, rfl, rfl, rfl⟩
  · rw [enq_bad he]; exact ⟨rfl, rfl, rfl, ht⟩
theorem enq_lists {x : Qm} {s : Sg} {now : Int} : (enqQ x s now).O = x.O ∧ ((enqQ x s now).N = x.N ∨ (enqQ x s now).N = x.N ++ [s.s]) := by
  unfold enqQ
  split
  · split
    · refine ⟨rfl, ?_⟩
      by_cases e : (if (collQ x now).T s.s.toNat = true then ((collQ x now).F s.s.toNat).p else 0) = 0
      · exact .inr (if_pos e)
      · exact .inl (if_neg e)
    · exact ⟨rfl, .inl rfl⟩
  · exact ⟨rfl, .inl rfl⟩
/-- One that is in the lists is not put there again. -/
theorem enq_kept {x : Qm} {s : Sg} {now : Int} (ht : x.T s.s.toNat = true) (hp : (x.F s.s.toNat).p ≠ 0) : (enqQ x s now).N = x.N := by
  obtain ⟨c1, c2⟩ := coll_live (now := now) ht hp
  unfold enqQ
  split
  · split
    · show (if (if (collQ x now).T s.s.toNat = true then ((collQ x now).F s.s.toNat).p else 0) = 0 then _ else _) = _
      rw [if_pos c2, c1, if_neg hp]; rfl
    · rfl
  · rfl
theorem Fair.enq {x : Qm} {C : Cf} {h0 h1 L now : Int} (h : Fair x C h0 h1 L) (s : Sg) : Fair (enqQ x s now) C h0 h1 L := by
  have n0 : (x.F 0).p ≠ 0 := by have := h.p0; omega
  have n1 : (x.F 1).p ≠ 0 := by have := h.p1; omega
  obtain ⟨a0, b0, _, d0⟩ := enq_live (s := s) (now := now) h.T0 n0
  obtain ⟨a1, b1, _, d1⟩ := enq_live (s := s) (now := now) h.T1 n1
  have et : two ((enqQ x s now).N ++ (enqQ x s now).O) = two (x.N ++ x.O) := by
    obtain ⟨eo, en⟩ := enq_lists (x := x) (s := s) (now := now)
    rw [eo]
    by_cases z : s.s ≠ 0 ∧ s.s ≠ 1
    · rcases en with en | en
      · rw [en]
      · rw [en, two_app, two_app, two_app, two_one z, List.append_nil]
    · have : (enqQ x s now).N = x.N := by
        by_cases z0 : s.s = 0
        · exact enq_kept (by rw [z0]; exact h.T0) (by rw [z0]; exact n0)
        · have z1 : s.s = 1 := Classical.byContradiction fun e => z ⟨z0, e⟩
          exact enq_kept (by rw [z1]; exact h.T1) (by rw [z1]; exact n1)
      rw [this]
  exact ⟨(enq_c x s now).trans h.c, d0, d1, by rw [b0]; exact h.p0, by rw [b1]; exact h.p1, by rw [a0, a1]; exact h.lo, by rw [a0, a1]; exact h.hi, by rw [a0, a1, et]; exact h.k⟩
theorem Fair.more {x : Qm} {C : Cf} {h0 h1 L L' : Int} (h : Fair x C h0 h1 L) (hl : L ≤ L') : Fair x C h0 h1 L' :=
  ⟨h.c, h.T0, h.T1, h.p0, h.p1, ⟨by have := h.lo; omega, by have := h.lo; omega⟩, h.hi, h.k⟩
end Go.Proofs.Ytnljjdfajmjdjaa
