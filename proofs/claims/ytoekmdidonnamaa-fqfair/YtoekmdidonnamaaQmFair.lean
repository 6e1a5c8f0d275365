/-
  The document's queue as plain numbers and lists: two flows that always have segments take turns; what they had differs by little. No program is spoken of. Conditions: none.
-/
import Derived.Test.YtoekmdidonnamaaQmStep
namespace Go.Proofs.Ytoekmdidonnamaa
open Go.RowKit
set_option maxRecDepth 100000

/-! ### Two sockets among the lists -/
def two (l : List Int) : List Int := l.filter fun z => z == 0 || z == 1
theorem two_app (l m : List Int) : two (l ++ m) = two l ++ two m := List.filter_append ..
theorem two_no {z : Int} (h : z ≠ 0 ∧ z ≠ 1) (l : List Int) : two (l.erase z) = two l := by
  induction l with
  | nil => rfl
  | cons a r ih =>
    by_cases e : a = z
    · subst e
      rw [List.erase_cons_head]
      have : ((a == 0) || (a == 1)) = false := by simp [h.1, h.2]
      unfold two
      rw [List.filter_cons, if_neg (by simp [h.1, h.2])]
    · rw [List.erase_cons_tail (by simpa using e)]
      unfold two at ih ⊢
      rw [List.filter_cons, List.filter_cons, ih]
theorem two_one {z : Int} (h : z ≠ 0 ∧ z ≠ 1) : two [z] = [] := by
  unfold two; rw [List.filter_cons, if_neg (by simp [h.1, h.2]), List.filter_nil]
theorem two_put {z : Int} (h : z ≠ 0 ∧ z ≠ 1) (l : List Int) (b : Bool) : two (if b = true then l.erase z ++ [z] else l.erase z) = two l := by
  split
  · rw [two_app, two_one h, two_no h, List.append_nil]
  · exact two_no h l
/-- The head of both lists, one of the two, goes behind. -/
theorem two_head {N O : List Int} {z : Int} (hb : headB N O = true) (hs : headS N O = z) (hz : z = 0 ∨ z = 1) (hn : (N ++ O).Nodup) :
    (two (N ++ O)).headD (-1) = z ∧ two (N.erase z ++ (O.erase z ++ [z])) = (two (N ++ O)).tail ++ [z] := by
  have hb1 : two [z] = [z] := by rcases hz with rfl | rfl <;> rfl
  have hp : ((z == 0) || (z == 1)) = true := by rcases hz with rfl | rfl <;> rfl
  cases N with
  | nil =>
    cases O with
    | nil => cases hb
    | cons u r =>
      have hs : u = z := hs
      subst hs
      rw [List.nil_append] at hn ⊢
      rw [List.erase_cons_head, List.erase_nil, List.nil_append, two_app, hb1]
      have e : two (u :: r) = u :: two r := by unfold two; rw [List.filter_cons, if_pos hp]
      rw [e]
      exact ⟨rfl, rfl⟩
  | cons u r =>
    have hs : u = z := hs
    subst hs
    have hu : u ∉ r ++ O := (List.nodup_cons.1 hn).1
    rw [List.mem_append, not_or] at hu
    rw [List.erase_cons_head, List.erase_of_not_mem hu.2, ← List.append_assoc, two_app (r ++ O) [u], hb1]
    have e : two (u :: r ++ O) = u :: two (r ++ O) := by
      show two (u :: (r ++ O)) = _
      unfold two; rw [List.filter_cons, if_pos hp]
    rw [e]
    exact ⟨rfl, rfl⟩

/-! ### What holds of the two -/
/-- The two are in the lists, have segments, wait for no time; what they had is what they were given less what they have. -/
structure Fair (x : Qm) (C : Cf) (h0 h1 L : Int) : Prop where
  c : x.c = C
  T0 : x.T 0 = true
  T1 : x.T 1 = true
  p0 : (x.F 0).p = 1 ∨ (x.F 0).p = 2
  p1 : (x.F 1).p = 1 ∨ (x.F 1).p = 2
  lo : -L < (x.F 0).c ∧ -L < (x.F 1).c
  hi : (x.F 0).c ≤ max C.f C.q ∧ (x.F 1).c ≤ max C.f C.q
  k : ∃ k0 k1 : Int, (x.F 0).c = C.f + k0 * C.q - h0 ∧ (x.F 1).c = C.f + k1 * C.q - h1 ∧ ((two (x.N ++ x.O) = [0, 1] ∧ k0 = k1) ∨ (two (x.N ++ x.O) = [1, 0] ∧ k0 = k1 + 1))
theorem Fair.near {x : Qm} {C : Cf} {h0 h1 L : Int} (h : Fair x C h0 h1 L) (hq : 0 ≤ C.q) : max h0 h1 - min h0 h1 ≤ C.q + max C.q C.f + L := by
  obtain ⟨k0, k1, e0, e1, hk⟩ := h.k
  have := h.lo; have := h.hi
  rcases hk with ⟨_, rfl⟩ | ⟨_, rfl⟩
  · omega
  · rw [Int.add_mul] at e0; omega
/-- They have segments whose time has come. -/
def Ready (x : Qm) (now : Int) : Prop := ((x.F 0).q ≠ [] ∧ timeF (x.F 0) ≤ now) ∧ (x.F 1).q ≠ [] ∧ timeF (x.F 1) ≤ now
theorem Fair.put {x : Qm} {C : Cf} {h0 h1 L : Int} (h : Fair x C h0 h1 L) {i : Nat} (hp : (x.F i).p = 3) (hi : i < 8) : Fair (putQ x i 2) C h0 h1 L := by
  have n0 : i ≠ 0 := fun e => by subst e; have := h.p0; omega
  have n1 : i ≠ 1 := fun e => by subst e; have := h.p1; omega
  have hz : (i : Int) ≠ 0 ∧ (i : Int) ≠ 1 := by omega
  have e0 : (putQ x i 2).F 0 = x.F 0 := putQ_ne _ _ (Ne.symm n0)
  have e1 : (putQ x i 2).F 1 = x.F 1 := putQ_ne _ _ (Ne.symm n1)
  have et : two ((putQ x i 2).N ++ (putQ x i 2).O) = two (x.N ++ x.O) := by
    show two (x.N.erase (i : Int) ++ (x.O.erase (i : Int) ++ [(i : Int)])) = _
    rw [two_app, two_app, two_no hz, two_no hz, two_one hz, List.append_nil, two_app]
  exact ⟨h.c, h.T0, h.T1, by rw [e0]; exact h.p0, by rw [e1]; exact h.p1, by rw [e0, e1]; exact h.lo, by rw [e0, e1]; exact h.hi, by rw [e0, e1, et]; exact h.k⟩
theorem Ready.put {x : Qm} {now : Int} (h : Ready x now) (i : Nat) (p : Int) : Ready (putQ x i p) now := by
  have a := put_alike x i p
  unfold Ready
  rw [a.q, a.q, a.time, a.time]
  exact h
theorem Fair.step {x y : Qm} {C : Cf} {h0 h1 L now : Int} (hx : x.Ok) (h : Fair x C h0 h1 L) (r : Ready x now) {i : Nat} {c p u : Int} (st : Stp x y now i c p u) : Fair y C h0 h1 L := by
  have hq := hx.hc.hq
  rw [h.c] at hq
  by_cases n : i = 0 ∨ i = 1
  · -- one of the two: it has no credit
    have hz : (i : Int) = 0 ∨ (i : Int) = 1 := by omega
    have hr : (x.F i).q ≠ [] ∧ timeF (x.F i) ≤ now := by
      rcases n with rfl | rfl
      · exact r.1
      · exact r.2
    have hw : (x.F i).c ≤ 0 ∧ c = (x.F i).c + C.q ∧ p = 2 := by
      rcases st.how with ⟨a, b, e, _⟩ | ⟨_, _, ⟨_, e, _⟩ | ⟨_, e, _⟩ | ⟨_, _, _, e⟩⟩
      · rw [h.c] at b; exact ⟨a, b, e⟩
      · exact absurd e hr.1
      · exact absurd e hr.1
      · omega
    obtain ⟨a, rfl, rfl⟩ := hw
    obtain ⟨hh, ht⟩ := two_head st.hb st.hs hz hx.ls.once
    have et : two (y.N ++ y.O) = (two (x.N ++ x.O)).tail ++ [(i : Int)] := by rw [st.N, st.O, if_pos rfl]; exact ht
    have hi := h.hi; have hlo := h.lo
    obtain ⟨k0, k1, e0, e1, hk⟩ := h.k
    rcases n with rfl | rfl
    · have E0 := st.at_
      have E1 := st.els 1 (by decide)
      refine ⟨st.hk.trans h.c, by rw [st.T]; exact h.T0, by rw [st.T]; exact h.T1, by rw [E0]; exact .inr rfl, by rw [E1]; exact h.p1, ⟨by rw [E0]; dsimp only; omega, by rw [E1]; exact hlo.2⟩, ⟨by rw [E0]; dsimp only; omega, by rw [E1]; exact hi.2⟩, k0 + 1, k1, by rw [E0]; dsimp only; rw [e0, Int.add_mul]; omega, by rw [E1]; exact e1, ?_⟩
      rcases hk with ⟨t, e⟩ | ⟨t, e⟩
      · rw [et, t]; exact .inr ⟨rfl, by rw [e]⟩
      · rw [t] at hh; cases hh
    · have E1 := st.at_
      have E0 := st.els 0 (by decide)
      refine ⟨st.hk.trans h.c, by rw [st.T]; exact h.T0, by rw [st.T]; exact h.T1, by rw [E0]; exact h.p0, by rw [E1]; exact .inr rfl, ⟨by rw [E0]; exact hlo.1, by rw [E1]; dsimp only; omega⟩, ⟨by rw [E0]; exact hi.1, by rw [E1]; dsimp only; omega⟩, k0, k1 + 1, by rw [E0]; exact e0, by rw [E1]; dsimp only; rw [e1, Int.add_mul]; omega, ?_⟩
      rcases hk with ⟨t, e⟩ | ⟨t, e⟩
      · rw [t] at hh; cases hh
      · rw [et, t]; exact .inl ⟨rfl, e⟩
  · have hz : (i : Int) ≠ 0 ∧ (i : Int) ≠ 1 := by omega
    have E0 := st.els 0 (by omega)
    have E1 := st.els 1 (by omega)
    have et : two (y.N ++ y.O) = two (x.N ++ x.O) := by
      rw [st.N, st.O, two_app, two_app, two_no hz]
      have := two_put hz x.O (decide (p = 2))
      simp only [decide_eq_true_eq] at this
      rw [this]
    exact ⟨st.hk.trans h.c, by rw [st.T]; exact h.T0, by rw [st.T]; exact h.T1, by rw [E0]; exact h.p0, by rw [E1]; exact h.p1, by rw [E0, E1]; exact h.lo, by rw [E0, E1]; exact h.hi, by rw [E0, E1, et]; exact h.k⟩
theorem Ready.step {x y : Qm} {now : Int} (r : Ready x now) {i : Nat} {c p u : Int} (st : Stp x y now i c p u) : Ready y now := by
  have hE : ∀ j : Nat, (y.F j).q = (x.F j).q ∧ timeF (y.F j) = timeF (x.F j) := fun j => by
    by_cases e : j = i
    · subst e; rw [st.at_]; exact ⟨rfl, rfl⟩
    · rw [st.els j e]; exact ⟨rfl, rfl⟩
  unfold Ready
  rw [(hE 0).1, (hE 0).2, (hE 1).1, (hE 1).2]
  exact r
/-- What departs counts for its flow. -/
def hadQ (h : Int) (i : Nat) (s : Sg) : Int := if s.s = (i : Int) then h + s.l else h
theorem Fair.last {d : Int → Int → Int} {x y : Qm} {C : Cf} {h0 h1 L now : Int} (h : Fair x C h0 h1 L) {i : Nat} {s : Sg} {r : List Sg} (st : Last d x y now i s r) (hl : i = 0 ∨ i = 1 → s.l ≤ L) :
    Fair y C (hadQ h0 0 s) (hadQ h1 1 s) L := by
  have hso := st.hok.hq s (by rw [st.hq]; exact List.mem_cons_self ..)
  have hss := hso.hs
  have hsl := hso.hl
  have hc := st.hc
  have hi := h.hi; have hlo := h.lo
  obtain ⟨k0, k1, e0, e1, hk⟩ := h.k
  have et : two (y.N ++ y.O) = two (x.N ++ x.O) := by rw [st.N, st.O]
  by_cases n0 : i = 0
  · subst n0
    have E0 := st.at_
    have E1 := st.els 1 (by decide)
    have a0 : hadQ h0 0 s = h0 + s.l := if_pos hss
    have a1 : hadQ h1 1 s = h1 := if_neg (by rw [hss]; decide)
    have := hl (.inl rfl)
    rw [a0, a1]
    exact ⟨st.hk.trans h.c, by rw [st.T]; exact h.T0, by rw [st.T]; exact h.T1, by rw [E0]; exact h.p0, by rw [E1]; exact h.p1, ⟨by rw [E0]; dsimp only; omega, by rw [E1]; exact hlo.2⟩, ⟨by rw [E0]; dsimp only; omega, by rw [E1]; exact hi.2⟩, k0, k1, by rw [E0]; dsimp only; rw [e0]; omega, by rw [E1]; exact e1, by rw [et]; exact hk⟩
  · by_cases n1 : i = 1
    · subst n1
      have E1 := st.at_
      have E0 := st.els 0 (by decide)
      have a0 : hadQ h0 0 s = h0 := if_neg (by rw [hss]; decide)
      have a1 : hadQ h1 1 s = h1 + s.l := if_pos hss
      have := hl (.inr rfl)
      rw [a0, a1]
      exact ⟨st.hk.trans h.c, by rw [st.T]; exact h.T0, by rw [st.T]; exact h.T1, by rw [E0]; exact h.p0, by rw [E1]; exact h.p1, ⟨by rw [E0]; exact hlo.1, by rw [E1]; dsimp only; omega⟩, ⟨by rw [E0]; exact hi.1, by rw [E1]; dsimp only; omega⟩, k0, k1, by rw [E0]; exact e0, by rw [E1]; dsimp only; rw [e1]; omega, by rw [et]; exact hk⟩
    · have E0 := st.els 0 (by omega)
      have E1 := st.els 1 (by omega)
      have a0 : hadQ h0 0 s = h0 := if_neg (by rw [hss]; omega)
      have a1 : hadQ h1 1 s = h1 := if_neg (by rw [hss]; omega)
      rw [a0, a1]
      exact ⟨st.hk.trans h.c, by rw [st.T]; exact h.T0, by rw [st.T]; exact h.T1, by rw [E0]; exact h.p0, by rw [E1]; exact h.p1, by rw [E0, E1]; exact hlo, by rw [E0, E1]; exact hi, k0, k1, by rw [E0]; exact e0, by rw [E1]; exact e1, by rw [et]; exact hk⟩
/-- A pull of such a queue: a segment departs, and it is as fair. -/
theorem Fair.deq {d : Int → Int → Int} {x : Qm} {C : Cf} {h0 h1 L now : Int} (hx : x.Ok) (hn : U64 now) (hd : ∀ l z, 0 ≤ d l z) (h : Fair x C h0 h1 L) (r : Ready x now)
    (hl : ∀ s, s ∈ (x.F 0).q ∨ s ∈ (x.F 1).q → s.l ≤ L) : ∃ s, (deqQ d x now).2 = some s ∧ Fair (deqQ d x now).1 C (hadQ h0 0 s) (hadQ h1 1 s) L := by
  refine deq_holds (I := fun y => Fair y C h0 h1 L ∧ Ready y now ∧ ∀ s, s ∈ (y.F 0).q ∨ s ∈ (y.F 1).q → s.l ≤ L)
    (R := fun y o => ∃ s, o = some s ∧ Fair y C (hadQ h0 0 s) (hadQ h1 1 s) L) hn hd (fun y i _ hI hi _ hp _ => ?_) (fun y z i c p u hy hI st => ?_) (fun y z i s q _ hI st => ?_) (fun y hy hI hb => ?_) hx ⟨h, r, hl⟩
  · have a := put_alike y i 2
    exact ⟨hI.1.put hp hi, hI.2.1.put i 2, by rw [a.q, a.q]; exact hI.2.2⟩
  · have hE : ∀ j : Nat, (z.F j).q = (y.F j).q := fun j => by
      by_cases e : j = i
      · subst e; rw [st.at_]
      · rw [st.els j e]
    exact ⟨hI.1.step hy hI.2.1 st, hI.2.1.step st, by rw [hE, hE]; exact hI.2.2⟩
  · refine ⟨s, rfl, hI.1.last st fun e => hI.2.2 s ?_⟩
    have hm : s ∈ (y.F i).q := by rw [st.hq]; exact List.mem_cons_self ..
    rcases e with rfl | rfl
    · exact .inl hm
    · exact .inr hm
  · exfalso
    have hnil : y.N = [] ∧ y.O = [] := by
      unfold headB at hb
      simpa using hb
    obtain ⟨k0, k1, _, _, hk⟩ := hI.1.k
    rw [hnil.1, hnil.2] at hk
    rcases hk with ⟨t, _⟩ | ⟨t, _⟩ <;> cases t
end Go.Proofs.Ytoekmdidonnamaa
