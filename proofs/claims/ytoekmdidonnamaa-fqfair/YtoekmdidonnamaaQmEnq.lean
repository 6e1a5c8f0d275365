/-
  The document's queue as plain numbers and lists: what a segment that is put in leaves of each flow; the two that take turns stay so. No program is spoken of. Conditions: none.
-/
import Derived.Test.YtoekmdidonnamaaQmFair
namespace Go.Proofs.Ytoekmdidonnamaa
open Go.RowKit
set_option maxRecDepth 100000

/-! ### What is collected has no segment -/
theorem coll_live {x : Qm} {now : Int} {j : Nat} (ht : x.T j = true) (hp : (x.F j).p ≠ 0) : (collQ x now).F j = x.F j ∧ (collQ x now).T j = true := by
  have hd : deadF x now j = false := by unfold deadF; simp [hp]
  simp [collQ, hd, ht]
theorem dead_is {x : Qm} {now : Int} {j : Nat} (h : deadF x now j = true) : x.T j = true ∧ (x.F j).p = 0 ∧ addS (x.F j).u 3000000000 ≤ now := by
  unfold deadF at h
  simp at h
  exact ⟨h.1.1, h.1.2, h.2⟩
theorem coll_q {x : Qm} (h : x.Ok) (now : Int) {j : Nat} (hj : j < 8) : ((collQ x now).F j).q = (x.F j).q := by
  cases e : deadF x now j with
  | false => simp [collQ, e]
  | true =>
    obtain ⟨ht, hp, _⟩ := dead_is e
    rw [(h.is j hj ht).em hp]
    simp [collQ, e, Fl.zero]
theorem coll_len {x : Qm} (h : x.Ok) (now : Int) : lenQ (collQ x now) = lenQ x := lenQ_same fun i hi => by rw [coll_q h now hi]
theorem fate_coll {x : Qm} (h : x.Ok) {s : Sg} (he : enqE s = 0) (now : Int) : fateQ (collQ x now) s now = fateQ x s now := by
  have hs := (enqE_is he).1
  unfold fateQ
  rw [coll_len h, coll_q h now (by omega)]
  rfl

/-! ### What is put in -/
/-- Is it accepted? -/
def InQ (x : Qm) (s : Sg) (now : Int) : Prop := enqE s = 0 ∧ fateQ x s now = 0
instance (x : Qm) (s : Sg) (now : Int) : Decidable (InQ x s now) := by unfold InQ; infer_instance
theorem enq_v {x : Qm} (h : x.Ok) {s : Sg} (he : enqE s = 0) (now : Int) : enqV x s now = fateQ x s now := by
  unfold enqV; rw [if_pos he, fate_coll h he]
theorem enq_in {x : Qm} (h : x.Ok) {s : Sg} {now : Int} (hi : InQ x s now) : enqQ x s now = takeQ (collQ x now) s now := by
  unfold enqQ; rw [if_pos hi.1, fate_coll h hi.1, if_pos hi.2]
theorem enq_out {x : Qm} (h : x.Ok) {s : Sg} {now : Int} (he : enqE s = 0) (hi : ¬ InQ x s now) : enqQ x s now = collQ x now := by
  unfold enqQ; rw [if_pos he, fate_coll h he, if_neg fun e => hi ⟨he, e⟩]
theorem enq_bad {x : Qm} {s : Sg} {now : Int} (he : enqE s ≠ 0) : enqQ x s now = x := by
  unfold enqQ; rw [if_neg he]
theorem enq_els {x : Qm} {s : Sg} {now : Int} (he : enqE s = 0) {j : Nat} (hj : (j : Int) ≠ s.s) : (enqQ x s now).F j = (collQ x now).F j ∧ (enqQ x s now).T j = (collQ x now).T j := by
  have hs := (enqE_is he).1
  unfold enqQ
  rw [if_pos he]
  split
  · exact ⟨upF_ne _ _ (by omega), upF_ne _ _ (by omega)⟩
  · exact ⟨rfl, rfl⟩
theorem enq_c (x : Qm) (s : Sg) (now : Int) : (enqQ x s now).c = x.c := by
  unfold enqQ; split
  · split <;> rfl
  · rfl
theorem take_q {x : Qm} (h : x.Ok) {s : Sg} (he : enqE s = 0) (now : Int) : (takeF x s now).q = (x.F s.s.toNat).q ++ [segF x s now] := by
  have hs := (enqE_is he).1
  show (preF x s now).q ++ _ = _
  congr 1
  unfold preF
  split
  · split <;> rfl
  · rename_i t
    rw [h.no _ (by omega) (by simpa using t)]
/-- The segments of each flow. -/
theorem enq_q {x : Qm} (h : x.Ok) (s : Sg) (now : Int) {j : Nat} (hj : j < 8) : ((enqQ x s now).F j).q = if InQ x s now ∧ s.s = (j : Int) then (x.F j).q ++ [segF x s now] else (x.F j).q := by
  by_cases he : enqE s = 0
  · have hs := (enqE_is he).1
    by_cases hi : InQ x s now
    · by_cases e : s.s = (j : Int)
      · rw [if_pos ⟨hi, e⟩, enq_in h hi]
        have hn : s.s.toNat = j := by omega
        have e1 : (takeQ (collQ x now) s now).F j = takeF (collQ x now) s now := by show upF _ s.s.toNat _ j = _; rw [hn, upF_at]
        rw [e1, take_q (coll_ok h now) he, hn, coll_q h now hj]
        rfl
      · rw [if_neg fun a => e a.2, (enq_els he (fun a => e a.symm)).1, coll_q h now hj]
    · rw [if_neg fun a => hi a.1, enq_out h he hi, coll_q h now hj]
  · rw [if_neg fun a => he a.1.1, enq_bad he]
theorem enq_len {x : Qm} (h : x.Ok) (s : Sg) (now : Int) : lenQ (enqQ x s now) = lenQ x + if InQ x s now then 1 else 0 := by
  have e1 : lenQ x = sum8 fun i => (x.F i).q.length := lenQ_eq x
  have e2 : lenQ (enqQ x s now) = sum8 fun i => ((enqQ x s now).F i).q.length := lenQ_eq _
  by_cases hi : InQ x s now
  · rw [if_pos hi]
    have hs := (enqE_is hi.1).1
    obtain ⟨i, hii⟩ : ∃ i : Nat, s.s = (i : Int) := ⟨s.s.toNat, by omega⟩
    have hi8 : i < 8 := by omega
    have e3 : lenQ (enqQ x s now) = lenQ (takeQ (collQ x now) s now) := by rw [enq_in h hi]
    have e4 := lenQ_up (x := collQ x now) (y := takeQ (collQ x now) s now) hi8 (fun j hj => upF_ne _ _ (by omega))
    have e5 : ((takeQ (collQ x now) s now).F i).q = (x.F i).q ++ [segF x s now] := by
      have := enq_q h s now hi8
      rw [if_pos ⟨hi, hii⟩, enq_in h hi] at this
      exact this
    rw [e5, coll_q h now hi8, coll_len h] at e4
    simp only [List.length_append, List.length_cons, List.length_nil] at e4
    omega
  · rw [if_neg hi]
    by_cases he : enqE s = 0
    · rw [enq_out h he hi, coll_len h]; rfl
    · rw [enq_bad he]; rfl

/-! ### The two that take turns -/
/-- A flow that is in the lists keeps its credit, place and next time; the lists keep theirs. -/
theorem enq_live {x : Qm} {s : Sg} {now : Int} {j : Nat} (ht : x.T j = true) (hp : (x.F j).p ≠ 0) :
    ((enqQ x s now).F j).c = (x.F j).c ∧ ((enqQ x s now).F j).p = (x.F j).p ∧ ((enqQ x s now).F j).n = (x.F j).n ∧ (enqQ x s now).T j = true := by
  by_cases he : enqE s = 0
  · obtain ⟨c1, c2⟩ := coll_live (now := now) ht hp
    by_cases e : (j : Int) = s.s
    · have hn : s.s.toNat = j := by omega
      unfold enqQ
      rw [if_pos he]
      split
      · have e1 : (takeQ (collQ x now) s now).F j = takeF (collQ x now) s now := by show upF _ s.s.toNat _ j = _; rw [hn, upF_at]
        have e2 : (takeQ (collQ x now) s now).T j = true := by show upF _ s.s.toNat _ j = _; rw [hn, upF_at]
        have e3 : preF (collQ x now) s now = x.F j := by
          unfold preF
          rw [hn, if_pos c2, c1, if_neg fun a => hp a.1]
        have e4 : takeF (collQ x now) s now = { x.F j with q := (x.F j).q ++ [segF (collQ x now) s now] } := by
          unfold takeF
          rw [e3, if_neg hp, if_neg hp]
        rw [e1, e2, e4]
        exact ⟨rfl, rfl, rfl, rfl⟩
      · rw [c1, c2]; exact ⟨rfl, rfl, rfl, rfl⟩
    · obtain ⟨a, b⟩ := enq_els (x := x) (now := now) he e
      rw [a, b, c1, c2]; exact ⟨rfl, rfl, rfl, rfl⟩
  · rw [enq_bad he]; exact ⟨rfl, rfl, rfl, ht⟩
theorem enq_lists {x : Qm} {s : Sg} {now : Int} : (enqQ x s now).O = x.O ∧ ((enqQ x s now).N = x.N ∨ (enqQ x s now).N = x.N ++ [s.s]) := by
  unfold enqQ
  split
  · split
    · refine ⟨rfl, ?_⟩
      by_cases e : (if (collQ x now).T s.s.toNat = true then ((collQ x now).F s.s.toNat).p else 0) = 0
      · exact .inr (if_pos e)
      · exact .inl (if_neg e)
    · exact ⟨rfl, .inl rfl⟩
  · exact ⟨rfl, .inl rfl⟩
/-- One that is in the lists is not put there again. -/
theorem enq_kept {x : Qm} {s : Sg} {now : Int} (ht : x.T s.s.toNat = true) (hp : (x.F s.s.toNat).p ≠ 0) : (enqQ x s now).N = x.N := by
  obtain ⟨c1, c2⟩ := coll_live (now := now) ht hp
  unfold enqQ
  split
  · split
    · show (if (if (collQ x now).T s.s.toNat = true then ((collQ x now).F s.s.toNat).p else 0) = 0 then _ else _) = _
      rw [if_pos c2, c1, if_neg hp]; rfl
    · rfl
  · rfl
theorem Fair.enq {x : Qm} {C : Cf} {h0 h1 L now : Int} (h : Fair x C h0 h1 L) (s : Sg) : Fair (enqQ x s now) C h0 h1 L := by
  have n0 : (x.F 0).p ≠ 0 := by have := h.p0; omega
  have n1 : (x.F 1).p ≠ 0 := by have := h.p1; omega
  obtain ⟨a0, b0, _, d0⟩ := enq_live (s := s) (now := now) h.T0 n0
  obtain ⟨a1, b1, _, d1⟩ := enq_live (s := s) (now := now) h.T1 n1
  have et : two ((enqQ x s now).N ++ (enqQ x s now).O) = two (x.N ++ x.O) := by
    obtain ⟨eo, en⟩ := enq_lists (x := x) (s := s) (now := now)
    rw [eo]
    by_cases z : s.s ≠ 0 ∧ s.s ≠ 1
    · rcases en with en | en
      · rw [en]
      · rw [en, two_app, two_app, two_app, two_one z, List.append_nil]
    · have : (enqQ x s now).N = x.N := by
        by_cases z0 : s.s = 0
        · exact enq_kept (by rw [z0]; exact h.T0) (by rw [z0]; exact n0)
        · have z1 : s.s = 1 := Classical.byContradiction fun e => z ⟨z0, e⟩
          exact enq_kept (by rw [z1]; exact h.T1) (by rw [z1]; exact n1)
      rw [this]
  exact ⟨(enq_c x s now).trans h.c, d0, d1, by rw [b0]; exact h.p0, by rw [b1]; exact h.p1, by rw [a0, a1]; exact h.lo, by rw [a0, a1]; exact h.hi, by rw [a0, a1, et]; exact h.k⟩
theorem Fair.more {x : Qm} {C : Cf} {h0 h1 L L' : Int} (h : Fair x C h0 h1 L) (hl : L ≤ L') : Fair x C h0 h1 L' :=
  ⟨h.c, h.T0, h.T1, h.p0, h.p1, ⟨by have := h.lo; omega, by have := h.lo; omega⟩, h.hi, h.k⟩
end Go.Proofs.Ytoekmdidonnamaa
