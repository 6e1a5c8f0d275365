/-
  A region that draws its order, walked in one order, where what is said of the world grows: behind a call more may be said (S' for S), and all that follows keeps it. No program is spoken of. Conditions: those of each theorem.
-/
import Derived.Test.YtbimmadllfgmiaaGreatSched
namespace Go.Proofs.YtbimmadllfgmiaaGreat

section
variable {P : Program} {ops : List Oper} {Q : Exit → Act → World → Prop}
theorem wpAnyH_more {md : Region.Mode} {S S' : World → Prop} (hm : ∀ w, S' w → S w) : ∀ (fuel : Nat) (listed : Array Bool) (a : Act) (w : World), wpAnyH P md ops.toArray Q S' fuel listed a w → wpAnyH P md ops.toArray Q S fuel listed a w
  | 0, _, _, _, h => h
  | fuel + 1, _, _, _, h => ⟨h.1, fun i hi => wpOp_mono (fun a' w' h' => ⟨hm _ h'.1, wpAnyH_more hm fuel _ a' w' h'.2⟩) (h.2 i hi)⟩
/-- The walk in that order. -/
def wpSchG (P : Program) (ops : List Oper) (Q : Exit → Act → World → Prop) : List (Bool × Nat) → (World → Prop) → Act → World → Prop
  | [], _, a, w => Q .normal a w
  | (true, i) :: r, S, a, w => ∃ o v, nthOp ops i = some o ∧ (∀ c a w, Q (.panic c) (a.put o.dst v) w → Q (.panic c) a w) ∧ YieldsIf P ops.toArray S o v a ∧ wpSchG P ops Q r S (a.put o.dst v) w
  | (false, i) :: r, S, a, w => ∃ o, nthOp ops i = some o ∧ ∀ K' : Act → World → Prop, Shut (∀ a w, S w → (S w → ∃ S' : World → Prop, (∀ w, S' w → S w) ∧ S' w ∧ wpSchG P ops Q r S' a w) → K' a w) →
      if Region.wanted o (yielded ops.toArray a.tmps) = true then Oper.wp P o a w K' Q else K' (a.put o.dst undef) w
theorem wpAnyH_of_schG (hs : Region.noSelect ops.toArray = true) : ∀ (l : List (Bool × Nat)) (S : World → Prop) (fuel : Nat) (listed : Array Bool) (a : Act) (w : World), l.length ≤ fuel → schOK ops l listed = true → S w → wpSchG P ops Q l S a w → wpAnyH P .any ops.toArray Q S fuel listed a w
  | [], S, fuel, listed, a, w, _, hc, _, h => wpAnyH_done (by simpa [schOK] using hc) h fuel
  | (true, i) :: r, S, 0, listed, a, w, hf, _, _, _ => by simp at hf
  | (false, i) :: r, S, 0, listed, a, w, hf, _, _, _ => by simp at hf
  | (true, i) :: r, S, fuel + 1, listed, a, w, hf, hc, hS, h => by
    obtain ⟨o, v, ho, hQ, hy, h⟩ := h
    simp only [schOK, Bool.and_eq_true] at hc
    exact wpAnyH_take (by rw [nthOp_get, ho]) hs hc.1.2 hc.1.1 hQ hy hS (wpAnyH_of_schG hs r S fuel _ _ _ (by simp at hf; omega) hc.2 hS h)
  | (false, i) :: r, S, fuel + 1, listed, a, w, hf, hc, hS, h => by
    obtain ⟨o, ho, h⟩ := h
    simp only [schOK, Bool.and_eq_true, beq_iff_eq] at hc
    refine wpAnyH_ready hc.1 (by simp) (AllReadyH.cons (o := o) (by rw [nthOp_get, ho]) (fun K hK => h K (fun a w hS' hW => ?_)) AllReadyH.nil)
    exact hK.out a w hS' (fun hS' => by
      obtain ⟨S', hm, hs', hw⟩ := hW hS'
      exact wpAnyH_more hm _ _ _ _ (wpAnyH_of_schG hs r S' fuel _ _ _ (by simp at hf; omega) hc.2 hs' hw))
/-- The beginning. -/
theorem wp_region_grow (S : World → Prop) (l : List (Bool × Nat)) {id : Nat} {a : Act} {w : World} (hm : P.follows .mixedOrders = true) (hs : Region.noSelect ops.toArray = true) (hl : Nat.ble l.length ops.toArray.size = true)
    (hc : schOK ops l (Array.replicate ops.toArray.size false) = true) (hS : S w.drew) (h : wpSchG P ops Q l S a w.drew) : (Code.region id ops.toArray true).wp P Q a w :=
  wp_region_held_drew hm hS (fun hS => wpAnyH_of_schG hs l S _ _ _ _ (Nat.le_of_ble_eq_true hl) hc hS h)
variable {S : World → Prop}
theorem wpSchG_nil {a : Act} {w : World} (h : Q .normal a w) : wpSchG P ops Q [] S a w := h
theorem wpSchG_yes {i : Nat} {r : List (Bool × Nat)} {a : Act} {w : World} {o : Oper} {v : Value} (ho : nthOp ops i = some o) (hQ : ∀ c a w, Q (.panic c) (a.put o.dst v) w → Q (.panic c) a w)
    (hw : Region.wanted o (yielded ops.toArray a.tmps) = true) (hy : ∀ w, S w → (execOp a.eval o).run P w = .ok (.value v) w) (h : wpSchG P ops Q r S (a.put o.dst v) w) : wpSchG P ops Q ((true, i) :: r) S a w :=
  ⟨o, v, ho, hQ, .inl ⟨hw, hy⟩, h⟩
theorem wpSchG_call {i : Nat} {r : List (Bool × Nat)} {a : Act} {w : World} {o : Oper} (ho : nthOp ops i = some o)
    (hw : Region.wanted o (yielded ops.toArray a.tmps) = true) (h : ∀ K' : Act → World → Prop, Shut (∀ a w, S w → (S w → ∃ S' : World → Prop, (∀ w, S' w → S w) ∧ S' w ∧ wpSchG P ops Q r S' a w) → K' a w) → Oper.wp P o a w K' Q) : wpSchG P ops Q ((false, i) :: r) S a w :=
  ⟨o, ho, fun K hK => by rw [if_pos hw]; exact h K hK⟩
end
end Go.Proofs.YtbimmadllfgmiaaGreat
