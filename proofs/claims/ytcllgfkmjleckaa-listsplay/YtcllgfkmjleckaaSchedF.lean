/-
  A region that draws its order, walked in parts, some operations that touch no world taken ahead of all. No program is spoken of. Conditions: those of each theorem.
-/
import Derived.Test.YtcllgfkmjleckaaSchedP
namespace Go.Proofs.Ytcllgfkmjleckaa

section
variable {P : Program} {ops : List Oper} {Q : Exit → Act → World → Prop}

/-- Those of a list, which touch no world, come up first; then R. -/
def wpFirst (P : Program) (ops : List Oper) (Q : Exit → Act → World → Prop) (R : Act → World → Prop) : List Nat → Act → World → Prop
  | [], a, w => R a w
  | i :: r, a, w => ∃ o v, nthOp ops i = some o ∧ (∀ c a w, Q (.panic c) (a.put o.dst v) w → Q (.panic c) a w) ∧ Yields P ops.toArray o v a ∧ wpFirst P ops Q R r (a.put o.dst v) w
def firstOK (ops : List Oper) : List Nat → Array Bool → Bool
  | [], _ => true
  | i :: r, L => (Region.ready .any ops.toArray L).contains i && Region.free .any ops.toArray L i && firstOK ops r (L.setIfInBounds i true)
def firstL : List Nat → Array Bool → Array Bool
  | [], L => L
  | i :: r, L => firstL r (L.setIfInBounds i true)

theorem wpAny_of_first (hs : Region.noSelect ops.toArray = true) (ps : List (List (Bool × Nat) × Nat)) (l : List (Bool × Nat)) : ∀ (fs : List Nat) (L : Array Bool) (a : Act) (w : World), firstOK ops fs L = true → partsOK ops ps l (firstL fs L) = true → Down ops L →
    wpFirst P ops Q (wpParts P ops Q ps l) fs a w → wpAny P .any ops.toArray Q (fs.length + partsLen ps l) L a w
  | [], L, a, w, _, hc, hd, h => by
    rw [List.length_nil, Nat.zero_add]
    exact wpAny_of_parts hs ps l L a w hc hd h
  | i :: r, L, a, w, hf, hc, hd, h => by
    obtain ⟨o, v, ho, hQ, hy, h⟩ := h
    simp only [firstOK, Bool.and_eq_true] at hf
    have e : (i :: r).length + partsLen ps l = (r.length + partsLen ps l) + 1 := by rw [List.length_cons]; omega
    rw [e]
    exact wpAny_take (by rw [nthOp_get, ho]) hs hf.1.2 hf.1.1 hQ hy (wpAny_of_first hs ps l r _ _ _ hf.2 hc (hd.set (by simpa using hf.1.1)) h)

/-- The beginning. -/
theorem wp_region_first (fs : List Nat) (ps : List (List (Bool × Nat) × Nat)) (l : List (Bool × Nat)) {id : Nat} {a : Act} {w : World} (hm : P.follows .mixedOrders = true) (hs : Region.noSelect ops.toArray = true) (hl : Nat.beq (fs.length + partsLen ps l) ops.toArray.size = true)
    (hf : firstOK ops fs (Array.replicate ops.toArray.size false) = true) (hc : partsOK ops ps l (firstL fs (Array.replicate ops.toArray.size false)) = true) (h : wpFirst P ops Q (wpParts P ops Q ps l) fs a w.drew) : (Code.region id ops.toArray true).wp P Q a w :=
  wp_region_any hm (by
    have := wpAny_of_first hs ps l fs _ a w.drew hf hc (Down.start _) h
    rw [Nat.eq_of_beq_eq_true hl] at this
    exact this)
theorem wpFirst_nil {R : Act → World → Prop} {a : Act} {w : World} (h : R a w) : wpFirst P ops Q R [] a w := h
theorem wpFirst_yes {R : Act → World → Prop} {i : Nat} {r : List Nat} {a : Act} {w : World} {o : Oper} {v : Value} (ho : nthOp ops i = some o) (hQ : ∀ c a w, Q (.panic c) (a.put o.dst v) w → Q (.panic c) a w)
    (hw : Region.wanted o (yielded ops.toArray a.tmps) = true) (hy : ∀ w, (execOp a.eval o).run P w = .ok (.value v) w) (h : wpFirst P ops Q R r (a.put o.dst v) w) : wpFirst P ops Q R (i :: r) a w :=
  ⟨o, v, ho, hQ, .inl ⟨hw, hy⟩, h⟩
end
end Go.Proofs.Ytcllgfkmjleckaa
