/-
  A region that draws its order, walked in one order: what yields the same in every world that meets S is taken as soon as it may come up; a call, a store, a new block where nothing else may come up. No program is spoken of. Conditions: those of each theorem.
-/
import Derived.Deep.RegionHeld3
import Derived.KernelRfl
namespace Go.Proofs.Ytbeicnabafapnaa

def nthOp : List Oper → Nat → Option Oper
  | [], _ => none
  | o :: _, 0 => some o
  | _ :: r, n + 1 => nthOp r n
theorem nthOp_get : ∀ (l : List Oper) (i : Nat), l.toArray[i]? = nthOp l i
  | [], i => by simp [nthOp]
  | o :: r, 0 => by simp [nthOp]
  | o :: r, n + 1 => by have := nthOp_get r n; simp at this; simp [nthOp, this]

/-- Is that order one in which each that is taken first may be, and each other one comes up alone? -/
def schOK (ops : List Oper) : List (Bool × Nat) → Array Bool → Bool
  | [], listed => (Region.ready .any ops.toArray listed).isEmpty
  | (true, i) :: r, listed => (Region.ready .any ops.toArray listed).contains i && Region.free .any ops.toArray listed i && schOK ops r (listed.setIfInBounds i true)
  | (false, i) :: r, listed => (Region.ready .any ops.toArray listed == [i]) && schOK ops r (listed.setIfInBounds i true)

section
variable {P : Program} {ops : List Oper} {Q : Exit → Act → World → Prop} {S : World → Prop}

/-- The walk in that order. -/
def wpSch (P : Program) (ops : List Oper) (Q : Exit → Act → World → Prop) (S : World → Prop) : List (Bool × Nat) → Act → World → Prop
  | [], a, w => Q .normal a w
  | (true, i) :: r, a, w => ∃ o v, nthOp ops i = some o ∧ (∀ c a w, Q (.panic c) (a.put o.dst v) w → Q (.panic c) a w) ∧ YieldsIf P ops.toArray S o v a ∧ wpSch P ops Q S r (a.put o.dst v) w
  | (false, i) :: r, a, w => ∃ o, nthOp ops i = some o ∧ ∀ K' : Act → World → Prop, Shut (∀ a w, S w → (S w → wpSch P ops Q S r a w) → K' a w) →
      if Region.wanted o (yielded ops.toArray a.tmps) = true then Oper.wp P o a w K' Q else K' (a.put o.dst undef) w

theorem wpAnyH_of_sch (hs : Region.noSelect ops.toArray = true) : ∀ (l : List (Bool × Nat)) (fuel : Nat) (listed : Array Bool) (a : Act) (w : World), l.length ≤ fuel → schOK ops l listed = true → S w → wpSch P ops Q S l a w → wpAnyH P .any ops.toArray Q S fuel listed a w
  | [], fuel, listed, a, w, _, hc, _, h => wpAnyH_done (by simpa [schOK] using hc) h fuel
  | (true, i) :: r, 0, listed, a, w, hf, _, _, _ => by simp at hf
  | (false, i) :: r, 0, listed, a, w, hf, _, _, _ => by simp at hf
  | (true, i) :: r, fuel + 1, listed, a, w, hf, hc, hS, h => by
    obtain ⟨o, v, ho, hQ, hy, h⟩ := h
    simp only [schOK, Bool.and_eq_true] at hc
    exact wpAnyH_take (by rw [nthOp_get, ho]) hs hc.1.2 hc.1.1 hQ hy hS (wpAnyH_of_sch hs r fuel _ _ _ (by simp at hf; omega) hc.2 hS h)
  | (false, i) :: r, fuel + 1, listed, a, w, hf, hc, hS, h => by
    obtain ⟨o, ho, h⟩ := h
    simp only [schOK, Bool.and_eq_true, beq_iff_eq] at hc
    refine wpAnyH_ready hc.1 (by simp) (AllReadyH.cons (o := o) (by rw [nthOp_get, ho]) (fun K hK => h K (fun a w hS' hW => ?_)) AllReadyH.nil)
    exact hK.out a w hS' (fun hS' => wpAnyH_of_sch hs r fuel _ _ _ (by simp at hf; omega) hc.2 hS' (hW hS'))

/-- The beginning. -/
theorem wp_region_sch (S : World → Prop) (l : List (Bool × Nat)) {id : Nat} {a : Act} {w : World} (hm : P.follows .mixedOrders = true) (hs : Region.noSelect ops.toArray = true) (hl : Nat.ble l.length ops.toArray.size = true)
    (hc : schOK ops l (Array.replicate ops.toArray.size false) = true) (hS : S w.drew) (h : wpSch P ops Q S l a w.drew) : (Code.region id ops.toArray true).wp P Q a w :=
  wp_region_held_drew hm hS (fun hS => wpAnyH_of_sch hs l _ _ _ _ (Nat.le_of_ble_eq_true hl) hc hS h)

theorem wpSch_nil {a : Act} {w : World} (h : Q .normal a w) : wpSch P ops Q S [] a w := h
/-- One that is wanted, and yields. -/
theorem wpSch_yes {i : Nat} {r : List (Bool × Nat)} {a : Act} {w : World} {o : Oper} {v : Value} (ho : nthOp ops i = some o) (hQ : ∀ c a w, Q (.panic c) (a.put o.dst v) w → Q (.panic c) a w)
    (hw : Region.wanted o (yielded ops.toArray a.tmps) = true) (hy : ∀ w, S w → (execOp a.eval o).run P w = .ok (.value v) w) (h : wpSch P ops Q S r (a.put o.dst v) w) : wpSch P ops Q S ((true, i) :: r) a w :=
  ⟨o, v, ho, hQ, .inl ⟨hw, hy⟩, h⟩
/-- One that is not wanted. -/
theorem wpSch_no {i : Nat} {r : List (Bool × Nat)} {a : Act} {w : World} {o : Oper} (ho : nthOp ops i = some o) (hQ : ∀ c a w, Q (.panic c) (a.put o.dst undef) w → Q (.panic c) a w)
    (hw : Region.wanted o (yielded ops.toArray a.tmps) = false) (h : wpSch P ops Q S r (a.put o.dst undef) w) : wpSch P ops Q S ((true, i) :: r) a w :=
  ⟨o, undef, ho, hQ, .inr ⟨hw, rfl⟩, h⟩
/-- One that is not wanted, a call. -/
theorem wpSch_not {i : Nat} {r : List (Bool × Nat)} {a : Act} {w : World} {o : Oper} (ho : nthOp ops i = some o)
    (hw : Region.wanted o (yielded ops.toArray a.tmps) = false) (hS : S w) (h : wpSch P ops Q S r (a.put o.dst undef) w) : wpSch P ops Q S ((false, i) :: r) a w :=
  ⟨o, ho, fun K hK => by rw [if_neg (by rw [hw]; simp)]; exact hK.out _ _ hS (fun _ => h)⟩
/-- A call that is wanted. -/
theorem wpSch_call {i : Nat} {r : List (Bool × Nat)} {a : Act} {w : World} {o : Oper} (ho : nthOp ops i = some o)
    (hw : Region.wanted o (yielded ops.toArray a.tmps) = true) (h : ∀ K' : Act → World → Prop, Shut (∀ a w, S w → (S w → wpSch P ops Q S r a w) → K' a w) → Oper.wp P o a w K' Q) : wpSch P ops Q S ((false, i) :: r) a w :=
  ⟨o, ho, fun K hK => by rw [if_pos hw]; exact h K hK⟩
end

/-! ### where two may come up -/
/-- An order: 'yes': it is taken as soon as it may be; 'one': it comes up alone; 'two': one of two comes up. -/
inductive Sch where
  | nil
  | yes (i : Nat) (r : Sch)
  | one (i : Nat) (r : Sch)
  | two (i : Nat) (r : Sch) (j : Nat) (s : Sch)
def Sch.len : Sch → Nat
  | .nil => 0
  | .yes _ r => r.len + 1
  | .one _ r => r.len + 1
  | .two _ r _ s => max r.len s.len + 1
def schOK2 (ops : List Oper) : Sch → Array Bool → Bool
  | .nil, listed => (Region.ready .any ops.toArray listed).isEmpty
  | .yes i r, listed => (Region.ready .any ops.toArray listed).contains i && Region.free .any ops.toArray listed i && schOK2 ops r (listed.setIfInBounds i true)
  | .one i r, listed => (Region.ready .any ops.toArray listed == [i]) && schOK2 ops r (listed.setIfInBounds i true)
  | .two i r j s, listed => (Region.ready .any ops.toArray listed == [i, j]) && schOK2 ops r (listed.setIfInBounds i true) && schOK2 ops s (listed.setIfInBounds j true)
section
variable {P : Program} {ops : List Oper} {Q : Exit → Act → World → Prop} {S : World → Prop}
def wpOne (P : Program) (ops : List Oper) (Q : Exit → Act → World → Prop) (S : World → Prop) (i : Nat) (R : Act → World → Prop) (a : Act) (w : World) : Prop :=
  ∃ o, nthOp ops i = some o ∧ ∀ K' : Act → World → Prop, Shut (∀ a w, S w → (S w → R a w) → K' a w) →
      if Region.wanted o (yielded ops.toArray a.tmps) = true then Oper.wp P o a w K' Q else K' (a.put o.dst undef) w
def wpSch2 (P : Program) (ops : List Oper) (Q : Exit → Act → World → Prop) (S : World → Prop) : Sch → Act → World → Prop
  | .nil, a, w => Q .normal a w
  | .yes i r, a, w => ∃ o v, nthOp ops i = some o ∧ (∀ c a w, Q (.panic c) (a.put o.dst v) w → Q (.panic c) a w) ∧ YieldsIf P ops.toArray S o v a ∧ wpSch2 P ops Q S r (a.put o.dst v) w
  | .one i r, a, w => wpOne P ops Q S i (wpSch2 P ops Q S r) a w
  | .two i r j s, a, w => wpOne P ops Q S i (wpSch2 P ops Q S r) a w ∧ wpOne P ops Q S j (wpSch2 P ops Q S s) a w
theorem wpAnyH_of_sch2 (hs : Region.noSelect ops.toArray = true) : ∀ (l : Sch) (fuel : Nat) (listed : Array Bool) (a : Act) (w : World), l.len ≤ fuel → schOK2 ops l listed = true → S w → wpSch2 P ops Q S l a w → wpAnyH P .any ops.toArray Q S fuel listed a w
  | .nil, fuel, listed, a, w, _, hc, _, h => wpAnyH_done (by simpa [schOK2] using hc) h fuel
  | .yes _ _, 0, _, _, _, hf, _, _, _ => by simp [Sch.len] at hf
  | .one _ _, 0, _, _, _, hf, _, _, _ => by simp [Sch.len] at hf
  | .two _ _ _ _, 0, _, _, _, hf, _, _, _ => by simp [Sch.len] at hf
  | .yes i r, fuel + 1, listed, a, w, hf, hc, hS, h => by
    obtain ⟨o, v, ho, hQ, hy, h⟩ := h
    simp only [schOK2, Bool.and_eq_true] at hc
    exact wpAnyH_take (by rw [nthOp_get, ho]) hs hc.1.2 hc.1.1 hQ hy hS (wpAnyH_of_sch2 hs r fuel _ _ _ (by simp [Sch.len] at hf; omega) hc.2 hS h)
  | .one i r, fuel + 1, listed, a, w, hf, hc, hS, h => by
    obtain ⟨o, ho, h⟩ := h
    simp only [schOK2, Bool.and_eq_true, beq_iff_eq] at hc
    refine wpAnyH_ready hc.1 (by simp) (AllReadyH.cons (o := o) (by rw [nthOp_get, ho]) (fun K hK => h K (fun a w hS' hW => ?_)) AllReadyH.nil)
    exact hK.out a w hS' (fun hS' => wpAnyH_of_sch2 hs r fuel _ _ _ (by simp [Sch.len] at hf; omega) hc.2 hS' (hW hS'))
  | .two i r j s, fuel + 1, listed, a, w, hf, hc, hS, h => by
    obtain ⟨⟨o, ho, h⟩, ⟨o', ho', h'⟩⟩ := h
    simp only [schOK2, Bool.and_eq_true, beq_iff_eq] at hc
    refine wpAnyH_ready hc.1.1 (by simp) (AllReadyH.cons (o := o) (by rw [nthOp_get, ho]) (fun K hK => h K (fun a w hS' hW => ?_)) (AllReadyH.cons (o := o') (by rw [nthOp_get, ho']) (fun K hK => h' K (fun a w hS' hW => ?_)) AllReadyH.nil))
    · exact hK.out a w hS' (fun hS' => wpAnyH_of_sch2 hs r fuel _ _ _ (by simp [Sch.len] at hf; omega) hc.1.2 hS' (hW hS'))
    · exact hK.out a w hS' (fun hS' => wpAnyH_of_sch2 hs s fuel _ _ _ (by simp [Sch.len] at hf; omega) hc.2 hS' (hW hS'))
theorem wp_region_sch2 (S : World → Prop) (l : Sch) {id : Nat} {a : Act} {w : World} (hm : P.follows .mixedOrders = true) (hs : Region.noSelect ops.toArray = true) (hl : Nat.ble l.len ops.toArray.size = true)
    (hc : schOK2 ops l (Array.replicate ops.toArray.size false) = true) (hS : S w.drew) (h : wpSch2 P ops Q S l a w.drew) : (Code.region id ops.toArray true).wp P Q a w :=
  wp_region_held_drew hm hS (fun hS => wpAnyH_of_sch2 hs l _ _ _ _ (Nat.le_of_ble_eq_true hl) hc hS h)
theorem wpSch2_nil {a : Act} {w : World} (h : Q .normal a w) : wpSch2 P ops Q S .nil a w := h
theorem wpSch2_yes {i : Nat} {r : Sch} {a : Act} {w : World} {o : Oper} {v : Value} (ho : nthOp ops i = some o) (hQ : ∀ c a w, Q (.panic c) (a.put o.dst v) w → Q (.panic c) a w)
    (hw : Region.wanted o (yielded ops.toArray a.tmps) = true) (hy : ∀ w, S w → (execOp a.eval o).run P w = .ok (.value v) w) (h : wpSch2 P ops Q S r (a.put o.dst v) w) : wpSch2 P ops Q S (.yes i r) a w :=
  ⟨o, v, ho, hQ, .inl ⟨hw, hy⟩, h⟩
theorem wpOne_call {i : Nat} {R : Act → World → Prop} {a : Act} {w : World} {o : Oper} (ho : nthOp ops i = some o)
    (hw : Region.wanted o (yielded ops.toArray a.tmps) = true) (h : ∀ K' : Act → World → Prop, Shut (∀ a w, S w → (S w → R a w) → K' a w) → Oper.wp P o a w K' Q) : wpOne P ops Q S i R a w :=
  ⟨o, ho, fun K hK => by rw [if_pos hw]; exact h K hK⟩
theorem wpSch2_one {i : Nat} {r : Sch} {a : Act} {w : World} (h : wpOne P ops Q S i (wpSch2 P ops Q S r) a w) : wpSch2 P ops Q S (.one i r) a w := h
theorem wpSch2_two {i j : Nat} {r s : Sch} {a : Act} {w : World} (h : wpOne P ops Q S i (wpSch2 P ops Q S r) a w) (h' : wpOne P ops Q S j (wpSch2 P ops Q S s) a w) : wpSch2 P ops Q S (.two i r j s) a w := ⟨h, h'⟩
end
end Go.Proofs.Ytbeicnabafapnaa
