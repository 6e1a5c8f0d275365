/-
  A region that draws its order, walked in one order, in parts: a call that waits for all that was taken ahead of it may turn what was said of the world; behind it something else is said. No program is spoken of. Conditions: those of each theorem.
-/
import Derived.Test.YtcllgfkmjleckaaSchedL
namespace Go.Proofs.Ytcllgfkmjleckaa

section
variable {P : Program} {ops : List Oper} {Q : Exit → Act → World → Prop} {S : World → Prop} {c : Nat}

/-- S is asked for as long as number c has not come up. -/
def wpAnyC (P : Program) (ops : List Oper) (Q : Exit → Act → World → Prop) (S : World → Prop) (c : Nat) : Nat → Array Bool → Act → World → Prop
  | 0, L, a, w => Region.ready .any ops.toArray L = [] ∧ Q .normal a w
  | fuel + 1, L, a, w => (Region.ready .any ops.toArray L = [] → Q .normal a w) ∧
      ∀ i ∈ Region.ready .any ops.toArray L, wpOp P ops.toArray Q i (fun a' w' => ((L.setIfInBounds i true).getD c false = false → S w') ∧ wpAnyC P ops Q S c fuel (L.setIfInBounds i true) a' w') a w
theorem wpAny_of_C : ∀ (fuel : Nat) (L : Array Bool) (a : Act) (w : World), wpAnyC P ops Q S c fuel L a w → wpAny P .any ops.toArray Q fuel L a w
  | 0, _, _, _, h => h
  | fuel + 1, _, _, _, h => ⟨h.1, fun i hi => wpOp_mono (fun a' w' h' => wpAny_of_C fuel _ a' w' h'.2) (h.2 i hi)⟩
theorem wpAnyC_of_any : ∀ (fuel : Nat) (L : Array Bool) (a : Act) (w : World), L.getD c false = true → wpAny P .any ops.toArray Q fuel L a w → wpAnyC P ops Q S c fuel L a w
  | 0, _, _, _, _, h => h
  | fuel + 1, L, _, _, hc, h => ⟨h.1, fun i hi => wpOp_mono (fun a' w' h' => ⟨fun h0 => (by rw [getD_set_true hc] at h0; cases h0), wpAnyC_of_any fuel _ a' w' (getD_set_true hc) h'⟩) (h.2 i hi)⟩

theorem wpAnyC_first {i : Nat} {oi oc : Oper} {v : Value} (hi : ops.toArray[i]? = some oi) (hc : ops.toArray[c]? = some oc) (hsel : ∀ (j : Nat) (o : Oper) cs b, ops.toArray[j]? = some o → o.op ≠ .select cs b)
    (hQ : ∀ c a w, Q (.panic c) (a.put oi.dst v) w → Q (.panic c) a w) {n : Nat} (hw : waits ops i n c = true) (hci : c ≠ i) :
    ∀ (fuel : Nat) (L : Array Bool) (a : Act) (w : World), Down ops L →
      (∀ j oj, ops.toArray[j]? = some oj → j ≠ i → L.getD j true = false → (∀ e ∈ oj.after, Region.binds .any e = true → e.on ≠ i) → oi.apart ops.toArray oj = true) →
      i ∈ Region.ready .any ops.toArray L → YieldsIf P ops.toArray S oi v a → S w →
      wpAnyC P ops Q S c fuel (L.setIfInBounds i true) (a.put oi.dst v) w → wpAnyC P ops Q S c (fuel + 1) L a w := by
  intro fuel
  induction fuel with
  | zero =>
    intro L a w _ _ hr hy hS H
    refine ⟨fun h => (by rw [h] at hr; cases hr), fun j hj => ?_⟩
    by_cases hji : j = i
    · subst hji; exact hy.wpOp hi hS ⟨fun _ => hS, H⟩
    · have h0 := ready_mono hj hji
      rw [H.1] at h0
      cases h0
  | succ fuel ih =>
    intro L a w hd hfree hr hy hS H
    refine ⟨fun h => (by rw [h] at hr; cases hr), fun j hj => ?_⟩
    by_cases hji : j = i
    · subst hji; exact hy.wpOp hi hS ⟨fun _ => hS, H⟩
    obtain ⟨hjun, oj, hoj, hall⟩ := mem_ready.1 hj
    have hun := not_listed hr
    have hd' := hd.set hj
    have hun' : (L.setIfInBounds j true).getD i false = false := by rw [getD_set_ne false hji]; exact hun
    have hcn : (L.setIfInBounds j true).getD c false = false := by
      cases hcc : (L.setIfInBounds j true).getD c false with
      | false => rfl
      | true =>
        have := waits_down hd' n c oc hc (fun e he hb => hd' c oc hc hcc e he hb) hw
        rw [hun'] at this; cases this
    have hnot : ∀ e ∈ oj.after, Region.binds .any e = true → e.on ≠ i := fun e he hb heq => by
      have h1 := hall e he hb
      rw [heq, hun] at h1; cases h1
    have h2 := wpOp_putIf hoj (hfree j oj hoj hji hjun hnot) (fun cs b => hsel i oi cs b hi) (fun cs b => hsel j oj cs b hoj) hQ hy (H.2 j (ready_mono hj hji))
    have hcn' : ((L.setIfInBounds i true).setIfInBounds j true).getD c false = false := by
      rw [Array.setIfInBounds_comm _ _ (Ne.symm hji), getD_set_ne false (Ne.symm hci)]; exact hcn
    refine wpOp_mono (fun a' w' h3 => ⟨fun _ => h3.2.1 hcn', ih _ a' w' hd' (fun k ok hk hki hun'' hno => hfree k ok hk hki ?_ hno) (ready_mono hr (Ne.symm hji)) h3.1 (h3.2.1 hcn') ?_⟩) h2
    · by_cases hjk : j = k
      · subst hjk; exact hjun
      · rwa [getD_set_ne true hjk] at hun''
    · rw [Array.setIfInBounds_comm _ _ hji]; exact h3.2.2

/-- One that comes up alone; no word is asked of the world behind it but R. -/
def wpTurn (P : Program) (ops : List Oper) (Q : Exit → Act → World → Prop) (i : Nat) (R : Act → World → Prop) (a : Act) (w : World) : Prop :=
  ∃ o, nthOp ops i = some o ∧ ∀ K' : Act → World → Prop, Shut (∀ a w, R a w → K' a w) →
      if Region.wanted o (yielded ops.toArray a.tmps) = true then Oper.wp P o a w K' Q else K' (a.put o.dst undef) w
theorem wpOp_of_turn {i : Nat} {a : Act} {w : World} {R : Act → World → Prop} (h : wpTurn P ops Q i R a w) : wpOp P ops.toArray Q i R a w := by
  obtain ⟨o, ho, h⟩ := h
  unfold wpOp
  rw [nthOp_get, ho]
  have := h R (fun a w hr => hr)
  dsimp only
  split
  · rename_i hw; rw [if_pos hw] at this; exact .inl this
  · rename_i hw; rw [if_neg hw] at this; exact this
/-- A part of an order: what is taken under S, then the call c, behind which R is asked. -/
def wpPart (P : Program) (ops : List Oper) (Q : Exit → Act → World → Prop) (S : World → Prop) (c : Nat) (R : Act → World → Prop) : List (Bool × Nat) → Act → World → Prop
  | [], a, w => wpTurn P ops Q c R a w
  | (true, i) :: r, a, w => ∃ o v, nthOp ops i = some o ∧ (∀ c a w, Q (.panic c) (a.put o.dst v) w → Q (.panic c) a w) ∧ YieldsIf P ops.toArray S o v a ∧ wpPart P ops Q S c R r (a.put o.dst v) w
  | (false, i) :: r, a, w => wpOne P ops Q S i (wpPart P ops Q S c R r) a w
def partOK (ops : List Oper) (c : Nat) : List (Bool × Nat) → Array Bool → Bool
  | [], L => (Region.ready .any ops.toArray L == [c])
  | (true, i) :: r, L => waits ops i ops.length c && !(c == i) && (Region.ready .any ops.toArray L).contains i && Region.free .any ops.toArray L i && partOK ops c r (L.setIfInBounds i true)
  | (false, i) :: r, L => !(c == i) && (Region.ready .any ops.toArray L == [i]) && partOK ops c r (L.setIfInBounds i true)
/-- What has come up behind a part. -/
def partL : List (Bool × Nat) → Array Bool → Array Bool
  | [], L => L
  | (_, i) :: r, L => partL r (L.setIfInBounds i true)
def partsOK (ops : List Oper) : List (List (Bool × Nat) × Nat) → List (Bool × Nat) → Array Bool → Bool
  | [], l, L => schOK ops l L
  | (p, c) :: r, l, L => !(L.getD c false) && partOK ops c p L && partsOK ops r l ((partL p L).setIfInBounds c true)
/-- The walk in parts: for each a word on the world. -/
def wpParts (P : Program) (ops : List Oper) (Q : Exit → Act → World → Prop) : List (List (Bool × Nat) × Nat) → List (Bool × Nat) → Act → World → Prop
  | [], l, a, w => ∃ S : World → Prop, S w ∧ wpSch P ops Q S l a w
  | (p, c) :: r, l, a, w => ∃ S : World → Prop, S w ∧ wpPart P ops Q S c (wpParts P ops Q r l) p a w
def partsLen : List (List (Bool × Nat) × Nat) → List (Bool × Nat) → Nat
  | [], l => l.length
  | (p, _) :: r, l => p.length + 1 + partsLen r l

theorem lt_of_ready {L : Array Bool} {i : Nat} (hi : i ∈ Region.ready .any ops.toArray L) : i < L.size := by
  have h := (mem_ready.1 hi).1
  by_cases hj : i < L.size
  · exact hj
  · simp [hj] at h
theorem wpAnyC_of_part {R : Act → World → Prop} (hs : Region.noSelect ops.toArray = true) (m : Nat) : ∀ (l : List (Bool × Nat)) (L : Array Bool) (a : Act) (w : World), partOK ops c l L = true → Down ops L → L.getD c false = false → S w →
    (∀ a w, Down ops ((partL l L).setIfInBounds c true) → R a w → wpAny P .any ops.toArray Q m ((partL l L).setIfInBounds c true) a w) → wpPart P ops Q S c R l a w → wpAnyC P ops Q S c (l.length + (m + 1)) L a w
  | [], L, a, w, hc, hd, _, _, hR, h => by
    have hr : Region.ready .any ops.toArray L = [c] := by simpa [partOK] using hc
    rw [List.length_nil, Nat.zero_add]
    refine ⟨fun h0 => (by rw [hr] at h0; cases h0), fun j hj => ?_⟩
    have hj0 := hj
    rw [hr, List.mem_singleton] at hj
    subst hj
    have hg : (L.setIfInBounds j true).getD j false = true := by simp [lt_of_ready hj0]
    exact wpOp_mono (fun a' w' h' => ⟨fun h0 => (by rw [hg] at h0; cases h0), wpAnyC_of_any _ _ _ _ hg (hR a' w' (hd.set hj0) h')⟩) (wpOp_of_turn h)
  | (true, i) :: r, L, a, w, hc, hd, hcL, hS, hR, h => by
    obtain ⟨o, v, ho, hQ, hy, h⟩ := h
    simp only [partOK, Bool.and_eq_true, Bool.not_eq_true', beq_eq_false_iff_ne] at hc
    obtain ⟨⟨⟨⟨c1, c2⟩, c3⟩, c4⟩, c5⟩ := hc
    have hr : i ∈ Region.ready .any ops.toArray L := by simpa using c3
    have hi : ops.toArray[i]? = some o := by rw [nthOp_get, ho]
    obtain ⟨oc, hoc⟩ : ∃ oc, ops.toArray[c]? = some oc := by
      cases hx : ops.toArray[c]? with
      | none =>
        rw [nthOp_get] at hx
        cases hn : ops.length with
        | zero => rw [hn] at c1; simp [waits] at c1
        | succ n => rw [hn] at c1; simp [waits, hx] at c1
      | some oc => exact ⟨oc, rfl⟩
    have e : (((true, i) :: r).length + (m + 1)) = (r.length + (m + 1)) + 1 := by simp only [List.length_cons]; omega
    rw [e]
    exact wpAnyC_first hi hoc (Region.noSelect_spec hs) hQ c1 c2 _ L a w hd (Region.free_spec hi c4) hr hy hS
      (wpAnyC_of_part hs m r _ _ _ c5 (hd.set hr) (by rw [getD_set_ne false (Ne.symm c2)]; exact hcL) hS hR h)
  | (false, i) :: r, L, a, w, hc, hd, hcL, hS, hR, h => by
    simp only [partOK, Bool.and_eq_true, Bool.not_eq_true', beq_eq_false_iff_ne, beq_iff_eq] at hc
    obtain ⟨⟨c1, c2⟩, c3⟩ := hc
    have e : (((false, i) :: r).length + (m + 1)) = (r.length + (m + 1)) + 1 := by simp only [List.length_cons]; omega
    rw [e]
    refine ⟨fun h0 => (by rw [c2] at h0; cases h0), fun j hj => ?_⟩
    have hj0 := hj
    rw [c2, List.mem_singleton] at hj
    subst hj
    obtain ⟨o, ho, h⟩ := h
    unfold wpOp
    rw [nthOp_get, ho]
    have hcL' : (L.setIfInBounds j true).getD c false = false := by rw [getD_set_ne false (Ne.symm c1)]; exact hcL
    have := h (fun a' w' => ((L.setIfInBounds j true).getD c false = false → S w') ∧ wpAnyC P ops Q S c (r.length + (m + 1)) (L.setIfInBounds j true) a' w')
      (fun a w hs' hr => ⟨fun _ => hs', wpAnyC_of_part hs m r _ a w c3 (hd.set hj0) hcL' hs' hR (hr hs')⟩)
    dsimp only
    split
    · rename_i hw; rw [if_pos hw] at this; exact .inl this
    · rename_i hw; rw [if_neg hw] at this; exact this
theorem wpAny_of_parts (hs : Region.noSelect ops.toArray = true) : ∀ (ps : List (List (Bool × Nat) × Nat)) (l : List (Bool × Nat)) (L : Array Bool) (a : Act) (w : World), partsOK ops ps l L = true → Down ops L → wpParts P ops Q ps l a w → wpAny P .any ops.toArray Q (partsLen ps l) L a w
  | [], l, L, a, w, hc, _, h => by
    obtain ⟨S, hS, h⟩ := h
    exact wpAny_of_held _ _ _ _ (wpAnyH_of_sch hs l _ L a w (Nat.le_refl _) hc hS h)
  | (p, c) :: r, l, L, a, w, hc, hd, h => by
    obtain ⟨S, hS, h⟩ := h
    simp only [partsOK, Bool.and_eq_true, Bool.not_eq_true'] at hc
    have e : partsLen ((p, c) :: r) l = p.length + (partsLen r l + 1) := by simp only [partsLen]; omega
    rw [e]
    exact wpAny_of_C (S := S) (c := c) _ _ _ _ (wpAnyC_of_part hs _ p L a w hc.1.2 hd hc.1.1 hS (fun a w hd' hr => wpAny_of_parts hs r l _ a w hc.2 hd' hr) h)

/-- The beginning. -/
theorem wp_region_parts (ps : List (List (Bool × Nat) × Nat)) (l : List (Bool × Nat)) {id : Nat} {a : Act} {w : World} (hm : P.follows .mixedOrders = true) (hs : Region.noSelect ops.toArray = true) (hl : Nat.beq (partsLen ps l) ops.toArray.size = true)
    (hc : partsOK ops ps l (Array.replicate ops.toArray.size false) = true) (h : wpParts P ops Q ps l a w.drew) : (Code.region id ops.toArray true).wp P Q a w :=
  wp_region_any hm (by
    have := wpAny_of_parts hs ps l _ a w.drew hc (Down.start _) h
    rw [Nat.eq_of_beq_eq_true hl] at this
    exact this)
theorem wpParts_part (S : World → Prop) {p : List (Bool × Nat)} {r : List (List (Bool × Nat) × Nat)} {l : List (Bool × Nat)} {a : Act} {w : World} (hS : S w) (h : wpPart P ops Q S c (wpParts P ops Q r l) p a w) : wpParts P ops Q ((p, c) :: r) l a w := ⟨S, hS, h⟩
theorem wpParts_last (S : World → Prop) {l : List (Bool × Nat)} {a : Act} {w : World} (hS : S w) (h : wpSch P ops Q S l a w) : wpParts P ops Q [] l a w := ⟨S, hS, h⟩
theorem wpPart_yes {R : Act → World → Prop} {i : Nat} {r : List (Bool × Nat)} {a : Act} {w : World} {o : Oper} {v : Value} (ho : nthOp ops i = some o) (hQ : ∀ c a w, Q (.panic c) (a.put o.dst v) w → Q (.panic c) a w)
    (hw : Region.wanted o (yielded ops.toArray a.tmps) = true) (hy : ∀ w, S w → (execOp a.eval o).run P w = .ok (.value v) w) (h : wpPart P ops Q S c R r (a.put o.dst v) w) : wpPart P ops Q S c R ((true, i) :: r) a w :=
  ⟨o, v, ho, hQ, .inl ⟨hw, hy⟩, h⟩
theorem wpPart_no {R : Act → World → Prop} {i : Nat} {r : List (Bool × Nat)} {a : Act} {w : World} {o : Oper} (ho : nthOp ops i = some o) (hQ : ∀ c a w, Q (.panic c) (a.put o.dst undef) w → Q (.panic c) a w)
    (hw : Region.wanted o (yielded ops.toArray a.tmps) = false) (h : wpPart P ops Q S c R r (a.put o.dst undef) w) : wpPart P ops Q S c R ((true, i) :: r) a w :=
  ⟨o, undef, ho, hQ, .inr ⟨hw, rfl⟩, h⟩
/-- A call within a part: S holds behind it. -/
theorem wpPart_call {R : Act → World → Prop} {i : Nat} {r : List (Bool × Nat)} {a : Act} {w : World} {o : Oper} (ho : nthOp ops i = some o)
    (hw : Region.wanted o (yielded ops.toArray a.tmps) = true) (h : ∀ K' : Act → World → Prop, Shut (∀ a w, S w → (S w → wpPart P ops Q S c R r a w) → K' a w) → Oper.wp P o a w K' Q) : wpPart P ops Q S c R ((false, i) :: r) a w :=
  ⟨o, ho, fun K hK => by rw [if_pos hw]; exact h K hK⟩
/-- The call at a part's end. -/
theorem wpPart_turn {R : Act → World → Prop} {a : Act} {w : World} {o : Oper} (ho : nthOp ops c = some o)
    (hw : Region.wanted o (yielded ops.toArray a.tmps) = true) (h : ∀ K' : Act → World → Prop, Shut (∀ a w, R a w → K' a w) → Oper.wp P o a w K' Q) : wpPart P ops Q S c R [] a w :=
  ⟨o, ho, fun K hK => by rw [if_pos hw]; exact h K hK⟩
end
end Go.Proofs.Ytcllgfkmjleckaa
