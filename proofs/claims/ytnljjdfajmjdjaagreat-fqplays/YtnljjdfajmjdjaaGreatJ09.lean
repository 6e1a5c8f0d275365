/-
  The document's queue (canterref20.Queue) in the heap: its block, its two lists, a row of segments for each flow, all apart. Conditions: it lies so.
  A region that draws its order, walked in one order, in parts: a call that waits for all that was taken ahead of it may turn what was said of the world; behind it something else is said. No program is spoken of. Conditions: those of each theorem.
  A region that draws its order, walked in parts, some operations that touch no world taken ahead of all. No program is spoken of. Conditions: those of each theorem.
-/
import Derived.Test.YtnljjdfajmjdjaaGreatJ08
namespace Go.Proofs.YtnljjdfajmjdjaaGreat
open Go.RowKit
set_option maxRecDepth 100000

theorem row_ne {w : World} {E t : TypeId} {sz n g : Nat} {v : Value} {xs : List Value} {cs : Array Value} (h : w.ownsRow 0 E sz v n xs) (hw : Whole w g t cs) (hte : t ≠ E) : v.ownBlock ≠ some g := by
  rcases h.2 with ⟨rfl, _⟩ | ⟨g', cap, cur, rfl, _, hgb, _⟩
  · simp [Value.ownBlock]
  · intro e'
    obtain rfl : g' = g := by simpa [Value.ownBlock] using e'
    have := (show w.heap[g']? = _ from hw).symm.trans hgb
    simp at this
    exact hte this.2
theorem row_apart {w : World} {E E' : TypeId} {sz n sz' n' : Nat} {v v' : Value} {xs xs' : List Value} (h : w.ownsRow 0 E sz v n xs) (h' : w.ownsRow 0 E' sz' v' n' xs') (hte : E ≠ E') {k : Nat} (hk : v.ownBlock = some k) : v'.ownBlock ≠ some k := by
  rcases h.2 with ⟨rfl, _⟩ | ⟨g, cap, cur, rfl, _, hgb, _⟩
  · cases hk
  · rcases h'.2 with ⟨rfl, _⟩ | ⟨g', cap', cur', rfl, _, hgb', _⟩
    · simp [Value.ownBlock]
    · intro e'
      obtain rfl : g = k := by simpa [Value.ownBlock] using hk
      obtain rfl : g' = g := by simpa [Value.ownBlock] using e'
      have := hgb.symm.trans hgb'
      simp at this
      exact hte this.2
/-- The document's queue: block g of type T, its cells cs; v: the slices of segments (of type E); n, o: the slices of its lists. -/
structure RQat (w : World) (T E : TypeId) (g : Nat) (cs : Array Value) (v : Nat → Value) (n o : Value) (x : Qm) : Prop where
  c : RQc cs v x
  l : RLat w T g 65 cs n o x.N x.O
  q : ∀ i, i < 8 → (sgsT E (v i) (x.F i).q).at_ w
  ap : ∀ i j, i < 8 → j < 8 → i ≠ j → ∀ k, (v i).ownBlock = some k → (v j).ownBlock ≠ some k
  ne : T ≠ E
  ni : E ≠ 3
/-- Its own blocks. -/
def RQown (g : Nat) (v : Nat → Value) (n o : Value) (k : Nat) : Prop := k = g ∨ n.ownBlock = some k ∨ o.ownBlock = some k ∨ ∃ i, i < 8 ∧ (v i).ownBlock = some k
section
variable {w w' : World} {T E : TypeId} {g : Nat} {cs cs' : Array Value} {v : Nat → Value} {n o : Value} {x y : Qm} {S : Nat → Prop}
theorem RQat.vg (h : RQat w T E g cs v n o x) {i : Nat} (hi : i < 8) : (v i).ownBlock ≠ some g := row_ne (h.q i hi) h.l.whole h.ne
theorem RQat.vn (h : RQat w T E g cs v n o x) {i : Nat} (hi : i < 8) {k : Nat} (hk : (v i).ownBlock = some k) : n.ownBlock ≠ some k := row_apart (h.q i hi) h.l.o1 h.ni hk
theorem RQat.vo (h : RQat w T E g cs v n o x) {i : Nat} (hi : i < 8) {k : Nat} (hk : (v i).ownBlock = some k) : o.ownBlock ≠ some k := row_apart (h.q i hi) h.l.o2 h.ni hk
theorem RQat.keep (h : RQat w T E g cs v n o x) (hk : Keep S w w') (hs : ∀ k, S k → ¬ RQown g v n o k) : RQat w' T E g cs v n o x where
  c := h.c
  l := ⟨h.l.whole.keep hk fun e => hs g e (.inl rfl), h.l.c1, h.l.c2, h.l.o1.keep hk fun k e a => hs k a (.inr (.inl e)), h.l.o2.keep hk fun k e a => hs k a (.inr (.inr (.inl e))), h.l.ap, h.l.ne⟩
  q := fun i hi => (sgsT E (v i) (x.F i).q).keep (h.q i hi) hk fun k e a => hs k a (.inr (.inr (.inr ⟨i, hi, e⟩)))
  ap := h.ap
  ne := h.ne
  ni := h.ni
theorem RQat.lt (h : RQat w T E g cs v n o x) {k : Nat} (hk : RQown g v n o k) : k < w.heap.size := by
  rcases hk with rfl | e | e | ⟨i, hi, e⟩
  · exact h.l.whole.lt
  · exact h.l.o1.lt e
  · exact h.l.o2.lt e
  · exact (sgsT E (v i) (x.F i).q).lt (h.q i hi) e
/-- The lists turn: what a call on them leaves. -/
theorem RQat.lists (h : RQat w T E g cs v n o x) {N' O' : List Int} (t : RLto w T g 65 cs n o N' O' w') (hc : y.c = x.c) (hF : y.F = x.F) (hT : y.T = x.T) (hN : y.N = N') (hO : y.O = O') :
    ∃ cs' n' o', RQat w' T E g cs' v n' o' y ∧ (∀ j, j < 65 → cs'[j]? = cs[j]?) ∧ Keep (fun k => k = g ∨ n.ownBlock = some k ∨ o.ownBlock = some k) w w' ∧ ∀ k, RQown g v n' o' k → RQown g v n o k ∨ w.heap.size ≤ k := by
  obtain ⟨n', o', hl, hk, h1, h2⟩ := t
  subst hN hO
  have he : ∀ j, j < 65 → ((cs.setIfInBounds 65 n').setIfInBounds (65 + 1) o')[j]? = cs[j]? := fun j hj => by
    rw [Array.getElem?_setIfInBounds_ne (by omega), Array.getElem?_setIfInBounds_ne (by omega)]
  refine ⟨_, n', o', ⟨h.c.els (by rw [Array.size_setIfInBounds, Array.size_setIfInBounds]) he hc hF hT, hl, fun i hi => ?_, h.ap, h.ne, h.ni⟩, he, hk, fun k hk => ?_⟩
  · rw [hF]
    refine (sgsT E (v i) (x.F i).q).keep (h.q i hi) hk fun k e a => ?_
    rcases a with rfl | a | a
    · exact h.vg hi e
    · exact h.vn hi e a
    · exact h.vo hi e a
  · rcases hk with e | e | e | e
    · exact .inl (.inl e)
    · rcases h1 k e with a | a
      · exact .inl (.inr (.inl a))
      · exact .inr a
    · rcases h2 k e with a | a
      · exact .inl (.inr (.inr (.inl a)))
      · exact .inr a
    · exact .inl (.inr (.inr (.inr e)))
/-- Its own block turns, and its segments; the lists stay. -/
theorem RQat.turn (h : RQat w T E g cs v n o x) {v' : Nat → Value} (hw : Whole w' g T cs') (hc : RQc cs' v' y) (h5 : cs'[65]? = cs[65]?) (h6 : cs'[66]? = cs[66]?) (hk : Keep S w w') (hs : ∀ k, S k → k = g ∨ ∃ i, i < 8 ∧ (v i).ownBlock = some k)
    (hq : ∀ i, i < 8 → (sgsT E (v' i) (y.F i).q).at_ w') (ap : ∀ i j, i < 8 → j < 8 → i ≠ j → ∀ k, (v' i).ownBlock = some k → (v' j).ownBlock ≠ some k) (hN : y.N = x.N) (hO : y.O = x.O) : RQat w' T E g cs' v' n o y where
  c := hc
  l := by
    rw [hN, hO]
    refine ⟨hw, h5.trans h.l.c1, h6.trans h.l.c2, h.l.o1.keep hk fun k e a => ?_, h.l.o2.keep hk fun k e a => ?_, h.l.ap, h.l.ne⟩
    · rcases hs k a with rfl | ⟨i, hi, b⟩
      · exact h.l.n1 e
      · exact h.vn hi b e
    · rcases hs k a with rfl | ⟨i, hi, b⟩
      · exact h.l.n2 e
      · exact h.vo hi b e
  q := hq
  ap := ap
  ne := h.ne
  ni := h.ni
end
end Go.Proofs.YtnljjdfajmjdjaaGreat
namespace Go.Proofs.YtnljjdfajmjdjaaGreat

section
variable {P : Program} {ops : List Oper} {Q : Exit → Act → World → Prop} {S : World → Prop} {c : Nat}

/-- S is asked for as long as number c has not come up. -/
def wpAnyC (P : Program) (ops : List Oper) (Q : Exit → Act → World → Prop) (S : World → Prop) (c : Nat) : Nat → Array Bool → Act → World → Prop
  | 0, L, a, w => Region.ready .any ops.toArray L = [] ∧ Q .normal a w
  | fuel + 1, L, a, w => (Region.ready .any ops.toArray L = [] → Q .normal a w) ∧
      ∀ i ∈ Region.ready .any ops.toArray L, wpOp P ops.toArray Q i (fun a' w' => ((L.setIfInBounds i true).getD c false = false → S w') ∧ wpAnyC P ops Q S c fuel (L.setIfInBounds i true) a' w') a w
theorem wpAny_of_C : ∀ (fuel : Nat) (L : Array Bool) (a : Act) (w : World), wpAnyC P ops Q S c fuel L a w → wpAny P .any ops.toArray Q fuel L a w
  | 0, _, _, _, h => h
  | fuel + 1, _, _, _, h => ⟨h.1, fun i hi => wpOp_mono (fun a' w' h' => wpAny_of_C fuel _ a' w' h'.2) (h.2 i hi)⟩
theorem wpAnyC_of_any : ∀ (fuel : Nat) (L : Array Bool) (a : Act) (w : World), L.getD c false = true → wpAny P .any ops.toArray Q fuel L a w → wpAnyC P ops Q S c fuel L a w
  | 0, _, _, _, _, h => h
  | fuel + 1, L, _, _, hc, h => ⟨h.1, fun i hi => wpOp_mono (fun a' w' h' => ⟨fun h0 => (by rw [getD_set_true hc] at h0; cases h0), wpAnyC_of_any fuel _ a' w' (getD_set_true hc) h'⟩) (h.2 i hi)⟩

theorem wpAnyC_first {i : Nat} {oi oc : Oper} {v : Value} (hi : ops.toArray[i]? = some oi) (hc : ops.toArray[c]? = some oc) (hsel : ∀ (j : Nat) (o : Oper) cs b, ops.toArray[j]? = some o → o.op ≠ .select cs b)
    (hQ : ∀ c a w, Q (.panic c) (a.put oi.dst v) w → Q (.panic c) a w) {n : Nat} (hw : waits ops i n c = true) (hci : c ≠ i) :
    ∀ (fuel : Nat) (L : Array Bool) (a : Act) (w : World), Down ops L →
      (∀ j oj, ops.toArray[j]? = some oj → j ≠ i → L.getD j true = false → (∀ e ∈ oj.after, Region.binds .any e = true → e.on ≠ i) → oi.apart ops.toArray oj = true) →
      i ∈ Region.ready .any ops.toArray L → YieldsIf P ops.toArray S oi v a → S w →
      wpAnyC P ops Q S c fuel (L.setIfInBounds i true) (a.put oi.dst v) w → wpAnyC P ops Q S c (fuel + 1) L a w := by
  intro fuel
  induction fuel with
  | zero =>
    intro L a w _ _ hr hy hS H
    refine ⟨fun h => (by rw [h] at hr; cases hr), fun j hj => ?_⟩
    by_cases hji : j = i
    · subst hji; exact hy.wpOp hi hS ⟨fun _ => hS, H⟩
    · have h0 := ready_mono hj hji
      rw [H.1] at h0
      cases h0
  | succ fuel ih =>
    intro L a w hd hfree hr hy hS H
    refine ⟨fun h => (by rw [h] at hr; cases hr), fun j hj => ?_⟩
    by_cases hji : j = i
    · subst hji; exact hy.wpOp hi hS ⟨fun _ => hS, H⟩
    obtain ⟨hjun, oj, hoj, hall⟩ := mem_ready.1 hj
    have hun := not_listed hr
    have hd' := hd.set hj
    have hun' : (L.setIfInBounds j true).getD i false = false := by rw [getD_set_ne false hji]; exact hun
    have hcn : (L.setIfInBounds j true).getD c false = false := by
      cases hcc : (L.setIfInBounds j true).getD c false with
      | false => rfl
      | true =>
        have := waits_down hd' n c oc hc (fun e he hb => hd' c oc hc hcc e he hb) hw
        rw [hun'] at this; cases this
    have hnot : ∀ e ∈ oj.after, Region.binds .any e = true → e.on ≠ i := fun e he hb heq => by
      have h1 := hall e he hb
      rw [heq, hun] at h1; cases h1
    have h2 := wpOp_putIf hoj (hfree j oj hoj hji hjun hnot) (fun cs b => hsel i oi cs b hi) (fun cs b => hsel j oj cs b hoj) hQ hy (H.2 j (ready_mono hj hji))
    have hcn' : ((L.setIfInBounds i true).setIfInBounds j true).getD c false = false := by
      rw [Array.setIfInBounds_comm _ _ (Ne.symm hji), getD_set_ne false (Ne.symm hci)]; exact hcn
    refine wpOp_mono (fun a' w' h3 => ⟨fun _ => h3.2.1 hcn', ih _ a' w' hd' (fun k ok hk hki hun'' hno => hfree k ok hk hki ?_ hno) (ready_mono hr (Ne.symm hji)) h3.1 (h3.2.1 hcn') ?_⟩) h2
    · by_cases hjk : j = k
      · subst hjk; exact hjun
      · rwa [getD_set_ne true hjk] at hun''
    · rw [Array.setIfInBounds_comm _ _ hji]; exact h3.2.2

/-- One that comes up alone; no word is asked of the world behind it but R. -/
def wpTurn (P : Program) (ops : List Oper) (Q : Exit → Act → World → Prop) (i : Nat) (R : Act → World → Prop) (a : Act) (w : World) : Prop :=
  ∃ o, nthOp ops i = some o ∧ ∀ K' : Act → World → Prop, Shut (∀ a w, R a w → K' a w) →
      if Region.wanted o (yielded ops.toArray a.tmps) = true then Oper.wp P o a w K' Q else K' (a.put o.dst undef) w
theorem wpOp_of_turn {i : Nat} {a : Act} {w : World} {R : Act → World → Prop} (h : wpTurn P ops Q i R a w) : wpOp P ops.toArray Q i R a w := by
  obtain ⟨o, ho, h⟩ := h
  unfold wpOp
  rw [nthOp_get, ho]
  have := h R (fun a w hr => hr)
  dsimp only
  split
  · rename_i hw; rw [if_pos hw] at this; exact .inl this
  · rename_i hw; rw [if_neg hw] at this; exact this
/-- A part of an order: what is taken under S, then the call c, behind which R is asked. -/
def wpPart (P : Program) (ops : List Oper) (Q : Exit → Act → World → Prop) (S : World → Prop) (c : Nat) (R : Act → World → Prop) : List (Bool × Nat) → Act → World → Prop
  | [], a, w => wpTurn P ops Q c R a w
  | (true, i) :: r, a, w => ∃ o v, nthOp ops i = some o ∧ (∀ c a w, Q (.panic c) (a.put o.dst v) w → Q (.panic c) a w) ∧ YieldsIf P ops.toArray S o v a ∧ wpPart P ops Q S c R r (a.put o.dst v) w
  | (false, i) :: r, a, w => wpOne P ops Q S i (wpPart P ops Q S c R r) a w
def partOK (ops : List Oper) (c : Nat) : List (Bool × Nat) → Array Bool → Bool
  | [], L => (Region.ready .any ops.toArray L == [c])
  | (true, i) :: r, L => waits ops i ops.length c && !(c == i) && (Region.ready .any ops.toArray L).contains i && Region.free .any ops.toArray L i && partOK ops c r (L.setIfInBounds i true)
  | (false, i) :: r, L => !(c == i) && (Region.ready .any ops.toArray L == [i]) && partOK ops c r (L.setIfInBounds i true)
/-- What has come up behind a part. -/
def partL : List (Bool × Nat) → Array Bool → Array Bool
  | [], L => L
  | (_, i) :: r, L => partL r (L.setIfInBounds i true)
def partsOK (ops : List Oper) : List (List (Bool × Nat) × Nat) → List (Bool × Nat) → Array Bool → Bool
  | [], l, L => schOK ops l L
  | (p, c) :: r, l, L => !(L.getD c false) && partOK ops c p L && partsOK ops r l ((partL p L).setIfInBounds c true)
/-- The walk in parts: for each a word on the world. -/
def wpParts (P : Program) (ops : List Oper) (Q : Exit → Act → World → Prop) : List (List (Bool × Nat) × Nat) → List (Bool × Nat) → Act → World → Prop
  | [], l, a, w => ∃ S : World → Prop, S w ∧ wpSch P ops Q S l a w
  | (p, c) :: r, l, a, w => ∃ S : World → Prop, S w ∧ wpPart P ops Q S c (wpParts P ops Q r l) p a w
def partsLen : List (List (Bool × Nat) × Nat) → List (Bool × Nat) → Nat
  | [], l => l.length
  | (p, _) :: r, l => p.length + 1 + partsLen r l

theorem lt_of_ready {L : Array Bool} {i : Nat} (hi : i ∈ Region.ready .any ops.toArray L) : i < L.size := by
  have h := (mem_ready.1 hi).1
  by_cases hj : i < L.size
  · exact hj
  · simp [hj] at h
theorem wpAnyC_of_part {R : Act → World → Prop} (hs : Region.noSelect ops.toArray = true) (m : Nat) : ∀ (l : List (Bool × Nat)) (L : Array Bool) (a : Act) (w : World), partOK ops c l L = true → Down ops L → L.getD c false = false → S w →
    (∀ a w, Down ops ((partL l L).setIfInBounds c true) → R a w → wpAny P .any ops.toArray Q m ((partL l L).setIfInBounds c true) a w) → wpPart P ops Q S c R l a w → wpAnyC P ops Q S c (l.length + (m + 1)) L a w
  | [], L, a, w, hc, hd, _, _, hR, h => by
    have hr : Region.ready .any ops.toArray L = [c] := by simpa [partOK] using hc
    rw [List.length_nil, Nat.zero_add]
    refine ⟨fun h0 => (by rw [hr] at h0; cases h0), fun j hj => ?_⟩
    have hj0 := hj
    rw [hr, List.mem_singleton] at hj
    subst hj
    have hg : (L.setIfInBounds j true).getD j false = true := by simp [lt_of_ready hj0]
    exact wpOp_mono (fun a' w' h' => ⟨fun h0 => (by rw [hg] at h0; cases h0), wpAnyC_of_any _ _ _ _ hg (hR a' w' (hd.set hj0) h')⟩) (wpOp_of_turn h)
  | (true, i) :: r, L, a, w, hc, hd, hcL, hS, hR, h => by
    obtain ⟨o, v, ho, hQ, hy, h⟩ := h
    simp only [partOK, Bool.and_eq_true, Bool.not_eq_true', beq_eq_false_iff_ne] at hc
    obtain ⟨⟨⟨⟨c1, c2⟩, c3⟩, c4⟩, c5⟩ := hc
    have hr : i ∈ Region.ready .any ops.toArray L := by simpa using c3
    have hi : ops.toArray[i]? = some o := by rw [nthOp_get, ho]
    obtain ⟨oc, hoc⟩ : ∃ oc, ops.toArray[c]? = some oc := by
      cases hx : ops.toArray[c]? with
      | none =>
        rw [nthOp_get] at hx
        cases hn : ops.length with
        | zero => rw [hn] at c1; simp [waits] at c1
        | succ n => rw [hn] at c1; simp [waits, hx] at c1
      | some oc => exact ⟨oc, rfl⟩
    have e : (((true, i) :: r).length + (m + 1)) = (r.length + (m + 1)) + 1 := by simp only [List.length_cons]; omega
    rw [e]
    exact wpAnyC_first hi hoc (Region.noSelect_spec hs) hQ c1 c2 _ L a w hd (Region.free_spec hi c4) hr hy hS
      (wpAnyC_of_part hs m r _ _ _ c5 (hd.set hr) (by rw [getD_set_ne false (Ne.symm c2)]; exact hcL) hS hR h)
  | (false, i) :: r, L, a, w, hc, hd, hcL, hS, hR, h => by
    simp only [partOK, Bool.and_eq_true, Bool.not_eq_true', beq_eq_false_iff_ne, beq_iff_eq] at hc
    obtain ⟨⟨c1, c2⟩, c3⟩ := hc
    have e : (((false, i) :: r).length + (m + 1)) = (r.length + (m + 1)) + 1 := by simp only [List.length_cons]; omega
    rw [e]
    refine ⟨fun h0 => (by rw [c2] at h0; cases h0), fun j hj => ?_⟩
    have hj0 := hj
    rw [c2, List.mem_singleton] at hj
    subst hj
    obtain ⟨o, ho, h⟩ := h
    unfold wpOp
    rw [nthOp_get, ho]
    have hcL' : (L.setIfInBounds j true).getD c false = false := by rw [getD_set_ne false (Ne.symm c1)]; exact hcL
    have := h (fun a' w' => ((L.setIfInBounds j true).getD c false = false → S w') ∧ wpAnyC P ops Q S c (r.length + (m + 1)) (L.setIfInBounds j true) a' w')
      (fun a w hs' hr => ⟨fun _ => hs', wpAnyC_of_part hs m r _ a w c3 (hd.set hj0) hcL' hs' hR (hr hs')⟩)
    dsimp only
    split
    · rename_i hw; rw [if_pos hw] at this; exact .inl this
    · rename_i hw; rw [if_neg hw] at this; exact this
theorem wpAny_of_parts (hs : Region.noSelect ops.toArray = true) : ∀ (ps : List (List (Bool × Nat) × Nat)) (l : List (Bool × Nat)) (L : Array Bool) (a : Act) (w : World), partsOK ops ps l L = true → Down ops L → wpParts P ops Q ps l a w → wpAny P .any ops.toArray Q (partsLen ps l) L a w
  | [], l, L, a, w, hc, _, h => by
    obtain ⟨S, hS, h⟩ := h
    exact wpAny_of_held _ _ _ _ (wpAnyH_of_sch hs l _ L a w (Nat.le_refl _) hc hS h)
  | (p, c) :: r, l, L, a, w, hc, hd, h => by
    obtain ⟨S, hS, h⟩ := h
    simp only [partsOK, Bool.and_eq_true, Bool.not_eq_true'] at hc
    have e : partsLen ((p, c) :: r) l = p.length + (partsLen r l + 1) := by simp only [partsLen]; omega
    rw [e]
    exact wpAny_of_C (S := S) (c := c) _ _ _ _ (wpAnyC_of_part hs _ p L a w hc.1.2 hd hc.1.1 hS (fun a w hd' hr => wpAny_of_parts hs r l _ a w hc.2 hd' hr) h)

/-- The beginning. -/
theorem wp_region_parts (ps : List (List (Bool × Nat) × Nat)) (l : List (Bool × Nat)) {id : Nat} {a : Act} {w : World} (hm : P.follows .mixedOrders = true) (hs : Region.noSelect ops.toArray = true) (hl : Nat.beq (partsLen ps l) ops.toArray.size = true)
    (hc : partsOK ops ps l (Array.replicate ops.toArray.size false) = true) (h : wpParts P ops Q ps l a w.drew) : (Code.region id ops.toArray true).wp P Q a w :=
  wp_region_any hm (by
    have := wpAny_of_parts hs ps l _ a w.drew hc (Down.start _) h
    rw [Nat.eq_of_beq_eq_true hl] at this
    exact this)
theorem wpParts_part (S : World → Prop) {p : List (Bool × Nat)} {r : List (List (Bool × Nat) × Nat)} {l : List (Bool × Nat)} {a : Act} {w : World} (hS : S w) (h : wpPart P ops Q S c (wpParts P ops Q r l) p a w) : wpParts P ops Q ((p, c) :: r) l a w := ⟨S, hS, h⟩
theorem wpParts_last (S : World → Prop) {l : List (Bool × Nat)} {a : Act} {w : World} (hS : S w) (h : wpSch P ops Q S l a w) : wpParts P ops Q [] l a w := ⟨S, hS, h⟩
theorem wpPart_yes {R : Act → World → Prop} {i : Nat} {r : List (Bool × Nat)} {a : Act} {w : World} {o : Oper} {v : Value} (ho : nthOp ops i = some o) (hQ : ∀ c a w, Q (.panic c) (a.put o.dst v) w → Q (.panic c) a w)
    (hw : Region.wanted o (yielded ops.toArray a.tmps) = true) (hy : ∀ w, S w → (execOp a.eval o).run P w = .ok (.value v) w) (h : wpPart P ops Q S c R r (a.put o.dst v) w) : wpPart P ops Q S c R ((true, i) :: r) a w :=
  ⟨o, v, ho, hQ, .inl ⟨hw, hy⟩, h⟩
theorem wpPart_no {R : Act → World → Prop} {i : Nat} {r : List (Bool × Nat)} {a : Act} {w : World} {o : Oper} (ho : nthOp ops i = some o) (hQ : ∀ c a w, Q (.panic c) (a.put o.dst undef) w → Q (.panic c) a w)
    (hw : Region.wanted o (yielded ops.toArray a.tmps) = false) (h : wpPart P ops Q S c R r (a.put o.dst undef) w) : wpPart P ops Q S c R ((true, i) :: r) a w :=
  ⟨o, undef, ho, hQ, .inr ⟨hw, rfl⟩, h⟩
/-- A call within a part: S holds behind it. -/
theorem wpPart_call {R : Act → World → Prop} {i : Nat} {r : List (Bool × Nat)} {a : Act} {w : World} {o : Oper} (ho : nthOp ops i = some o)
    (hw : Region.wanted o (yielded ops.toArray a.tmps) = true) (h : ∀ K' : Act → World → Prop, Shut (∀ a w, S w → (S w → wpPart P ops Q S c R r a w) → K' a w) → Oper.wp P o a w K' Q) : wpPart P ops Q S c R ((false, i) :: r) a w :=
  ⟨o, ho, fun K hK => by rw [if_pos hw]; exact h K hK⟩
/-- The call at a part's end. -/
theorem wpPart_turn {R : Act → World → Prop} {a : Act} {w : World} {o : Oper} (ho : nthOp ops c = some o)
    (hw : Region.wanted o (yielded ops.toArray a.tmps) = true) (h : ∀ K' : Act → World → Prop, Shut (∀ a w, R a w → K' a w) → Oper.wp P o a w K' Q) : wpPart P ops Q S c R [] a w :=
  ⟨o, ho, fun K hK => by rw [if_pos hw]; exact h K hK⟩
end
end Go.Proofs.YtnljjdfajmjdjaaGreat
namespace Go.Proofs.YtnljjdfajmjdjaaGreat

section
variable {P : Program} {ops : List Oper} {Q : Exit → Act → World → Prop}

/-- Those of a list, which touch no world, come up first; then R. -/
def wpFirst (P : Program) (ops : List Oper) (Q : Exit → Act → World → Prop) (R : Act → World → Prop) : List Nat → Act → World → Prop
  | [], a, w => R a w
  | i :: r, a, w => ∃ o v, nthOp ops i = some o ∧ (∀ c a w, Q (.panic c) (a.put o.dst v) w → Q (.panic c) a w) ∧ Yields P ops.toArray o v a ∧ wpFirst P ops Q R r (a.put o.dst v) w
def firstOK (ops : List Oper) : List Nat → Array Bool → Bool
  | [], _ => true
  | i :: r, L => (Region.ready .any ops.toArray L).contains i && Region.free .any ops.toArray L i && firstOK ops r (L.setIfInBounds i true)
def firstL : List Nat → Array Bool → Array Bool
  | [], L => L
  | i :: r, L => firstL r (L.setIfInBounds i true)

theorem wpAny_of_first (hs : Region.noSelect ops.toArray = true) (ps : List (List (Bool × Nat) × Nat)) (l : List (Bool × Nat)) : ∀ (fs : List Nat) (L : Array Bool) (a : Act) (w : World), firstOK ops fs L = true → partsOK ops ps l (firstL fs L) = true → Down ops L →
    wpFirst P ops Q (wpParts P ops Q ps l) fs a w → wpAny P .any ops.toArray Q (fs.length + partsLen ps l) L a w
  | [], L, a, w, _, hc, hd, h => by
    rw [List.length_nil, Nat.zero_add]
    exact wpAny_of_parts hs ps l L a w hc hd h
  | i :: r, L, a, w, hf, hc, hd, h => by
    obtain ⟨o, v, ho, hQ, hy, h⟩ := h
    simp only [firstOK, Bool.and_eq_true] at hf
    have e : (i :: r).length + partsLen ps l = (r.length + partsLen ps l) + 1 := by rw [List.length_cons]; omega
    rw [e]
    exact wpAny_take (by rw [nthOp_get, ho]) hs hf.1.2 hf.1.1 hQ hy (wpAny_of_first hs ps l r _ _ _ hf.2 hc (hd.set (by simpa using hf.1.1)) h)

/-- The beginning. -/
theorem wp_region_first (fs : List Nat) (ps : List (List (Bool × Nat) × Nat)) (l : List (Bool × Nat)) {id : Nat} {a : Act} {w : World} (hm : P.follows .mixedOrders = true) (hs : Region.noSelect ops.toArray = true) (hl : Nat.beq (fs.length + partsLen ps l) ops.toArray.size = true)
    (hf : firstOK ops fs (Array.replicate ops.toArray.size false) = true) (hc : partsOK ops ps l (firstL fs (Array.replicate ops.toArray.size false)) = true) (h : wpFirst P ops Q (wpParts P ops Q ps l) fs a w.drew) : (Code.region id ops.toArray true).wp P Q a w :=
  wp_region_any hm (by
    have := wpAny_of_first hs ps l fs _ a w.drew hf hc (Down.start _) h
    rw [Nat.eq_of_beq_eq_true hl] at this
    exact this)
theorem wpFirst_nil {R : Act → World → Prop} {a : Act} {w : World} (h : R a w) : wpFirst P ops Q R [] a w := h
theorem wpFirst_yes {R : Act → World → Prop} {i : Nat} {r : List Nat} {a : Act} {w : World} {o : Oper} {v : Value} (ho : nthOp ops i = some o) (hQ : ∀ c a w, Q (.panic c) (a.put o.dst v) w → Q (.panic c) a w)
    (hw : Region.wanted o (yielded ops.toArray a.tmps) = true) (hy : ∀ w, (execOp a.eval o).run P w = .ok (.value v) w) (h : wpFirst P ops Q R r (a.put o.dst v) w) : wpFirst P ops Q R (i :: r) a w :=
  ⟨o, v, ho, hQ, .inl ⟨hw, hy⟩, h⟩
end
end Go.Proofs.YtnljjdfajmjdjaaGreat
