/-
  A region that draws its order, walked in one order: what yields the same in every world that meets S is taken as soon as it may come up; a call, a store, a new block where nothing else may come up. No program is spoken of. Conditions: those of each theorem.
  A region that draws its order and whose last stores hit what it has loaded ('x = append(x, ..)' of boxed variables), walked in few orders: what is loaded is taken as soon as it may come up; behind the late operations, each of which waits for all that is taken so, nothing more is asked of the world. No program is spoken of. Conditions: those of each theorem.
  The calls of package winmax (New, Best, old, fill, shift) answer what the document says. Conditions: the window lies in memory as New makes it, or is nil.
-/
import Derived.Test.YtcjgpkjhfbamfaaGreatJ01
import Derived.Test.YtcjgpkjhfbamfaaGreatChecked
import Derived.Deep.RegionHeld3
import Derived.KernelRfl
import Derived.WalkSpells
import Derived.WalkLawsBesides
import Derived.LoopTactic
import Derived.LoopN
import Derived.Deep.QuietTactic
import Derived.Deep.DeepCutAuto
import Derived.Deep.Draws
import Derived.BigQuiet
import Derived.Laws.ResultCell
namespace Go.Proofs.YtcjgpkjhfbamfaaGreat

def nthOp : List Oper → Nat → Option Oper
  | [], _ => none
  | o :: _, 0 => some o
  | _ :: r, n + 1 => nthOp r n
theorem nthOp_get : ∀ (l : List Oper) (i : Nat), l.toArray[i]? = nthOp l i
  | [], i => by simp [nthOp]
  | o :: r, 0 => by simp [nthOp]
  | o :: r, n + 1 => by have := nthOp_get r n; simp at this; simp [nthOp, this]

/-- Is that order one in which each that is taken first may be, and each other one comes up alone? -/
def schOK (ops : List Oper) : List (Bool × Nat) → Array Bool → Bool
  | [], listed => (Region.ready .any ops.toArray listed).isEmpty
  | (true, i) :: r, listed => (Region.ready .any ops.toArray listed).contains i && Region.free .any ops.toArray listed i && schOK ops r (listed.setIfInBounds i true)
  | (false, i) :: r, listed => (Region.ready .any ops.toArray listed == [i]) && schOK ops r (listed.setIfInBounds i true)

section
variable {P : Program} {ops : List Oper} {Q : Exit → Act → World → Prop} {S : World → Prop}

/-- The walk in that order. -/
def wpSch (P : Program) (ops : List Oper) (Q : Exit → Act → World → Prop) (S : World → Prop) : List (Bool × Nat) → Act → World → Prop
  | [], a, w => Q .normal a w
  | (true, i) :: r, a, w => ∃ o v, nthOp ops i = some o ∧ (∀ c a w, Q (.panic c) (a.put o.dst v) w → Q (.panic c) a w) ∧ YieldsIf P ops.toArray S o v a ∧ wpSch P ops Q S r (a.put o.dst v) w
  | (false, i) :: r, a, w => ∃ o, nthOp ops i = some o ∧ ∀ K' : Act → World → Prop, Shut (∀ a w, S w → (S w → wpSch P ops Q S r a w) → K' a w) →
      if Region.wanted o (yielded ops.toArray a.tmps) = true then Oper.wp P o a w K' Q else K' (a.put o.dst undef) w

theorem wpAnyH_of_sch (hs : Region.noSelect ops.toArray = true) : ∀ (l : List (Bool × Nat)) (fuel : Nat) (listed : Array Bool) (a : Act) (w : World), l.length ≤ fuel → schOK ops l listed = true → S w → wpSch P ops Q S l a w → wpAnyH P .any ops.toArray Q S fuel listed a w
  | [], fuel, listed, a, w, _, hc, _, h => wpAnyH_done (by simpa [schOK] using hc) h fuel
  | (true, i) :: r, 0, listed, a, w, hf, _, _, _ => by simp at hf
  | (false, i) :: r, 0, listed, a, w, hf, _, _, _ => by simp at hf
  | (true, i) :: r, fuel + 1, listed, a, w, hf, hc, hS, h => by
    obtain ⟨o, v, ho, hQ, hy, h⟩ := h
    simp only [schOK, Bool.and_eq_true] at hc
    exact wpAnyH_take (by rw [nthOp_get, ho]) hs hc.1.2 hc.1.1 hQ hy hS (wpAnyH_of_sch hs r fuel _ _ _ (by simp at hf; omega) hc.2 hS h)
  | (false, i) :: r, fuel + 1, listed, a, w, hf, hc, hS, h => by
    obtain ⟨o, ho, h⟩ := h
    simp only [schOK, Bool.and_eq_true, beq_iff_eq] at hc
    refine wpAnyH_ready hc.1 (by simp) (AllReadyH.cons (o := o) (by rw [nthOp_get, ho]) (fun K hK => h K (fun a w hS' hW => ?_)) AllReadyH.nil)
    exact hK.out a w hS' (fun hS' => wpAnyH_of_sch hs r fuel _ _ _ (by simp at hf; omega) hc.2 hS' (hW hS'))

/-- The beginning. -/
theorem wp_region_sch (S : World → Prop) (l : List (Bool × Nat)) {id : Nat} {a : Act} {w : World} (hm : P.follows .mixedOrders = true) (hs : Region.noSelect ops.toArray = true) (hl : Nat.ble l.length ops.toArray.size = true)
    (hc : schOK ops l (Array.replicate ops.toArray.size false) = true) (hS : S w.drew) (h : wpSch P ops Q S l a w.drew) : (Code.region id ops.toArray true).wp P Q a w :=
  wp_region_held_drew hm hS (fun hS => wpAnyH_of_sch hs l _ _ _ _ (Nat.le_of_ble_eq_true hl) hc hS h)

theorem wpSch_nil {a : Act} {w : World} (h : Q .normal a w) : wpSch P ops Q S [] a w := h
/-- One that is wanted, and yields. -/
theorem wpSch_yes {i : Nat} {r : List (Bool × Nat)} {a : Act} {w : World} {o : Oper} {v : Value} (ho : nthOp ops i = some o) (hQ : ∀ c a w, Q (.panic c) (a.put o.dst v) w → Q (.panic c) a w)
    (hw : Region.wanted o (yielded ops.toArray a.tmps) = true) (hy : ∀ w, S w → (execOp a.eval o).run P w = .ok (.value v) w) (h : wpSch P ops Q S r (a.put o.dst v) w) : wpSch P ops Q S ((true, i) :: r) a w :=
  ⟨o, v, ho, hQ, .inl ⟨hw, hy⟩, h⟩
/-- One that is not wanted. -/
theorem wpSch_no {i : Nat} {r : List (Bool × Nat)} {a : Act} {w : World} {o : Oper} (ho : nthOp ops i = some o) (hQ : ∀ c a w, Q (.panic c) (a.put o.dst undef) w → Q (.panic c) a w)
    (hw : Region.wanted o (yielded ops.toArray a.tmps) = false) (h : wpSch P ops Q S r (a.put o.dst undef) w) : wpSch P ops Q S ((true, i) :: r) a w :=
  ⟨o, undef, ho, hQ, .inr ⟨hw, rfl⟩, h⟩
/-- One that is not wanted, a call. -/
theorem wpSch_not {i : Nat} {r : List (Bool × Nat)} {a : Act} {w : World} {o : Oper} (ho : nthOp ops i = some o)
    (hw : Region.wanted o (yielded ops.toArray a.tmps) = false) (hS : S w) (h : wpSch P ops Q S r (a.put o.dst undef) w) : wpSch P ops Q S ((false, i) :: r) a w :=
  ⟨o, ho, fun K hK => by rw [if_neg (by rw [hw]; simp)]; exact hK.out _ _ hS (fun _ => h)⟩
/-- A call that is wanted. -/
theorem wpSch_call {i : Nat} {r : List (Bool × Nat)} {a : Act} {w : World} {o : Oper} (ho : nthOp ops i = some o)
    (hw : Region.wanted o (yielded ops.toArray a.tmps) = true) (h : ∀ K' : Act → World → Prop, Shut (∀ a w, S w → (S w → wpSch P ops Q S r a w) → K' a w) → Oper.wp P o a w K' Q) : wpSch P ops Q S ((false, i) :: r) a w :=
  ⟨o, ho, fun K hK => by rw [if_pos hw]; exact h K hK⟩
end

/-! ### where two may come up -/
/-- An order: 'yes': it is taken as soon as it may be; 'one': it comes up alone; 'two': one of two comes up. -/
inductive Sch where
  | nil
  | yes (i : Nat) (r : Sch)
  | one (i : Nat) (r : Sch)
  | two (i : Nat) (r : Sch) (j : Nat) (s : Sch)
def Sch.len : Sch → Nat
  | .nil => 0
  | .yes _ r => r.len + 1
  | .one _ r => r.len + 1
  | .two _ r _ s => max r.len s.len + 1
def schOK2 (ops : List Oper) : Sch → Array Bool → Bool
  | .nil, listed => (Region.ready .any ops.toArray listed).isEmpty
  | .yes i r, listed => (Region.ready .any ops.toArray listed).contains i && Region.free .any ops.toArray listed i && schOK2 ops r (listed.setIfInBounds i true)
  | .one i r, listed => (Region.ready .any ops.toArray listed == [i]) && schOK2 ops r (listed.setIfInBounds i true)
  | .two i r j s, listed => (Region.ready .any ops.toArray listed == [i, j]) && schOK2 ops r (listed.setIfInBounds i true) && schOK2 ops s (listed.setIfInBounds j true)
section
variable {P : Program} {ops : List Oper} {Q : Exit → Act → World → Prop} {S : World → Prop}
def wpOne (P : Program) (ops : List Oper) (Q : Exit → Act → World → Prop) (S : World → Prop) (i : Nat) (R : Act → World → Prop) (a : Act) (w : World) : Prop :=
  ∃ o, nthOp ops i = some o ∧ ∀ K' : Act → World → Prop, Shut (∀ a w, S w → (S w → R a w) → K' a w) →
      if Region.wanted o (yielded ops.toArray a.tmps) = true then Oper.wp P o a w K' Q else K' (a.put o.dst undef) w
def wpSch2 (P : Program) (ops : List Oper) (Q : Exit → Act → World → Prop) (S : World → Prop) : Sch → Act → World → Prop
  | .nil, a, w => Q .normal a w
  | .yes i r, a, w => ∃ o v, nthOp ops i = some o ∧ (∀ c a w, Q (.panic c) (a.put o.dst v) w → Q (.panic c) a w) ∧ YieldsIf P ops.toArray S o v a ∧ wpSch2 P ops Q S r (a.put o.dst v) w
  | .one i r, a, w => wpOne P ops Q S i (wpSch2 P ops Q S r) a w
  | .two i r j s, a, w => wpOne P ops Q S i (wpSch2 P ops Q S r) a w ∧ wpOne P ops Q S j (wpSch2 P ops Q S s) a w
theorem wpAnyH_of_sch2 (hs : Region.noSelect ops.toArray = true) : ∀ (l : Sch) (fuel : Nat) (listed : Array Bool) (a : Act) (w : World), l.len ≤ fuel → schOK2 ops l listed = true → S w → wpSch2 P ops Q S l a w → wpAnyH P .any ops.toArray Q S fuel listed a w
  | .nil, fuel, listed, a, w, _, hc, _, h => wpAnyH_done (by simpa [schOK2] using hc) h fuel
  | .yes _ _, 0, _, _, _, hf, _, _, _ => by simp [Sch.len] at hf
  | .one _ _, 0, _, _, _, hf, _, _, _ => by simp [Sch.len] at hf
  | .two _ _ _ _, 0, _, _, _, hf, _, _, _ => by simp [Sch.len] at hf
  | .yes i r, fuel + 1, listed, a, w, hf, hc, hS, h => by
    obtain ⟨o, v, ho, hQ, hy, h⟩ := h
    simp only [schOK2, Bool.and_eq_true] at hc
    exact wpAnyH_take (by rw [nthOp_get, ho]) hs hc.1.2 hc.1.1 hQ hy hS (wpAnyH_of_sch2 hs r fuel _ _ _ (by simp [Sch.len] at hf; omega) hc.2 hS h)
  | .one i r, fuel + 1, listed, a, w, hf, hc, hS, h => by
    obtain ⟨o, ho, h⟩ := h
    simp only [schOK2, Bool.and_eq_true, beq_iff_eq] at hc
    refine wpAnyH_ready hc.1 (by simp) (AllReadyH.cons (o := o) (by rw [nthOp_get, ho]) (fun K hK => h K (fun a w hS' hW => ?_)) AllReadyH.nil)
    exact hK.out a w hS' (fun hS' => wpAnyH_of_sch2 hs r fuel _ _ _ (by simp [Sch.len] at hf; omega) hc.2 hS' (hW hS'))
  | .two i r j s, fuel + 1, listed, a, w, hf, hc, hS, h => by
    obtain ⟨⟨o, ho, h⟩, ⟨o', ho', h'⟩⟩ := h
    simp only [schOK2, Bool.and_eq_true, beq_iff_eq] at hc
    refine wpAnyH_ready hc.1.1 (by simp) (AllReadyH.cons (o := o) (by rw [nthOp_get, ho]) (fun K hK => h K (fun a w hS' hW => ?_)) (AllReadyH.cons (o := o') (by rw [nthOp_get, ho']) (fun K hK => h' K (fun a w hS' hW => ?_)) AllReadyH.nil))
    · exact hK.out a w hS' (fun hS' => wpAnyH_of_sch2 hs r fuel _ _ _ (by simp [Sch.len] at hf; omega) hc.1.2 hS' (hW hS'))
    · exact hK.out a w hS' (fun hS' => wpAnyH_of_sch2 hs s fuel _ _ _ (by simp [Sch.len] at hf; omega) hc.2 hS' (hW hS'))
theorem wp_region_sch2 (S : World → Prop) (l : Sch) {id : Nat} {a : Act} {w : World} (hm : P.follows .mixedOrders = true) (hs : Region.noSelect ops.toArray = true) (hl : Nat.ble l.len ops.toArray.size = true)
    (hc : schOK2 ops l (Array.replicate ops.toArray.size false) = true) (hS : S w.drew) (h : wpSch2 P ops Q S l a w.drew) : (Code.region id ops.toArray true).wp P Q a w :=
  wp_region_held_drew hm hS (fun hS => wpAnyH_of_sch2 hs l _ _ _ _ (Nat.le_of_ble_eq_true hl) hc hS h)
theorem wpSch2_nil {a : Act} {w : World} (h : Q .normal a w) : wpSch2 P ops Q S .nil a w := h
theorem wpSch2_yes {i : Nat} {r : Sch} {a : Act} {w : World} {o : Oper} {v : Value} (ho : nthOp ops i = some o) (hQ : ∀ c a w, Q (.panic c) (a.put o.dst v) w → Q (.panic c) a w)
    (hw : Region.wanted o (yielded ops.toArray a.tmps) = true) (hy : ∀ w, S w → (execOp a.eval o).run P w = .ok (.value v) w) (h : wpSch2 P ops Q S r (a.put o.dst v) w) : wpSch2 P ops Q S (.yes i r) a w :=
  ⟨o, v, ho, hQ, .inl ⟨hw, hy⟩, h⟩
theorem wpOne_call {i : Nat} {R : Act → World → Prop} {a : Act} {w : World} {o : Oper} (ho : nthOp ops i = some o)
    (hw : Region.wanted o (yielded ops.toArray a.tmps) = true) (h : ∀ K' : Act → World → Prop, Shut (∀ a w, S w → (S w → R a w) → K' a w) → Oper.wp P o a w K' Q) : wpOne P ops Q S i R a w :=
  ⟨o, ho, fun K hK => by rw [if_pos hw]; exact h K hK⟩
theorem wpSch2_one {i : Nat} {r : Sch} {a : Act} {w : World} (h : wpOne P ops Q S i (wpSch2 P ops Q S r) a w) : wpSch2 P ops Q S (.one i r) a w := h
theorem wpSch2_two {i j : Nat} {r s : Sch} {a : Act} {w : World} (h : wpOne P ops Q S i (wpSch2 P ops Q S r) a w) (h' : wpOne P ops Q S j (wpSch2 P ops Q S s) a w) : wpSch2 P ops Q S (.two i r j s) a w := ⟨h, h'⟩
end
end Go.Proofs.YtcjgpkjhfbamfaaGreat
namespace Go.Proofs.YtcjgpkjhfbamfaaGreat

section
variable {P : Program} {ops : List Oper} {Q : Exit → Act → World → Prop} {S : World → Prop} {late : List Nat}

def wpAnyL (P : Program) (ops : List Oper) (Q : Exit → Act → World → Prop) (S : World → Prop) (late : List Nat) : Nat → Array Bool → Act → World → Prop
  | 0, listed, a, w => Region.ready .any ops.toArray listed = [] ∧ Q .normal a w
  | fuel + 1, listed, a, w => (Region.ready .any ops.toArray listed = [] → Q .normal a w) ∧
      ∀ i ∈ Region.ready .any ops.toArray listed, wpOp P ops.toArray Q i (fun a' w' => (late.contains i = false → S w') ∧ wpAnyL P ops Q S late fuel (listed.setIfInBounds i true) a' w') a w

theorem wpAny_of_late : ∀ (fuel : Nat) (listed : Array Bool) (a : Act) (w : World), wpAnyL P ops Q S late fuel listed a w → wpAny P .any ops.toArray Q fuel listed a w
  | 0, _, _, _, h => h
  | fuel + 1, _, _, _, h => ⟨h.1, fun i hi => wpOp_mono (fun a' w' h' => wpAny_of_late fuel _ a' w' h'.2) (h.2 i hi)⟩

/-- Does number j wait for number i, be it by others? -/
def waits (ops : List Oper) (i : Nat) : Nat → Nat → Bool
  | 0, _ => false
  | n + 1, j => match nthOp ops j with
    | none => false
    | some o => o.after.toList.any fun e => Region.binds .any e && (e.on == i || waits ops i n e.on)
/-- Whatever has come up, what it waits for has. -/
def Down (ops : List Oper) (L : Array Bool) : Prop := ∀ j o, ops.toArray[j]? = some o → L.getD j false = true → ∀ e ∈ o.after, Region.binds .any e = true → L.getD e.on false = true
theorem waits_down {L : Array Bool} (hd : Down ops L) {i : Nat} : ∀ (n j : Nat) (o : Oper), ops.toArray[j]? = some o → (∀ e ∈ o.after, Region.binds .any e = true → L.getD e.on false = true) → waits ops i n j = true → L.getD i false = true
  | 0, _, _, _, _, h => by simp [waits] at h
  | n + 1, j, o, ho, hall, h => by
    rw [nthOp_get] at ho
    simp only [waits, ho, List.any_eq_true, Bool.and_eq_true, Bool.or_eq_true, beq_iff_eq] at h
    obtain ⟨e, he, hb, h⟩ := h
    have he' : e ∈ o.after := by simpa using he
    have hl := hall e he' hb
    rcases h with rfl | h
    · exact hl
    · cases hx : ops.toArray[e.on]? with
      | none =>
        rw [nthOp_get] at hx
        cases n with
        | zero => simp [waits] at h
        | succ n => simp [waits, hx] at h
      | some o' => exact waits_down hd n e.on o' hx (hd _ _ hx hl) h
theorem Down.start (n : Nat) : Down ops (Array.replicate n false) := fun j o _ h => by
  by_cases hj : j < n
  · simp [hj] at h
  · simp [hj] at h
theorem Down.set {L : Array Bool} (hd : Down ops L) {j : Nat} (hj : j ∈ Region.ready .any ops.toArray L) : Down ops (L.setIfInBounds j true) := fun k o hk h e he hb => by
  by_cases hjk : j = k
  · subst hjk
    obtain ⟨_, o', ho', hall⟩ := mem_ready.1 hj
    rw [ho'] at hk; cases hk
    exact getD_set_true (hall e he hb)
  · rw [getD_set_ne false hjk] at h
    exact getD_set_true (hd k o hk h e he hb)
theorem not_listed {L : Array Bool} {i : Nat} (hi : i ∈ Region.ready .any ops.toArray L) : L.getD i false = false := by
  have h := (mem_ready.1 hi).1
  by_cases hj : i < L.size
  · simpa [hj] using h
  · simp [hj] at h

theorem wpAnyL_first {i : Nat} {oi : Oper} {v : Value} (hi : ops.toArray[i]? = some oi) (hsel : ∀ (j : Nat) (o : Oper) cs b, ops.toArray[j]? = some o → o.op ≠ .select cs b)
    (hQ : ∀ c a w, Q (.panic c) (a.put oi.dst v) w → Q (.panic c) a w) {n : Nat} (hw : ∀ j ∈ late, waits ops i n j = true) :
    ∀ (fuel : Nat) (L : Array Bool) (a : Act) (w : World), Down ops L →
      (∀ j oj, ops.toArray[j]? = some oj → j ≠ i → L.getD j true = false → (∀ e ∈ oj.after, Region.binds .any e = true → e.on ≠ i) → oi.apart ops.toArray oj = true) →
      i ∈ Region.ready .any ops.toArray L → YieldsIf P ops.toArray S oi v a → S w →
      wpAnyL P ops Q S late fuel (L.setIfInBounds i true) (a.put oi.dst v) w → wpAnyL P ops Q S late (fuel + 1) L a w := by
  intro fuel
  induction fuel with
  | zero =>
    intro L a w _ _ hr hy hS H
    refine ⟨fun h => (by rw [h] at hr; cases hr), fun j hj => ?_⟩
    by_cases hji : j = i
    · subst hji; exact hy.wpOp hi hS ⟨fun _ => hS, H⟩
    · have h0 := ready_mono hj hji
      rw [H.1] at h0
      cases h0
  | succ fuel ih =>
    intro L a w hd hfree hr hy hS H
    refine ⟨fun h => (by rw [h] at hr; cases hr), fun j hj => ?_⟩
    by_cases hji : j = i
    · subst hji; exact hy.wpOp hi hS ⟨fun _ => hS, H⟩
    obtain ⟨hjun, oj, hoj, hall⟩ := mem_ready.1 hj
    have hun := not_listed hr
    have hnl : late.contains j = false := by
      cases hc : late.contains j with
      | false => rfl
      | true =>
        have := waits_down hd n j oj hoj hall (hw j (by simpa using hc))
        rw [hun] at this; cases this
    have hnot : ∀ e ∈ oj.after, Region.binds .any e = true → e.on ≠ i := fun e he hb heq => by
      have h1 := hall e he hb
      rw [heq, hun] at h1; cases h1
    have h2 := wpOp_putIf hoj (hfree j oj hoj hji hjun hnot) (fun cs b => hsel i oi cs b hi) (fun cs b => hsel j oj cs b hoj) hQ hy (H.2 j (ready_mono hj hji))
    refine wpOp_mono (fun a' w' h3 => ⟨h3.2.1, ih _ a' w' (hd.set hj) (fun k ok hk hki hun' hno => hfree k ok hk hki ?_ hno) (ready_mono hr (Ne.symm hji)) h3.1 (h3.2.1 hnl) ?_⟩) h2
    · by_cases hjk : j = k
      · subst hjk; exact hjun
      · rwa [getD_set_ne true hjk] at hun'
    · rw [Array.setIfInBounds_comm _ _ hji]; exact h3.2.2

def early (late : List Nat) (L : Array Bool) : Bool := late.all fun j => !(L.getD j false)
def schOKL (ops : List Oper) (late : List Nat) : Sch → Array Bool → Bool
  | .nil, L => (Region.ready .any ops.toArray L).isEmpty
  | .yes i r, L => early late L && (late.all fun j => waits ops i ops.length j) && (Region.ready .any ops.toArray L).contains i && Region.free .any ops.toArray L i && schOKL ops late r (L.setIfInBounds i true)
  | .one i r, L => (Region.ready .any ops.toArray L == [i]) && schOKL ops late r (L.setIfInBounds i true)
  | .two i r j s, L => (Region.ready .any ops.toArray L == [i, j]) && schOKL ops late r (L.setIfInBounds i true) && schOKL ops late s (L.setIfInBounds j true)
def wpOneL (P : Program) (ops : List Oper) (Q : Exit → Act → World → Prop) (S : World → Prop) (late : List Nat) (i : Nat) (R : Act → World → Prop) (a : Act) (w : World) : Prop :=
  ∃ o, nthOp ops i = some o ∧ ∀ K' : Act → World → Prop, Shut (∀ a w, (late.contains i = false → S w) → ((late.contains i = false → S w) → R a w) → K' a w) →
      if Region.wanted o (yielded ops.toArray a.tmps) = true then Oper.wp P o a w K' Q else K' (a.put o.dst undef) w
def wpSchL (P : Program) (ops : List Oper) (Q : Exit → Act → World → Prop) (S : World → Prop) (late : List Nat) : Sch → Act → World → Prop
  | .nil, a, w => Q .normal a w
  | .yes i r, a, w => ∃ o v, nthOp ops i = some o ∧ (∀ c a w, Q (.panic c) (a.put o.dst v) w → Q (.panic c) a w) ∧ YieldsIf P ops.toArray S o v a ∧ wpSchL P ops Q S late r (a.put o.dst v) w
  | .one i r, a, w => wpOneL P ops Q S late i (wpSchL P ops Q S late r) a w
  | .two i r j s, a, w => wpOneL P ops Q S late i (wpSchL P ops Q S late r) a w ∧ wpOneL P ops Q S late j (wpSchL P ops Q S late s) a w

theorem wpOp_of_oneL {i : Nat} {a : Act} {w : World} {R R' : Act → World → Prop} (h : wpOneL P ops Q S late i R a w) (hR : ∀ a w, (late.contains i = false → S w) → R a w → R' a w) :
    wpOp P ops.toArray Q i (fun a' w' => (late.contains i = false → S w') ∧ R' a' w') a w := by
  obtain ⟨o, ho, h⟩ := h
  unfold wpOp
  rw [nthOp_get, ho]
  have := h (fun a' w' => (late.contains i = false → S w') ∧ R' a' w') (fun a w hs hr => ⟨hs, hR a w hs (hr hs)⟩)
  dsimp only
  split
  · rename_i hw; rw [if_pos hw] at this; exact .inl this
  · rename_i hw; rw [if_neg hw] at this; exact this

theorem early_set {L : Array Bool} {i : Nat} (hi : i ∈ Region.ready .any ops.toArray L) (h : early late (L.setIfInBounds i true) = true) : late.contains i = false := by
  cases hc : late.contains i with
  | false => rfl
  | true =>
    have hm : i ∈ late := by simpa using hc
    have h1 := List.all_eq_true.1 h i hm
    have hlt : i < L.size := by
      have h := (mem_ready.1 hi).1
      by_cases hj : i < L.size
      · exact hj
      · simp [hj] at h
    simp [hlt] at h1

theorem wpAnyL_of_sch (hs : Region.noSelect ops.toArray = true) : ∀ (l : Sch) (fuel : Nat) (L : Array Bool) (a : Act) (w : World), l.len ≤ fuel → schOKL ops late l L = true → Down ops L → (early late L = true → S w) → wpSchL P ops Q S late l a w → wpAnyL P ops Q S late fuel L a w
  | .nil, fuel, L, a, w, _, hc, _, _, h => by
    have hr : Region.ready .any ops.toArray L = [] := by simpa [schOKL] using hc
    cases fuel with
    | zero => exact ⟨hr, h⟩
    | succ n => exact ⟨fun _ => h, by rw [hr]; simp⟩
  | .yes _ _, 0, _, _, _, hf, _, _, _, _ => by simp [Sch.len] at hf
  | .one _ _, 0, _, _, _, hf, _, _, _, _ => by simp [Sch.len] at hf
  | .two _ _ _ _, 0, _, _, _, hf, _, _, _, _ => by simp [Sch.len] at hf
  | .yes i r, fuel + 1, L, a, w, hf, hc, hd, hS, h => by
    obtain ⟨o, v, ho, hQ, hy, h⟩ := h
    simp only [schOKL, Bool.and_eq_true] at hc
    obtain ⟨⟨⟨⟨c1, c2⟩, c3⟩, c4⟩, c5⟩ := hc
    have hr : i ∈ Region.ready .any ops.toArray L := by simpa using c3
    have hi : ops.toArray[i]? = some o := by rw [nthOp_get, ho]
    exact wpAnyL_first hi (Region.noSelect_spec hs) hQ (fun j hj => List.all_eq_true.1 c2 j hj) fuel L a w hd (Region.free_spec hi c4) hr hy (hS c1)
      (wpAnyL_of_sch hs r fuel _ _ _ (by simp [Sch.len] at hf; omega) c5 (hd.set hr) (fun _ => hS c1) h)
  | .one i r, fuel + 1, L, a, w, hf, hc, hd, hS, h => by
    simp only [schOKL, Bool.and_eq_true, beq_iff_eq] at hc
    refine ⟨fun h0 => (by rw [hc.1] at h0; cases h0), fun j hj => ?_⟩
    have hj0 := hj
    rw [hc.1, List.mem_singleton] at hj
    subst hj
    exact wpOp_of_oneL h (fun a w hs' h => wpAnyL_of_sch hs r fuel _ _ _ (by simp [Sch.len] at hf; omega) hc.2 (hd.set hj0) (fun he => hs' (early_set hj0 he)) h)
  | .two i r j s, fuel + 1, L, a, w, hf, hc, hd, hS, h => by
    simp only [schOKL, Bool.and_eq_true, beq_iff_eq] at hc
    refine ⟨fun h0 => (by rw [hc.1.1] at h0; cases h0), fun k hk => ?_⟩
    have hk0 := hk
    rw [hc.1.1] at hk
    simp only [List.mem_cons, List.not_mem_nil, or_false] at hk
    rcases hk with rfl | rfl
    · exact wpOp_of_oneL h.1 (fun a w hs' h => wpAnyL_of_sch hs r fuel _ _ _ (by simp [Sch.len] at hf; omega) hc.1.2 (hd.set hk0) (fun he => hs' (early_set hk0 he)) h)
    · exact wpOp_of_oneL h.2 (fun a w hs' h => wpAnyL_of_sch hs s fuel _ _ _ (by simp [Sch.len] at hf; omega) hc.2 (hd.set hk0) (fun he => hs' (early_set hk0 he)) h)

/-- The beginning. -/
theorem wp_region_late (S : World → Prop) (late : List Nat) (l : Sch) {id : Nat} {a : Act} {w : World} (hm : P.follows .mixedOrders = true) (hs : Region.noSelect ops.toArray = true) (hl : Nat.ble l.len ops.toArray.size = true)
    (hc : schOKL ops late l (Array.replicate ops.toArray.size false) = true) (hS : S w.drew) (h : wpSchL P ops Q S late l a w.drew) : (Code.region id ops.toArray true).wp P Q a w :=
  wp_region_any hm (wpAny_of_late (S := S) (late := late) _ _ _ _ (wpAnyL_of_sch hs l _ _ _ _ (Nat.le_of_ble_eq_true hl) hc (Down.start _) (fun _ => hS) h))

theorem wpSchL_nil {a : Act} {w : World} (h : Q .normal a w) : wpSchL P ops Q S late .nil a w := h
theorem wpSchL_yes {i : Nat} {r : Sch} {a : Act} {w : World} {o : Oper} {v : Value} (ho : nthOp ops i = some o) (hQ : ∀ c a w, Q (.panic c) (a.put o.dst v) w → Q (.panic c) a w)
    (hw : Region.wanted o (yielded ops.toArray a.tmps) = true) (hy : ∀ w, S w → (execOp a.eval o).run P w = .ok (.value v) w) (h : wpSchL P ops Q S late r (a.put o.dst v) w) : wpSchL P ops Q S late (.yes i r) a w :=
  ⟨o, v, ho, hQ, .inl ⟨hw, hy⟩, h⟩
theorem wpOneL_call {i : Nat} {R : Act → World → Prop} {a : Act} {w : World} {o : Oper} (ho : nthOp ops i = some o)
    (hw : Region.wanted o (yielded ops.toArray a.tmps) = true) (h : ∀ K' : Act → World → Prop, Shut (∀ a w, (late.contains i = false → S w) → ((late.contains i = false → S w) → R a w) → K' a w) → Oper.wp P o a w K' Q) : wpOneL P ops Q S late i R a w :=
  ⟨o, ho, fun K hK => by rw [if_pos hw]; exact h K hK⟩
theorem wpSchL_one {i : Nat} {r : Sch} {a : Act} {w : World} (h : wpOneL P ops Q S late i (wpSchL P ops Q S late r) a w) : wpSchL P ops Q S late (.one i r) a w := h
theorem wpSchL_two {i j : Nat} {r s : Sch} {a : Act} {w : World} (h : wpOneL P ops Q S late i (wpSchL P ops Q S late r) a w) (h' : wpOneL P ops Q S late j (wpSchL P ops Q S late s) a w) : wpSchL P ops Q S late (.two i r j s) a w := ⟨h, h'⟩
end
end Go.Proofs.YtcjgpkjhfbamfaaGreat
namespace Go.Proofs.YtcjgpkjhfbamfaaGreat
open Go.RowKit
set_option maxRecDepth 100000
variable {Fm : Fr} {oo : Nat}

def maxC (win : Int) (x : Tri) : Array Value := #[.int .u64 win, .int .u64 x.l, .int .u64 x.t0, .int .u64 x.v0, .int .u64 x.t1, .int .u64 x.v1, .int .u64 x.t2, .int .u64 x.v2]
/-- A window of package winmax. -/
structure MaxAt (Fm : Fr) (oo : Nat) (w : World) (g : Nat) (win : Int) (x : Tri) : Prop where
  whole : Part Fm oo w g (maxC win x).toList
  fit : x.Fit
  win : Num win
section
variable {w w' : World} {g : Nat} {win : Int} {x : Tri} {R : Nat → Prop}
theorem MaxAt.keep (h : MaxAt Fm oo w g win x) (hk : Keep R w w') (hg : ¬ R g) : MaxAt Fm oo w' g win x := ⟨h.whole.keep hk hg, h.fit, h.win⟩
theorem MaxAt.kept (h : MaxAt Fm oo w g win x) (hk : Keep (fun _ => False) w w') : MaxAt Fm oo w' g win x := h.keep hk id
theorem MaxAt.drewN (h : MaxAt Fm oo w g win x) (m : Nat) : MaxAt Fm oo (w.drewN m) g win x := ⟨h.whole.drewN m, h.fit, h.win⟩
theorem MaxAt.drew (h : MaxAt Fm oo w g win x) : MaxAt Fm oo w.drew g win x := ⟨h.whole.drew, h.fit, h.win⟩
theorem MaxAt.alloc (h : MaxAt Fm oo w g win x) (o : Obj) : MaxAt Fm oo (w.alloc o) g win x := ⟨h.whole.alloc o, h.fit, h.win⟩
theorem MaxAt.lt (h : MaxAt Fm oo w g win x) : g < w.heap.size := h.whole.lt
end

set_option maxHeartbeats 400000 in
theorem xnew_any (win : Int) (hw : Num win) (w : World) : Calls Tryz.prog 12 #[.int .u64 win] w fun e w' => e = .returned (.pointer (some ⟨w.heap.size, 0, none⟩)) ∧ MaxAt ⟨42, [], []⟩ 0 w' w.heap.size win (newT 0) ∧ Keep (fun _ => False) w w' := by
  have HW := Lib.hid hw; clear hw
  go_enter Tryz.func12, Tryz.ntmps12
  go_wp2
  go_ret
  exact ⟨rfl, ⟨Part.of_whole (Whole.new _ _ _), fit_new ⟨by omega, by omega⟩, HW.out⟩, (Keep.refl _ _).alloc _⟩

theorem xbest_nil (w : World) : Calls Tryz.prog 34 #[.pointer none] w fun e w' => e = .returned (.int .u64 0) ∧ w = w' := by
  go_enter Tryz.func34, Tryz.ntmps34
  go_wp2
  go_ret
  exact ⟨rfl, rfl⟩
set_option maxHeartbeats 400000 in
theorem xbest_any (g : Nat) (win : Int) (x : Tri) (w : World) (h : MaxAt Fm oo w g win x) : Calls Tryz.prog 34 #[.pointer (some ⟨g, oo, none⟩)] w fun e w' => e = .returned (.int .u64 x.v0) ∧ w = w' := by
  have c3 : w.cell? ⟨g, oo + 3, none⟩ = some (.int .u64 x.v0) := h.whole.cell 3
  clear h
  go_enter Tryz.func34, Tryz.ntmps34
  go_wp2
  go_ret
  exact ⟨rfl, rfl⟩

set_option maxHeartbeats 400000 in
theorem old0_any (g : Nat) (win t : Int) (x : Tri) (w : World) (h : MaxAt Fm oo w g win x) (ht : x.l ≤ t) (ht1 : t ≤ 18446744073709551615) :
    Calls Tryz.prog 107 #[.pointer (some ⟨g, oo, none⟩), .int .i64 0, .int .u64 t] w fun e w' => e = .returned (.bool (decide (win < t - x.t0))) ∧ Keep (fun _ => False) w w' := by
  have c0 : w.cell? ⟨g, oo, none⟩ = some (.int .u64 win) := h.whole.cell0
  have c1 : w.cell? ⟨g, oo + 2, none⟩ = some (.int .u64 x.t0) := h.whole.cell 2
  have hb := h.fit.a0
  clear h
  go_enter Tryz.func107, Tryz.ntmps107
  go_wp2
  go_quiet (fail)
  go_wp2
  go_ret
  exact ⟨rfl, (Keep.refl _ _).drewN _⟩
set_option maxHeartbeats 400000 in
theorem old2_any (g : Nat) (win t : Int) (x : Tri) (w : World) (h : MaxAt Fm oo w g win x) (ht : x.l ≤ t) (ht1 : t ≤ 18446744073709551615) :
    Calls Tryz.prog 107 #[.pointer (some ⟨g, oo, none⟩), .int .i64 2, .int .u64 t] w fun e w' => e = .returned (.bool (decide (win < t - x.t2))) ∧ Keep (fun _ => False) w w' := by
  have c0 : w.cell? ⟨g, oo, none⟩ = some (.int .u64 win) := h.whole.cell0
  have c1 : w.cell? ⟨g, oo + 6, none⟩ = some (.int .u64 x.t2) := h.whole.cell 6
  have hb := h.fit.a2
  clear h
  go_enter Tryz.func107, Tryz.ntmps107
  go_wp2
  go_quiet (fail)
  go_wp2
  go_ret
  exact ⟨rfl, (Keep.refl _ _).drewN _⟩
end Go.Proofs.YtcjgpkjhfbamfaaGreat
