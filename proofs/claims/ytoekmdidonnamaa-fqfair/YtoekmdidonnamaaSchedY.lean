/-
  A region that draws its order, within a round of a range over a function, one call of which is the yield of another round: walked in one order; behind the late operations nothing more is asked of the world. No program is spoken of. Conditions: those of each theorem.
-/
import Derived.Test.YtoekmdidonnamaaSchedL
import Derived.Test.YtoekmdidonnamaaSchedIn
namespace Go.Proofs.Ytoekmdidonnamaa

section
variable {P : Program} {ops : List Oper} {Q : Exit → Act → World → Prop} {S : World → Prop} {late : List Nat} {n' l : Nat}

def wpAnyY (n l : Nat) (P : Program) (ops : List Oper) (Q : Exit → Act → World → Prop) (S : World → Prop) (late : List Nat) : Nat → Array Bool → Act → World → Prop
  | 0, listed, a, w => Region.ready .any ops.toArray listed = [] ∧ Q .normal a w
  | fuel + 1, listed, a, w => (Region.ready .any ops.toArray listed = [] → Q .normal a w) ∧
      ∀ i ∈ Region.ready .any ops.toArray listed, if late.contains i = true then wpOpIn (Fence.wide.inRound l) n P ops.toArray Q i (fun a' w' => wpAnyY n l P ops Q S late fuel (listed.setIfInBounds i true) a' w') a w
        else wpOp P ops.toArray Q i (fun a' w' => S w' ∧ wpAnyY n l P ops Q S late fuel (listed.setIfInBounds i true) a' w') a w

theorem wpAnyIn_of_Y (hL : ¬ LetsOut Q) (hd : ∀ (i : Nat) (o : Oper), ops.toArray[i]? = some o → ∀ c, o.op ≠ .defer c) : ∀ (fuel : Nat) (listed : Array Bool) (a : Act) (w : World), wpAnyY n' l P ops Q S late fuel listed a w → wpAnyIn (Fence.wide.inRound l) n' P .any ops.toArray Q fuel listed a w
  | 0, _, _, _, h => h
  | fuel + 1, _, _, _, h => ⟨h.1, fun i hi => by
    have h2 := h.2 i hi
    split at h2
    · exact wpOpIn_mono (fun a' w' h' => wpAnyIn_of_Y hL hd fuel _ a' w' h') h2
    · exact wpOpIn_round hL hd (wpOp_mono (fun a' w' h' => wpAnyIn_of_Y hL hd fuel _ a' w' h'.2) h2)⟩

theorem wpAnyY_first {i : Nat} {oi : Oper} {v : Value} (hi : ops.toArray[i]? = some oi) (hsel : ∀ (j : Nat) (o : Oper) cs b, ops.toArray[j]? = some o → o.op ≠ .select cs b)
    (hQ : ∀ c a w, Q (.panic c) (a.put oi.dst v) w → Q (.panic c) a w) {n : Nat} (hw : ∀ j ∈ late, waits ops i n j = true) (hli : late.contains i = false) :
    ∀ (fuel : Nat) (L : Array Bool) (a : Act) (w : World), Down ops L →
      (∀ j oj, ops.toArray[j]? = some oj → j ≠ i → L.getD j true = false → (∀ e ∈ oj.after, Region.binds .any e = true → e.on ≠ i) → oi.apart ops.toArray oj = true) →
      i ∈ Region.ready .any ops.toArray L → YieldsIf P ops.toArray S oi v a → S w →
      wpAnyY n' l P ops Q S late fuel (L.setIfInBounds i true) (a.put oi.dst v) w → wpAnyY n' l P ops Q S late (fuel + 1) L a w := by
  intro fuel
  induction fuel with
  | zero =>
    intro L a w _ _ hr hy hS H
    refine ⟨fun h => (by rw [h] at hr; cases hr), fun j hj => ?_⟩
    by_cases hji : j = i
    · subst hji; rw [if_neg (by rw [hli]; simp)]; exact hy.wpOp hi hS ⟨hS, H⟩
    · have h0 := ready_mono hj hji
      rw [H.1] at h0
      cases h0
  | succ fuel ih =>
    intro L a w hd hfree hr hy hS H
    refine ⟨fun h => (by rw [h] at hr; cases hr), fun j hj => ?_⟩
    by_cases hji : j = i
    · subst hji; rw [if_neg (by rw [hli]; simp)]; exact hy.wpOp hi hS ⟨hS, H⟩
    obtain ⟨hjun, oj, hoj, hall⟩ := mem_ready.1 hj
    have hun := not_listed hr
    have hnl : late.contains j = false := by
      cases hc : late.contains j with
      | false => rfl
      | true =>
        have := waits_down hd n j oj hoj hall (hw j (by simpa using hc))
        rw [hun] at this; cases this
    have hnot : ∀ e ∈ oj.after, Region.binds .any e = true → e.on ≠ i := fun e he hb heq => by
      have h1 := hall e he hb
      rw [heq, hun] at h1; cases h1
    have HJ := H.2 j (ready_mono hj hji)
    rw [if_neg (by rw [hnl]; simp)] at HJ ⊢
    have h2 := wpOp_putIf hoj (hfree j oj hoj hji hjun hnot) (fun cs b => hsel i oi cs b hi) (fun cs b => hsel j oj cs b hoj) hQ hy HJ
    refine wpOp_mono (fun a' w' h3 => ⟨h3.2.1, ih _ a' w' (hd.set hj) (fun k ok hk hki hun' hno => hfree k ok hk hki ?_ hno) (ready_mono hr (Ne.symm hji)) h3.1 h3.2.1 ?_⟩) h2
    · by_cases hjk : j = k
      · subst hjk; exact hjun
      · rwa [getD_set_ne true hjk] at hun'
    · rw [Array.setIfInBounds_comm _ _ hji]; exact h3.2.2


def schOKY (ops : List Oper) (late : List Nat) : List (Bool × Nat) → Array Bool → Bool
  | [], L => (Region.ready .any ops.toArray L).isEmpty
  | (true, i) :: r, L => early late L && (late.all fun j => waits ops i ops.length j) && !(late.contains i) && (Region.ready .any ops.toArray L).contains i && Region.free .any ops.toArray L i && schOKY ops late r (L.setIfInBounds i true)
  | (false, i) :: r, L => (Region.ready .any ops.toArray L == [i]) && late.contains i && schOKY ops late r (L.setIfInBounds i true)
def wpSchY (n l : Nat) (P : Program) (ops : List Oper) (Q : Exit → Act → World → Prop) (S : World → Prop) : List (Bool × Nat) → Act → World → Prop
  | [], a, w => Q .normal a w
  | (true, i) :: r, a, w => ∃ o v, nthOp ops i = some o ∧ (∀ c a w, Q (.panic c) (a.put o.dst v) w → Q (.panic c) a w) ∧ YieldsIf P ops.toArray S o v a ∧ wpSchY n l P ops Q S r (a.put o.dst v) w
  | (false, i) :: r, a, w => wpOpIn (Fence.wide.inRound l) n P ops.toArray Q i (fun a' w' => wpSchY n l P ops Q S r a' w') a w

theorem wpAnyY_of_sch (hs : Region.noSelect ops.toArray = true) : ∀ (s : List (Bool × Nat)) (fuel : Nat) (L : Array Bool) (a : Act) (w : World), s.length ≤ fuel → schOKY ops late s L = true → Down ops L → (early late L = true → S w) → wpSchY n' l P ops Q S s a w → wpAnyY n' l P ops Q S late fuel L a w
  | [], fuel, L, a, w, _, hc, _, _, h => by
    have hr : Region.ready .any ops.toArray L = [] := by simpa [schOKY] using hc
    cases fuel with
    | zero => exact ⟨hr, h⟩
    | succ n => exact ⟨fun _ => h, by rw [hr]; simp⟩
  | _ :: _, 0, _, _, _, hf, _, _, _, _ => by simp at hf
  | (true, i) :: r, fuel + 1, L, a, w, hf, hc, hd, hS, h => by
    obtain ⟨o, v, ho, hQ, hy, h⟩ := h
    simp only [schOKY, Bool.and_eq_true, Bool.not_eq_true'] at hc
    obtain ⟨⟨⟨⟨⟨c1, c2⟩, c6⟩, c3⟩, c4⟩, c5⟩ := hc
    have hr : i ∈ Region.ready .any ops.toArray L := by simpa using c3
    have hi : ops.toArray[i]? = some o := by rw [nthOp_get, ho]
    exact wpAnyY_first hi (Region.noSelect_spec hs) hQ (fun j hj => List.all_eq_true.1 c2 j hj) c6 fuel L a w hd (Region.free_spec hi c4) hr hy (hS c1)
      (wpAnyY_of_sch hs r fuel _ _ _ (by simp at hf; omega) c5 (hd.set hr) (fun _ => hS c1) h)
  | (false, i) :: r, fuel + 1, L, a, w, hf, hc, hd, hS, h => by
    simp only [schOKY, Bool.and_eq_true, beq_iff_eq] at hc
    refine ⟨fun h0 => (by rw [hc.1.1] at h0; cases h0), fun j hj => ?_⟩
    have hj0 := hj
    rw [hc.1.1, List.mem_singleton] at hj
    subst hj
    rw [if_pos hc.1.2]
    exact wpOpIn_mono (fun a w h => wpAnyY_of_sch hs r fuel _ _ _ (by simp at hf; omega) hc.2 (hd.set hj0) (fun he => by
      have := early_set hj0 he
      rw [hc.1.2] at this; cases this) h) h

/-- The beginning. -/
theorem wpIn_region_yield (S : World → Prop) (late : List Nat) (s : List (Bool × Nat)) {id : Nat} {a : Act} {w : World} (hm : P.follows .mixedOrders = true) (hs : Region.noSelect ops.toArray = true) (hl : Nat.ble s.length ops.toArray.size = true)
    (hc : schOKY ops late s (Array.replicate ops.toArray.size false) = true) (hnd : noDefer ops = true) (hL : ¬ LetsOut Q) (hS : S w.drew) (h : wpSchY n' l P ops Q S s a w.drew) : (Code.region id ops.toArray true).wpIn (Fence.wide.inRound l) n' P Q a w :=
  wpIn_region_any hm (wpAnyIn_of_Y (S := S) (late := late) hL (noDefer_of hnd) _ _ _ _ (wpAnyY_of_sch hs s _ _ _ _ (Nat.le_of_ble_eq_true hl) hc (Down.start _) (fun _ => hS) h))

theorem wpSchY_nil {a : Act} {w : World} (h : Q .normal a w) : wpSchY n' l P ops Q S [] a w := h
theorem wpSchY_yes {i : Nat} {r : List (Bool × Nat)} {a : Act} {w : World} {o : Oper} {v : Value} (ho : nthOp ops i = some o) (hQ : ∀ c a w, Q (.panic c) (a.put o.dst v) w → Q (.panic c) a w)
    (hw : Region.wanted o (yielded ops.toArray a.tmps) = true) (hy : ∀ w, S w → (execOp a.eval o).run P w = .ok (.value v) w) (h : wpSchY n' l P ops Q S r (a.put o.dst v) w) : wpSchY n' l P ops Q S ((true, i) :: r) a w :=
  ⟨o, v, ho, hQ, .inl ⟨hw, hy⟩, h⟩
/-- A call. -/
theorem wpSchY_call {i : Nat} {r : List (Bool × Nat)} {a : Act} {w : World} {o : Oper} (ho : nthOp ops i = some o) (hw : Region.wanted o (yielded ops.toArray a.tmps) = true)
    (h : ∀ K' : Act → World → Prop, (∀ a w, wpSchY n' l P ops Q S r a w → K' a w) → Oper.wpIn (Fence.wide.inRound l) n' P o a w K' Q) : wpSchY n' l P ops Q S ((false, i) :: r) a w :=
  wpOpIn_step (by rw [nthOp_get, ho]) (fun K' hK => by rw [if_pos hw]; exact h K' hK)
/-- A late operation that only yields. -/
theorem wpSchY_last {i : Nat} {r : List (Bool × Nat)} {a : Act} {w : World} {o : Oper} {v : Value} (hL : ¬ LetsOut Q) (hnd : noDefer ops = true) (ho : nthOp ops i = some o) (hw : Region.wanted o (yielded ops.toArray a.tmps) = true)
    (hy : (execOp a.eval o).run P w = .ok (.value v) w) (h : wpSchY n' l P ops Q S r (a.put o.dst v) w) : wpSchY n' l P ops Q S ((false, i) :: r) a w := by
  have ho' : ops.toArray[i]? = some o := by rw [nthOp_get, ho]
  exact wpOpIn_round hL (noDefer_of hnd) (YieldsIf.wpOp (S := fun w' => w' = w) ho' (.inl ⟨hw, fun w' e => by subst e; exact hy⟩) rfl h)
end
end Go.Proofs.Ytoekmdidonnamaa
