/-
  A region that draws its order and whose last stores hit what it has loaded ('x = append(x, ..)' of boxed variables), walked in few orders: what is loaded is taken as soon as it may come up; behind the late operations, each of which waits for all that is taken so, nothing more is asked of the world. No program is spoken of. Conditions: those of each theorem.
-/
import Derived.Test.YtfbbmpmgceghfaaSched
namespace Go.Proofs.Ytfbbmpmgceghfaa

section
variable {P : Program} {ops : List Oper} {Q : Exit → Act → World → Prop} {S : World → Prop} {late : List Nat}

def wpAnyL (P : Program) (ops : List Oper) (Q : Exit → Act → World → Prop) (S : World → Prop) (late : List Nat) : Nat → Array Bool → Act → World → Prop
  | 0, listed, a, w => Region.ready .any ops.toArray listed = [] ∧ Q .normal a w
  | fuel + 1, listed, a, w => (Region.ready .any ops.toArray listed = [] → Q .normal a w) ∧
      ∀ i ∈ Region.ready .any ops.toArray listed, wpOp P ops.toArray Q i (fun a' w' => (late.contains i = false → S w') ∧ wpAnyL P ops Q S late fuel (listed.setIfInBounds i true) a' w') a w

theorem wpAny_of_late : ∀ (fuel : Nat) (listed : Array Bool) (a : Act) (w : World), wpAnyL P ops Q S late fuel listed a w → wpAny P .any ops.toArray Q fuel listed a w
  | 0, _, _, _, h => h
  | fuel + 1, _, _, _, h => ⟨h.1, fun i hi => wpOp_mono (fun a' w' h' => wpAny_of_late fuel _ a' w' h'.2) (h.2 i hi)⟩

/-- Does number j wait for number i, be it by others? -/
def waits (ops : List Oper) (i : Nat) : Nat → Nat → Bool
  | 0, _ => false
  | n + 1, j => match nthOp ops j with
    | none => false
    | some o => o.after.toList.any fun e => Region.binds .any e && (e.on == i || waits ops i n e.on)
/-- Whatever has come up, what it waits for has. -/
def Down (ops : List Oper) (L : Array Bool) : Prop := ∀ j o, ops.toArray[j]? = some o → L.getD j false = true → ∀ e ∈ o.after, Region.binds .any e = true → L.getD e.on false = true
theorem waits_down {L : Array Bool} (hd : Down ops L) {i : Nat} : ∀ (n j : Nat) (o : Oper), ops.toArray[j]? = some o → (∀ e ∈ o.after, Region.binds .any e = true → L.getD e.on false = true) → waits ops i n j = true → L.getD i false = true
  | 0, _, _, _, _, h => by simp [waits] at h
  | n + 1, j, o, ho, hall, h => by
    rw [nthOp_get] at ho
    simp only [waits, ho, List.any_eq_true, Bool.and_eq_true, Bool.or_eq_true, beq_iff_eq] at h
    obtain ⟨e, he, hb, h⟩ := h
    have he' : e ∈ o.after := by simpa using he
    have hl := hall e he' hb
    rcases h with rfl | h
    · exact hl
    · cases hx : ops.toArray[e.on]? with
      | none =>
        rw [nthOp_get] at hx
        cases n with
        | zero => simp [waits] at h
        | succ n => simp [waits, hx] at h
      | some o' => exact waits_down hd n e.on o' hx (hd _ _ hx hl) h
theorem Down.start (n : Nat) : Down ops (Array.replicate n false) := fun j o _ h => by
  by_cases hj : j < n
  · simp [hj] at h
  · simp [hj] at h
theorem Down.set {L : Array Bool} (hd : Down ops L) {j : Nat} (hj : j ∈ Region.ready .any ops.toArray L) : Down ops (L.setIfInBounds j true) := fun k o hk h e he hb => by
  by_cases hjk : j = k
  · subst hjk
    obtain ⟨_, o', ho', hall⟩ := mem_ready.1 hj
    rw [ho'] at hk; cases hk
    exact getD_set_true (hall e he hb)
  · rw [getD_set_ne false hjk] at h
    exact getD_set_true (hd k o hk h e he hb)
theorem not_listed {L : Array Bool} {i : Nat} (hi : i ∈ Region.ready .any ops.toArray L) : L.getD i false = false := by
  have h := (mem_ready.1 hi).1
  by_cases hj : i < L.size
  · simpa [hj] using h
  · simp [hj] at h

theorem wpAnyL_first {i : Nat} {oi : Oper} {v : Value} (hi : ops.toArray[i]? = some oi) (hsel : ∀ (j : Nat) (o : Oper) cs b, ops.toArray[j]? = some o → o.op ≠ .select cs b)
    (hQ : ∀ c a w, Q (.panic c) (a.put oi.dst v) w → Q (.panic c) a w) {n : Nat} (hw : ∀ j ∈ late, waits ops i n j = true) :
    ∀ (fuel : Nat) (L : Array Bool) (a : Act) (w : World), Down ops L →
      (∀ j oj, ops.toArray[j]? = some oj → j ≠ i → L.getD j true = false → (∀ e ∈ oj.after, Region.binds .any e = true → e.on ≠ i) → oi.apart ops.toArray oj = true) →
      i ∈ Region.ready .any ops.toArray L → YieldsIf P ops.toArray S oi v a → S w →
      wpAnyL P ops Q S late fuel (L.setIfInBounds i true) (a.put oi.dst v) w → wpAnyL P ops Q S late (fuel + 1) L a w := by
  intro fuel
  induction fuel with
  | zero =>
    intro L a w _ _ hr hy hS H
    refine ⟨fun h => (by rw [h] at hr; cases hr), fun j hj => ?_⟩
    by_cases hji : j = i
    · subst hji; exact hy.wpOp hi hS ⟨fun _ => hS, H⟩
    · have h0 := ready_mono hj hji
      rw [H.1] at h0
      cases h0
  | succ fuel ih =>
    intro L a w hd hfree hr hy hS H
    refine ⟨fun h => (by rw [h] at hr; cases hr), fun j hj => ?_⟩
    by_cases hji : j = i
    · subst hji; exact hy.wpOp hi hS ⟨fun _ => hS, H⟩
    obtain ⟨hjun, oj, hoj, hall⟩ := mem_ready.1 hj
    have hun := not_listed hr
    have hnl : late.contains j = false := by
      cases hc : late.contains j with
      | false => rfl
      | true =>
        have := waits_down hd n j oj hoj hall (hw j (by simpa using hc))
        rw [hun] at this; cases this
    have hnot : ∀ e ∈ oj.after, Region.binds .any e = true → e.on ≠ i := fun e he hb heq => by
      have h1 := hall e he hb
      rw [heq, hun] at h1; cases h1
    have h2 := wpOp_putIf hoj (hfree j oj hoj hji hjun hnot) (fun cs b => hsel i oi cs b hi) (fun cs b => hsel j oj cs b hoj) hQ hy (H.2 j (ready_mono hj hji))
    refine wpOp_mono (fun a' w' h3 => ⟨h3.2.1, ih _ a' w' (hd.set hj) (fun k ok hk hki hun' hno => hfree k ok hk hki ?_ hno) (ready_mono hr (Ne.symm hji)) h3.1 (h3.2.1 hnl) ?_⟩) h2
    · by_cases hjk : j = k
      · subst hjk; exact hjun
      · rwa [getD_set_ne true hjk] at hun'
    · rw [Array.setIfInBounds_comm _ _ hji]; exact h3.2.2

def early (late : List Nat) (L : Array Bool) : Bool := late.all fun j => !(L.getD j false)
def schOKL (ops : List Oper) (late : List Nat) : Sch → Array Bool → Bool
  | .nil, L => (Region.ready .any ops.toArray L).isEmpty
  | .yes i r, L => early late L && (late.all fun j => waits ops i ops.length j) && (Region.ready .any ops.toArray L).contains i && Region.free .any ops.toArray L i && schOKL ops late r (L.setIfInBounds i true)
  | .one i r, L => (Region.ready .any ops.toArray L == [i]) && schOKL ops late r (L.setIfInBounds i true)
  | .two i r j s, L => (Region.ready .any ops.toArray L == [i, j]) && schOKL ops late r (L.setIfInBounds i true) && schOKL ops late s (L.setIfInBounds j true)
def wpOneL (P : Program) (ops : List Oper) (Q : Exit → Act → World → Prop) (S : World → Prop) (late : List Nat) (i : Nat) (R : Act → World → Prop) (a : Act) (w : World) : Prop :=
  ∃ o, nthOp ops i = some o ∧ ∀ K' : Act → World → Prop, Shut (∀ a w, (late.contains i = false → S w) → ((late.contains i = false → S w) → R a w) → K' a w) →
      if Region.wanted o (yielded ops.toArray a.tmps) = true then Oper.wp P o a w K' Q else K' (a.put o.dst undef) w
def wpSchL (P : Program) (ops : List Oper) (Q : Exit → Act → World → Prop) (S : World → Prop) (late : List Nat) : Sch → Act → World → Prop
  | .nil, a, w => Q .normal a w
  | .yes i r, a, w => ∃ o v, nthOp ops i = some o ∧ (∀ c a w, Q (.panic c) (a.put o.dst v) w → Q (.panic c) a w) ∧ YieldsIf P ops.toArray S o v a ∧ wpSchL P ops Q S late r (a.put o.dst v) w
  | .one i r, a, w => wpOneL P ops Q S late i (wpSchL P ops Q S late r) a w
  | .two i r j s, a, w => wpOneL P ops Q S late i (wpSchL P ops Q S late r) a w ∧ wpOneL P ops Q S late j (wpSchL P ops Q S late s) a w

theorem wpOp_of_oneL {i : Nat} {a : Act} {w : World} {R R' : Act → World → Prop} (h : wpOneL P ops Q S late i R a w) (hR : ∀ a w, (late.contains i = false → S w) → R a w → R' a w) :
    wpOp P ops.toArray Q i (fun a' w' => (late.contains i = false → S w') ∧ R' a' w') a w := by
  obtain ⟨o, ho, h⟩ := h
  unfold wpOp
  rw [nthOp_get, ho]
  have := h (fun a' w' => (late.contains i = false → S w') ∧ R' a' w') (fun a w hs hr => ⟨hs, hR a w hs (hr hs)⟩)
  dsimp only
  split
  · rename_i hw; rw [if_pos hw] at this; exact .inl this
  · rename_i hw; rw [if_neg hw] at this; exact this

theorem early_set {L : Array Bool} {i : Nat} (hi : i ∈ Region.ready .any ops.toArray L) (h : early late (L.setIfInBounds i true) = true) : late.contains i = false := by
  cases hc : late.contains i with
  | false => rfl
  | true =>
    have hm : i ∈ late := by simpa using hc
    have h1 := List.all_eq_true.1 h i hm
    have hlt : i < L.size := by
      have h := (mem_ready.1 hi).1
      by_cases hj : i < L.size
      · exact hj
      · simp [hj] at h
    simp [hlt] at h1

theorem wpAnyL_of_sch (hs : Region.noSelect ops.toArray = true) : ∀ (l : Sch) (fuel : Nat) (L : Array Bool) (a : Act) (w : World), l.len ≤ fuel → schOKL ops late l L = true → Down ops L → (early late L = true → S w) → wpSchL P ops Q S late l a w → wpAnyL P ops Q S late fuel L a w
  | .nil, fuel, L, a, w, _, hc, _, _, h => by
    have hr : Region.ready .any ops.toArray L = [] := by simpa [schOKL] using hc
    cases fuel with
    | zero => exact ⟨hr, h⟩
    | succ n => exact ⟨fun _ => h, by rw [hr]; simp⟩
  | .yes _ _, 0, _, _, _, hf, _, _, _, _ => by simp [Sch.len] at hf
  | .one _ _, 0, _, _, _, hf, _, _, _, _ => by simp [Sch.len] at hf
  | .two _ _ _ _, 0, _, _, _, hf, _, _, _, _ => by simp [Sch.len] at hf
  | .yes i r, fuel + 1, L, a, w, hf, hc, hd, hS, h => by
    obtain ⟨o, v, ho, hQ, hy, h⟩ := h
    simp only [schOKL, Bool.and_eq_true] at hc
    obtain ⟨⟨⟨⟨c1, c2⟩, c3⟩, c4⟩, c5⟩ := hc
    have hr : i ∈ Region.ready .any ops.toArray L := by simpa using c3
    have hi : ops.toArray[i]? = some o := by rw [nthOp_get, ho]
    exact wpAnyL_first hi (Region.noSelect_spec hs) hQ (fun j hj => List.all_eq_true.1 c2 j hj) fuel L a w hd (Region.free_spec hi c4) hr hy (hS c1)
      (wpAnyL_of_sch hs r fuel _ _ _ (by simp [Sch.len] at hf; omega) c5 (hd.set hr) (fun _ => hS c1) h)
  | .one i r, fuel + 1, L, a, w, hf, hc, hd, hS, h => by
    simp only [schOKL, Bool.and_eq_true, beq_iff_eq] at hc
    refine ⟨fun h0 => (by rw [hc.1] at h0; cases h0), fun j hj => ?_⟩
    have hj0 := hj
    rw [hc.1, List.mem_singleton] at hj
    subst hj
    exact wpOp_of_oneL h (fun a w hs' h => wpAnyL_of_sch hs r fuel _ _ _ (by simp [Sch.len] at hf; omega) hc.2 (hd.set hj0) (fun he => hs' (early_set hj0 he)) h)
  | .two i r j s, fuel + 1, L, a, w, hf, hc, hd, hS, h => by
    simp only [schOKL, Bool.and_eq_true, beq_iff_eq] at hc
    refine ⟨fun h0 => (by rw [hc.1.1] at h0; cases h0), fun k hk => ?_⟩
    have hk0 := hk
    rw [hc.1.1] at hk
    simp only [List.mem_cons, List.not_mem_nil, or_false] at hk
    rcases hk with rfl | rfl
    · exact wpOp_of_oneL h.1 (fun a w hs' h => wpAnyL_of_sch hs r fuel _ _ _ (by simp [Sch.len] at hf; omega) hc.1.2 (hd.set hk0) (fun he => hs' (early_set hk0 he)) h)
    · exact wpOp_of_oneL h.2 (fun a w hs' h => wpAnyL_of_sch hs s fuel _ _ _ (by simp [Sch.len] at hf; omega) hc.2 (hd.set hk0) (fun he => hs' (early_set hk0 he)) h)

/-- The beginning. -/
theorem wp_region_late (S : World → Prop) (late : List Nat) (l : Sch) {id : Nat} {a : Act} {w : World} (hm : P.follows .mixedOrders = true) (hs : Region.noSelect ops.toArray = true) (hl : Nat.ble l.len ops.toArray.size = true)
    (hc : schOKL ops late l (Array.replicate ops.toArray.size false) = true) (hS : S w.drew) (h : wpSchL P ops Q S late l a w.drew) : (Code.region id ops.toArray true).wp P Q a w :=
  wp_region_any hm (wpAny_of_late (S := S) (late := late) _ _ _ _ (wpAnyL_of_sch hs l _ _ _ _ (Nat.le_of_ble_eq_true hl) hc (Down.start _) (fun _ => hS) h))

theorem wpSchL_nil {a : Act} {w : World} (h : Q .normal a w) : wpSchL P ops Q S late .nil a w := h
theorem wpSchL_yes {i : Nat} {r : Sch} {a : Act} {w : World} {o : Oper} {v : Value} (ho : nthOp ops i = some o) (hQ : ∀ c a w, Q (.panic c) (a.put o.dst v) w → Q (.panic c) a w)
    (hw : Region.wanted o (yielded ops.toArray a.tmps) = true) (hy : ∀ w, S w → (execOp a.eval o).run P w = .ok (.value v) w) (h : wpSchL P ops Q S late r (a.put o.dst v) w) : wpSchL P ops Q S late (.yes i r) a w :=
  ⟨o, v, ho, hQ, .inl ⟨hw, hy⟩, h⟩
theorem wpOneL_call {i : Nat} {R : Act → World → Prop} {a : Act} {w : World} {o : Oper} (ho : nthOp ops i = some o)
    (hw : Region.wanted o (yielded ops.toArray a.tmps) = true) (h : ∀ K' : Act → World → Prop, Shut (∀ a w, (late.contains i = false → S w) → ((late.contains i = false → S w) → R a w) → K' a w) → Oper.wp P o a w K' Q) : wpOneL P ops Q S late i R a w :=
  ⟨o, ho, fun K hK => by rw [if_pos hw]; exact h K hK⟩
theorem wpSchL_one {i : Nat} {r : Sch} {a : Act} {w : World} (h : wpOneL P ops Q S late i (wpSchL P ops Q S late r) a w) : wpSchL P ops Q S late (.one i r) a w := h
theorem wpSchL_two {i j : Nat} {r s : Sch} {a : Act} {w : World} (h : wpOneL P ops Q S late i (wpSchL P ops Q S late r) a w) (h' : wpOneL P ops Q S late j (wpSchL P ops Q S late s) a w) : wpSchL P ops Q S late (.two i r j s) a w := ⟨h, h'⟩
end
end Go.Proofs.Ytfbbmpmgceghfaa
