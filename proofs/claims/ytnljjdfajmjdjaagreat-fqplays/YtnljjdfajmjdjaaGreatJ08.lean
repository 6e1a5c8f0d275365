/-
  A region that draws its order and whose last stores hit what it has loaded ('x = append(x, ..)' of boxed variables), walked in few orders: what is loaded is taken as soon as it may come up; behind the late operations, each of which waits for all that is taken so, nothing more is asked of the world. No program is spoken of. Conditions: those of each theorem.
  The document's own lists (canterref04.Lists), wherever they lie in a block: two slices, each with a row of its own. Conditions: they lie so.
  The cells of the document's queue (canterref20.Queue). Conditions: none.
-/
import Derived.Test.YtnljjdfajmjdjaaGreatJ07
import Derived.Test.YtnljjdfajmjdjaaGreatJ01
import Derived.Test.YtnljjdfajmjdjaaGreatJ03
namespace Go.Proofs.YtnljjdfajmjdjaaGreat

section
variable {P : Program} {ops : List Oper} {Q : Exit → Act → World → Prop} {S : World → Prop} {late : List Nat}

def wpAnyL (P : Program) (ops : List Oper) (Q : Exit → Act → World → Prop) (S : World → Prop) (late : List Nat) : Nat → Array Bool → Act → World → Prop
  | 0, listed, a, w => Region.ready .any ops.toArray listed = [] ∧ Q .normal a w
  | fuel + 1, listed, a, w => (Region.ready .any ops.toArray listed = [] → Q .normal a w) ∧
      ∀ i ∈ Region.ready .any ops.toArray listed, wpOp P ops.toArray Q i (fun a' w' => (late.contains i = false → S w') ∧ wpAnyL P ops Q S late fuel (listed.setIfInBounds i true) a' w') a w

theorem wpAny_of_late : ∀ (fuel : Nat) (listed : Array Bool) (a : Act) (w : World), wpAnyL P ops Q S late fuel listed a w → wpAny P .any ops.toArray Q fuel listed a w
  | 0, _, _, _, h => h
  | fuel + 1, _, _, _, h => ⟨h.1, fun i hi => wpOp_mono (fun a' w' h' => wpAny_of_late fuel _ a' w' h'.2) (h.2 i hi)⟩

/-- Does number j wait for number i, be it by others? -/
def waits (ops : List Oper) (i : Nat) : Nat → Nat → Bool
  | 0, _ => false
  | n + 1, j => match nthOp ops j with
    | none => false
    | some o => o.after.toList.any fun e => Region.binds .any e && (e.on == i || waits ops i n e.on)
/-- Whatever has come up, what it waits for has. -/
def Down (ops : List Oper) (L : Array Bool) : Prop := ∀ j o, ops.toArray[j]? = some o → L.getD j false = true → ∀ e ∈ o.after, Region.binds .any e = true → L.getD e.on false = true
theorem waits_down {L : Array Bool} (hd : Down ops L) {i : Nat} : ∀ (n j : Nat) (o : Oper), ops.toArray[j]? = some o → (∀ e ∈ o.after, Region.binds .any e = true → L.getD e.on false = true) → waits ops i n j = true → L.getD i false = true
  | 0, _, _, _, _, h => by simp [waits] at h
  | n + 1, j, o, ho, hall, h => by
    rw [nthOp_get] at ho
    simp only [waits, ho, List.any_eq_true, Bool.and_eq_true, Bool.or_eq_true, beq_iff_eq] at h
    obtain ⟨e, he, hb, h⟩ := h
    have he' : e ∈ o.after := by simpa using he
    have hl := hall e he' hb
    rcases h with rfl | h
    · exact hl
    · cases hx : ops.toArray[e.on]? with
      | none =>
        rw [nthOp_get] at hx
        cases n with
        | zero => simp [waits] at h
        | succ n => simp [waits, hx] at h
      | some o' => exact waits_down hd n e.on o' hx (hd _ _ hx hl) h
theorem Down.start (n : Nat) : Down ops (Array.replicate n false) := fun j o _ h => by
  by_cases hj : j < n
  · simp [hj] at h
  · simp [hj] at h
theorem Down.set {L : Array Bool} (hd : Down ops L) {j : Nat} (hj : j ∈ Region.ready .any ops.toArray L) : Down ops (L.setIfInBounds j true) := fun k o hk h e he hb => by
  by_cases hjk : j = k
  · subst hjk
    obtain ⟨_, o', ho', hall⟩ := mem_ready.1 hj
    rw [ho'] at hk; cases hk
    exact getD_set_true (hall e he hb)
  · rw [getD_set_ne false hjk] at h
    exact getD_set_true (hd k o hk h e he hb)
theorem not_listed {L : Array Bool} {i : Nat} (hi : i ∈ Region.ready .any ops.toArray L) : L.getD i false = false := by
  have h := (mem_ready.1 hi).1
  by_cases hj : i < L.size
  · simpa [hj] using h
  · simp [hj] at h

theorem wpAnyL_first {i : Nat} {oi : Oper} {v : Value} (hi : ops.toArray[i]? = some oi) (hsel : ∀ (j : Nat) (o : Oper) cs b, ops.toArray[j]? = some o → o.op ≠ .select cs b)
    (hQ : ∀ c a w, Q (.panic c) (a.put oi.dst v) w → Q (.panic c) a w) {n : Nat} (hw : ∀ j ∈ late, waits ops i n j = true) :
    ∀ (fuel : Nat) (L : Array Bool) (a : Act) (w : World), Down ops L →
      (∀ j oj, ops.toArray[j]? = some oj → j ≠ i → L.getD j true = false → (∀ e ∈ oj.after, Region.binds .any e = true → e.on ≠ i) → oi.apart ops.toArray oj = true) →
      i ∈ Region.ready .any ops.toArray L → YieldsIf P ops.toArray S oi v a → S w →
      wpAnyL P ops Q S late fuel (L.setIfInBounds i true) (a.put oi.dst v) w → wpAnyL P ops Q S late (fuel + 1) L a w := by
  intro fuel
  induction fuel with
  | zero =>
    intro L a w _ _ hr hy hS H
    refine ⟨fun h => (by rw [h] at hr; cases hr), fun j hj => ?_⟩
    by_cases hji : j = i
    · subst hji; exact hy.wpOp hi hS ⟨fun _ => hS, H⟩
    · have h0 := ready_mono hj hji
      rw [H.1] at h0
      cases h0
  | succ fuel ih =>
    intro L a w hd hfree hr hy hS H
    refine ⟨fun h => (by rw [h] at hr; cases hr), fun j hj => ?_⟩
    by_cases hji : j = i
    · subst hji; exact hy.wpOp hi hS ⟨fun _ => hS, H⟩
    obtain ⟨hjun, oj, hoj, hall⟩ := mem_ready.1 hj
    have hun := not_listed hr
    have hnl : late.contains j = false := by
      cases hc : late.contains j with
      | false => rfl
      | true =>
        have := waits_down hd n j oj hoj hall (hw j (by simpa using hc))
        rw [hun] at this; cases this
    have hnot : ∀ e ∈ oj.after, Region.binds .any e = true → e.on ≠ i := fun e he hb heq => by
      have h1 := hall e he hb
      rw [heq, hun] at h1; cases h1
    have h2 := wpOp_putIf hoj (hfree j oj hoj hji hjun hnot) (fun cs b => hsel i oi cs b hi) (fun cs b => hsel j oj cs b hoj) hQ hy (H.2 j (ready_mono hj hji))
    refine wpOp_mono (fun a' w' h3 => ⟨h3.2.1, ih _ a' w' (hd.set hj) (fun k ok hk hki hun' hno => hfree k ok hk hki ?_ hno) (ready_mono hr (Ne.symm hji)) h3.1 (h3.2.1 hnl) ?_⟩) h2
    · by_cases hjk : j = k
      · subst hjk; exact hjun
      · rwa [getD_set_ne true hjk] at hun'
    · rw [Array.setIfInBounds_comm _ _ hji]; exact h3.2.2

def early (late : List Nat) (L : Array Bool) : Bool := late.all fun j => !(L.getD j false)
def schOKL (ops : List Oper) (late : List Nat) : Sch → Array Bool → Bool
  | .nil, L => (Region.ready .any ops.toArray L).isEmpty
  | .yes i r, L => early late L && (late.all fun j => waits ops i ops.length j) && (Region.ready .any ops.toArray L).contains i && Region.free .any ops.toArray L i && schOKL ops late r (L.setIfInBounds i true)
  | .one i r, L => (Region.ready .any ops.toArray L == [i]) && schOKL ops late r (L.setIfInBounds i true)
  | .two i r j s, L => (Region.ready .any ops.toArray L == [i, j]) && schOKL ops late r (L.setIfInBounds i true) && schOKL ops late s (L.setIfInBounds j true)
def wpOneL (P : Program) (ops : List Oper) (Q : Exit → Act → World → Prop) (S : World → Prop) (late : List Nat) (i : Nat) (R : Act → World → Prop) (a : Act) (w : World) : Prop :=
  ∃ o, nthOp ops i = some o ∧ ∀ K' : Act → World → Prop, Shut (∀ a w, (late.contains i = false → S w) → ((late.contains i = false → S w) → R a w) → K' a w) →
      if Region.wanted o (yielded ops.toArray a.tmps) = true then Oper.wp P o a w K' Q else K' (a.put o.dst undef) w
def wpSchL (P : Program) (ops : List Oper) (Q : Exit → Act → World → Prop) (S : World → Prop) (late : List Nat) : Sch → Act → World → Prop
  | .nil, a, w => Q .normal a w
  | .yes i r, a, w => ∃ o v, nthOp ops i = some o ∧ (∀ c a w, Q (.panic c) (a.put o.dst v) w → Q (.panic c) a w) ∧ YieldsIf P ops.toArray S o v a ∧ wpSchL P ops Q S late r (a.put o.dst v) w
  | .one i r, a, w => wpOneL P ops Q S late i (wpSchL P ops Q S late r) a w
  | .two i r j s, a, w => wpOneL P ops Q S late i (wpSchL P ops Q S late r) a w ∧ wpOneL P ops Q S late j (wpSchL P ops Q S late s) a w

theorem wpOp_of_oneL {i : Nat} {a : Act} {w : World} {R R' : Act → World → Prop} (h : wpOneL P ops Q S late i R a w) (hR : ∀ a w, (late.contains i = false → S w) → R a w → R' a w) :
    wpOp P ops.toArray Q i (fun a' w' => (late.contains i = false → S w') ∧ R' a' w') a w := by
  obtain ⟨o, ho, h⟩ := h
  unfold wpOp
  rw [nthOp_get, ho]
  have := h (fun a' w' => (late.contains i = false → S w') ∧ R' a' w') (fun a w hs hr => ⟨hs, hR a w hs (hr hs)⟩)
  dsimp only
  split
  · rename_i hw; rw [if_pos hw] at this; exact .inl this
  · rename_i hw; rw [if_neg hw] at this; exact this

theorem early_set {L : Array Bool} {i : Nat} (hi : i ∈ Region.ready .any ops.toArray L) (h : early late (L.setIfInBounds i true) = true) : late.contains i = false := by
  cases hc : late.contains i with
  | false => rfl
  | true =>
    have hm : i ∈ late := by simpa using hc
    have h1 := List.all_eq_true.1 h i hm
    have hlt : i < L.size := by
      have h := (mem_ready.1 hi).1
      by_cases hj : i < L.size
      · exact hj
      · simp [hj] at h
    simp [hlt] at h1

theorem wpAnyL_of_sch (hs : Region.noSelect ops.toArray = true) : ∀ (l : Sch) (fuel : Nat) (L : Array Bool) (a : Act) (w : World), l.len ≤ fuel → schOKL ops late l L = true → Down ops L → (early late L = true → S w) → wpSchL P ops Q S late l a w → wpAnyL P ops Q S late fuel L a w
  | .nil, fuel, L, a, w, _, hc, _, _, h => by
    have hr : Region.ready .any ops.toArray L = [] := by simpa [schOKL] using hc
    cases fuel with
    | zero => exact ⟨hr, h⟩
    | succ n => exact ⟨fun _ => h, by rw [hr]; simp⟩
  | .yes _ _, 0, _, _, _, hf, _, _, _, _ => by simp [Sch.len] at hf
  | .one _ _, 0, _, _, _, hf, _, _, _, _ => by simp [Sch.len] at hf
  | .two _ _ _ _, 0, _, _, _, hf, _, _, _, _ => by simp [Sch.len] at hf
  | .yes i r, fuel + 1, L, a, w, hf, hc, hd, hS, h => by
    obtain ⟨o, v, ho, hQ, hy, h⟩ := h
    simp only [schOKL, Bool.and_eq_true] at hc
    obtain ⟨⟨⟨⟨c1, c2⟩, c3⟩, c4⟩, c5⟩ := hc
    have hr : i ∈ Region.ready .any ops.toArray L := by simpa using c3
    have hi : ops.toArray[i]? = some o := by rw [nthOp_get, ho]
    exact wpAnyL_first hi (Region.noSelect_spec hs) hQ (fun j hj => List.all_eq_true.1 c2 j hj) fuel L a w hd (Region.free_spec hi c4) hr hy (hS c1)
      (wpAnyL_of_sch hs r fuel _ _ _ (by simp [Sch.len] at hf; omega) c5 (hd.set hr) (fun _ => hS c1) h)
  | .one i r, fuel + 1, L, a, w, hf, hc, hd, hS, h => by
    simp only [schOKL, Bool.and_eq_true, beq_iff_eq] at hc
    refine ⟨fun h0 => (by rw [hc.1] at h0; cases h0), fun j hj => ?_⟩
    have hj0 := hj
    rw [hc.1, List.mem_singleton] at hj
    subst hj
    exact wpOp_of_oneL h (fun a w hs' h => wpAnyL_of_sch hs r fuel _ _ _ (by simp [Sch.len] at hf; omega) hc.2 (hd.set hj0) (fun he => hs' (early_set hj0 he)) h)
  | .two i r j s, fuel + 1, L, a, w, hf, hc, hd, hS, h => by
    simp only [schOKL, Bool.and_eq_true, beq_iff_eq] at hc
    refine ⟨fun h0 => (by rw [hc.1.1] at h0; cases h0), fun k hk => ?_⟩
    have hk0 := hk
    rw [hc.1.1] at hk
    simp only [List.mem_cons, List.not_mem_nil, or_false] at hk
    rcases hk with rfl | rfl
    · exact wpOp_of_oneL h.1 (fun a w hs' h => wpAnyL_of_sch hs r fuel _ _ _ (by simp [Sch.len] at hf; omega) hc.1.2 (hd.set hk0) (fun he => hs' (early_set hk0 he)) h)
    · exact wpOp_of_oneL h.2 (fun a w hs' h => wpAnyL_of_sch hs s fuel _ _ _ (by simp [Sch.len] at hf; omega) hc.2 (hd.set hk0) (fun he => hs' (early_set hk0 he)) h)

/-- The beginning. -/
theorem wp_region_late (S : World → Prop) (late : List Nat) (l : Sch) {id : Nat} {a : Act} {w : World} (hm : P.follows .mixedOrders = true) (hs : Region.noSelect ops.toArray = true) (hl : Nat.ble l.len ops.toArray.size = true)
    (hc : schOKL ops late l (Array.replicate ops.toArray.size false) = true) (hS : S w.drew) (h : wpSchL P ops Q S late l a w.drew) : (Code.region id ops.toArray true).wp P Q a w :=
  wp_region_any hm (wpAny_of_late (S := S) (late := late) _ _ _ _ (wpAnyL_of_sch hs l _ _ _ _ (Nat.le_of_ble_eq_true hl) hc (Down.start _) (fun _ => hS) h))

theorem wpSchL_nil {a : Act} {w : World} (h : Q .normal a w) : wpSchL P ops Q S late .nil a w := h
theorem wpSchL_yes {i : Nat} {r : Sch} {a : Act} {w : World} {o : Oper} {v : Value} (ho : nthOp ops i = some o) (hQ : ∀ c a w, Q (.panic c) (a.put o.dst v) w → Q (.panic c) a w)
    (hw : Region.wanted o (yielded ops.toArray a.tmps) = true) (hy : ∀ w, S w → (execOp a.eval o).run P w = .ok (.value v) w) (h : wpSchL P ops Q S late r (a.put o.dst v) w) : wpSchL P ops Q S late (.yes i r) a w :=
  ⟨o, v, ho, hQ, .inl ⟨hw, hy⟩, h⟩
theorem wpOneL_call {i : Nat} {R : Act → World → Prop} {a : Act} {w : World} {o : Oper} (ho : nthOp ops i = some o)
    (hw : Region.wanted o (yielded ops.toArray a.tmps) = true) (h : ∀ K' : Act → World → Prop, Shut (∀ a w, (late.contains i = false → S w) → ((late.contains i = false → S w) → R a w) → K' a w) → Oper.wp P o a w K' Q) : wpOneL P ops Q S late i R a w :=
  ⟨o, ho, fun K hK => by rw [if_pos hw]; exact h K hK⟩
theorem wpSchL_one {i : Nat} {r : Sch} {a : Act} {w : World} (h : wpOneL P ops Q S late i (wpSchL P ops Q S late r) a w) : wpSchL P ops Q S late (.one i r) a w := h
theorem wpSchL_two {i j : Nat} {r s : Sch} {a : Act} {w : World} (h : wpOneL P ops Q S late i (wpSchL P ops Q S late r) a w) (h' : wpOneL P ops Q S late j (wpSchL P ops Q S late s) a w) : wpSchL P ops Q S late (.two i r j s) a w := ⟨h, h'⟩
end
end Go.Proofs.YtnljjdfajmjdjaaGreat
namespace Go.Proofs.YtnljjdfajmjdjaaGreat
open Go.RowKit
set_option maxRecDepth 100000

/-- The two lists lie in block g, from cell off on: its cells are cs, v1 and v2 are the slices. -/
structure RLat (w : World) (T : TypeId) (g off : Nat) (cs : Array Value) (v1 v2 : Value) (N O : List Int) : Prop where
  whole : Whole w g T cs
  c1 : cs[off]? = some v1
  c2 : cs[off + 1]? = some v2
  o1 : Owns w 3 v1 (iv N)
  o2 : Owns w 3 v2 (iv O)
  ap : ∀ k, v1.ownBlock = some k → v2.ownBlock ≠ some k
  ne : T ≠ 3
def RLto (w : World) (T : TypeId) (g off : Nat) (cs : Array Value) (v1 v2 : Value) (N' O' : List Int) (w' : World) : Prop :=
  ∃ v1' v2', RLat w' T g off ((cs.setIfInBounds off v1').setIfInBounds (off + 1) v2') v1' v2' N' O' ∧ Keep (fun k => k = g ∨ v1.ownBlock = some k ∨ v2.ownBlock = some k) w w' ∧
    (∀ k, v1'.ownBlock = some k → v1.ownBlock = some k ∨ w.heap.size ≤ k) ∧ (∀ k, v2'.ownBlock = some k → v2.ownBlock = some k ∨ w.heap.size ≤ k)
section
variable {w w' : World} {T : TypeId} {g off : Nat} {cs : Array Value} {v1 v2 : Value} {N O : List Int}
theorem RLat.lt1 (h : RLat w T g off cs v1 v2 N O) : off < cs.size := (Array.getElem?_eq_some_iff.1 h.c1).1
theorem RLat.lt2 (h : RLat w T g off cs v1 v2 N O) : off + 1 < cs.size := (Array.getElem?_eq_some_iff.1 h.c2).1
theorem RLat.kept (h : RLat w T g off cs v1 v2 N O) (hk : Keep (fun _ => False) w w') : RLat w' T g off cs v1 v2 N O := ⟨h.whole.keep hk id, h.c1, h.c2, h.o1.keep hk (fun _ _ => id), h.o2.keep hk (fun _ _ => id), h.ap, h.ne⟩
theorem RLat.n1 (h : RLat w T g off cs v1 v2 N O) : v1.ownBlock ≠ some g := h.o1.ne h.whole h.ne
theorem RLat.n2 (h : RLat w T g off cs v1 v2 N O) : v2.ownBlock ≠ some g := h.o2.ne h.whole h.ne
theorem set_same {cs : Array Value} {i : Nat} {v : Value} (h : cs[i]? = some v) : cs.setIfInBounds i v = cs := by
  apply Array.ext_getElem?
  intro j
  by_cases e : j = i
  · subst e; rw [Array.getElem?_setIfInBounds_self_of_lt (Array.getElem?_eq_some_iff.1 h).1, h]
  · rw [Array.getElem?_setIfInBounds_ne (by omega)]
/-- Nothing turned. -/
theorem RLat.to (h : RLat w T g off cs v1 v2 N O) (hk : Keep (fun _ => False) w w') : RLto w T g off cs v1 v2 N O w' := by
  refine ⟨v1, v2, ?_, hk.mono (fun _ h => h.elim), fun k e => .inl e, fun k e => .inl e⟩
  rw [set_same h.c1, set_same h.c2]
  exact h.kept hk
/-- One step behind another. -/
theorem RLto.trans {w1 w2 : World} {u1 u2 : Value} {N'' O'' : List Int} (hk : Keep (fun k => k = g ∨ v1.ownBlock = some k ∨ v2.ownBlock = some k) w w1)
    (n1 : ∀ k, u1.ownBlock = some k → v1.ownBlock = some k ∨ w.heap.size ≤ k) (n2 : ∀ k, u2.ownBlock = some k → v2.ownBlock = some k ∨ w.heap.size ≤ k)
    (t : RLto w1 T g off ((cs.setIfInBounds off u1).setIfInBounds (off + 1) u2) u1 u2 N'' O'' w2) : RLto w T g off cs v1 v2 N'' O'' w2 := by
  obtain ⟨x1, x2, hx, hkx, m1, m2⟩ := t
  have hs := hk.size
  refine ⟨x1, x2, ?_, hk.then hkx (fun i hi hlt => ?_), fun k e => ?_, fun k e => ?_⟩
  · have e : (((cs.setIfInBounds off u1).setIfInBounds (off + 1) u2).setIfInBounds off x1).setIfInBounds (off + 1) x2 = (cs.setIfInBounds off x1).setIfInBounds (off + 1) x2 := by
      apply Array.ext_getElem?
      intro j
      simp only [Array.getElem?_setIfInBounds, Array.size_setIfInBounds]
      by_cases e1 : off + 1 = j
      · rw [if_pos e1, if_pos e1]
      · rw [if_neg e1, if_neg e1]
        by_cases e2 : off = j
        · rw [if_pos e2, if_pos e2, if_neg e1]
        · rw [if_neg e2, if_neg e2, if_neg e1, if_neg e2]
    rw [e] at hx; exact hx
  · rcases hi with h | h | h
    · exact .inl h
    · rcases n1 i h with h | h
      · exact .inr (.inl h)
      · omega
    · rcases n2 i h with h | h
      · exact .inr (.inr h)
      · omega
  · rcases m1 k e with h | h
    · exact n1 k h
    · exact .inr (by omega)
  · rcases m2 k e with h | h
    · exact n2 k h
    · exact .inr (by omega)
end

theorem rplace_any (T : TypeId) (g off : Nat) (cs : Array Value) (v1 v2 : Value) (N O : List Int) (s : Int) (w : World) (h : RLat w T g off cs v1 v2 N O) (hN : N.length ≤ 8) (hO : O.length ≤ 8) :
    Calls Tryz.prog 81 #[.pointer (some ⟨g, off, none⟩), .int .i64 s] w fun e w' => e = .returned (.int .i64 (placeV N O s)) ∧ w = w' := by
  obtain ⟨a1, c1, hv1, _⟩ := h.o1.shape
  obtain ⟨a2, c2, hv2, _⟩ := h.o2.shape
  rw [len_iv] at hv1 hv2
  subst hv1 hv2
  have d1 := (h.whole.cell off).trans h.c1
  have d2 := (h.whole.cell (off + 1)).trans h.c2
  have R1 := Lib.hid h.o1.rdi; have R2 := Lib.hid h.o2.rdi
  clear h
  go_enter Tryz.func81, Tryz.ntmps81
  go_wp2_with fail
  refine (in_int a1 c1 N s _ w (by omega) R1.out rfl).mono ?_
  rintro e w' ⟨rfl, rfl⟩
  by_cases hs : s ∈ N
  · have HS := Lib.hid hs
    have hd : decide (s ∈ N) = true := by simpa using hs
    rw [hd]
    clear hs hd
    go_wp2
    go_ret
    exact ⟨ret_i (by unfold placeV; rw [if_pos HS.out]), rfl⟩
  · have HS := Lib.hid hs
    have hd : decide (s ∈ N) = false := by simpa using hs
    rw [hd]
    clear hs hd
    go_wp2_with fail
    refine (in_int a2 c2 O s _ w (by omega) R2.out rfl).mono ?_
    rintro e w' ⟨rfl, rfl⟩
    by_cases hs : s ∈ O
    · have HO := Lib.hid hs
      have hd : decide (s ∈ O) = true := by simpa using hs
      rw [hd]
      clear hs hd
      go_wp2
      go_ret
      exact ⟨ret_i (by unfold placeV; rw [if_neg HS.out, if_pos HO.out]), rfl⟩
    · have HO := Lib.hid hs
      have hd : decide (s ∈ O) = false := by simpa using hs
      rw [hd]
      clear hs hd
      go_wp2
      go_ret
      exact ⟨ret_i (by unfold placeV; rw [if_neg HS.out, if_neg HO.out]), rfl⟩

theorem rhead_any (T : TypeId) (g off : Nat) (cs : Array Value) (v1 v2 : Value) (N O : List Int) (w : World) (h : RLat w T g off cs v1 v2 N O) :
    Calls Tryz.prog 37 #[.pointer (some ⟨g, off, none⟩)] w fun e w' => e = .returned (.tuple #[.int .i64 (headS N O), .bool (headF N O), .bool (headB N O)]) ∧ w = w' := by
  obtain ⟨a1, c1, hv1, _⟩ := h.o1.shape
  obtain ⟨a2, c2, hv2, _⟩ := h.o2.shape
  rw [len_iv] at hv1 hv2
  subst hv1 hv2
  have d1 := (h.whole.cell off).trans h.c1
  have d2 := (h.whole.cell (off + 1)).trans h.c2
  cases N with
  | cons x r =>
    obtain ⟨b, o, rfl, _, cx⟩ := h.o1.rdi 0 (by simp)
    have cx' : w.cell? ⟨b, o, none⟩ = some (.int .i64 x) := by simpa using cx
    have hl : (0 : Int) < (((x :: r).length : Nat) : Int) := by simp
    generalize (x :: r).length = n at *
    clear h cx
    go_enter Tryz.func37, Tryz.ntmps37
    go_wp2
    go_ret3
    exact ⟨rfl, rfl⟩
  | nil =>
    cases O with
    | cons x r =>
      obtain ⟨b, o, rfl, _, cx⟩ := h.o2.rdi 0 (by simp)
      have cx' : w.cell? ⟨b, o, none⟩ = some (.int .i64 x) := by simpa using cx
      have hl : (0 : Int) < (((x :: r).length : Nat) : Int) := by simp
      generalize (x :: r).length = n at *
      simp only [List.length_nil] at *
      clear h cx
      go_enter Tryz.func37, Tryz.ntmps37
      go_wp2
      go_ret3
      exact ⟨rfl, rfl⟩
    | nil =>
      simp only [List.length_nil] at *
      clear h
      go_enter Tryz.func37, Tryz.ntmps37
      go_wp2
      go_ret3
      exact ⟨rfl, rfl⟩

theorem take_flt' (l : List Int) (q : Int) {k : Nat} (h : k < l.length) : (l.take (k + 1)).filter (fun x => x != q) = (l.take k).filter (fun x => x != q) ++ if (l.getD k 0 == q) = true then [] else [l.getD k 0] := by
  rw [take_more l h, List.filter_append]
  congr 1
  generalize l.getD k 0 = x
  cases hb : x == q
  · have hn : (x != q) = true := by simp [bne, hb]
    simp only [List.filter_cons, hn, if_true, List.filter_nil, Bool.false_eq_true, if_false]
  · have hn : (x != q) = false := by simp [bne, hb]
    simp only [List.filter_cons, hn, if_true, List.filter_nil, Bool.false_eq_true, if_false]

set_option maxHeartbeats 1000000 in
theorem without_any (a : Option Addr) (c : Nat) (l : List Int) (q : Int) (w : World) (h : Owns w 3 (.slice a l.length c) (iv l)) (h8 : l.length ≤ 4096) :
    Calls Tryz.prog 82 #[.slice a l.length c, .int .i64 q] w fun e w' => ∃ v', e = .returned v' ∧ Owns w' 3 v' (iv (l.filter (fun x => x != q))) ∧ (∀ k, v'.ownBlock = some k → w.heap.size ≤ k) ∧ Keep (fun _ => False) w w' := by
  have H := Lib.hid h.rdi
  clear h
  obtain ⟨i0, hi, hz0, hz1, hz2⟩ := info_parts Tryz.infoLs
  have HI := Lib.hid hi; have HZ0 := Lib.hid hz0; have HZ1 := Lib.hid hz1; have HZ2 := Lib.hid hz2; clear hi hz0 hz1 hz2
  obtain ⟨n, hn⟩ : ∃ n, n = l.length := ⟨_, rfl⟩
  have HN := Lib.hid hn
  rw [← hn] at h8 ⊢
  clear hn
  go_enter Tryz.func82, Tryz.ntmps82
  go_wp2
  go_loopw [5, 6] (fun s5 i wr => ∃ (j : Nat) (v : Value), j ≤ n ∧ i = .int .i64 j ∧ s5 = v ∧ Owns wr 3 v (iv ((l.take j).filter (fun x => x != q))) ∧ (∀ k, v.ownBlock = some k → w.heap.size ≤ k) ∧ Keep (fun _ => False) w wr) (fun _ i _ => n - (intOf i).toNat)
  case atStart => exact ⟨0, _, by omega, rfl, rfl, Owns.nil _ _, fun k e => (by cases e), Keep.refl _ _⟩
  case round =>
    obtain ⟨j, v, hj, rfl, hv, ho, hnew, hk⟩ := hrel
    obtain ⟨pv, cv, hsv, _⟩ := ho.shape
    have HO := Lib.hid ho; have HW := Lib.hid hnew; have HK := Lib.hid hk
    clear ho hnew hk
    rw [hsv] at hv HO HW
    subst hv
    clear hsv
    by_cases hlt : j < n
    · have hi1 : (j : Int) < (n : Int) := by omega
      obtain ⟨pb, po, rfl, _, cj⟩ := (H.out.keep HK.out) j (by rw [← HN.out]; exact hlt)
      have HTK := Lib.hid (take_flt' l q (k := j) (by rw [← HN.out]; exact hlt))
      obtain ⟨x, hx⟩ : ∃ x, x = l.getD j 0 := ⟨_, rfl⟩
      rw [← hx] at cj HTK
      obtain ⟨m, hm⟩ : ∃ m, m = (l.take j).filter (fun x => x != q) := ⟨_, rfl⟩
      rw [← hm] at HTK HO HW
      rw [← hm]
      have hll : m.length ≤ 4096 := by
        have h1 := List.length_filter_le (fun x => x != q) (l.take j)
        rw [← hm, List.length_take] at h1
        omega
      rw [len_iv] at HO HW ⊢
      clear hx hm
      cases hxq : (x == q) with
      | true =>
        have hxn : (x != q) = false := by simp [bne, hxq]
        rw [hxq] at HTK
        simp only [if_true, List.append_nil] at HTK
        clear hxq
        go_wp2
        go_roundw
        case rel => exact ⟨j + 1, _, by omega, by go_num, rfl, by rw [HTK.out]; exact HO.out, HW.out, HK.out⟩
        case measure => simp [intOf]; omega
      | false =>
        have hxn : (x != q) = true := by simp [bne, hxq]
        rw [hxq] at HTK
        simp only [Bool.false_eq_true, if_false] at HTK
        clear hxq
        go_wp2_with (at_builtin; refine wpList_append_owns rfl _ _ 37 rfl 3 i0 (.int .i64 0) 8 Tryz.underlying37 HI.out HZ0.out HZ1.out HZ2.out rfl (.slice pv m.length cv) (iv m) rfl (HO.out.alloc _) (some ⟨wr.heap.size, 0, none⟩) 1 1 [.int .i64 x] rfl rfl (fun h => (by cases h)) (one_news wr _ _) (one_iv [x]) (by unfold maxLen; rw [len_iv]; omega) (by rw [len_iv]; omega) ?_; intro v' w6 hown hk6 hnew6 _; rw [app_iv] at hown; have X6 := Lib.hid (⟨hown, hk6, hnew6⟩ : _ ∧ _ ∧ _); clear hown hk6 hnew6)
        go_roundw
        case rel =>
          obtain ⟨x1, x2, x3⟩ := X6.out
          exact ⟨j + 1, _, by omega, by go_num, rfl, by rw [HTK.out]; exact x1, fun k e => by
            rcases x3 k e with h | h
            · exact HW.out k h
            · have := HK.out.size; simp at h; omega, (HK.out.alloc _).then x2 (fun i e hlt => by have := HW.out i e; omega)⟩
        case measure => simp [intOf]; omega
    · obtain rfl : j = n := by omega
      have hall : (l.take j) = l := List.take_of_length_le (by rw [← HN.out]; omega)
      rw [hall] at HO HW ⊢
      clear hlt hj hall
      go_wp2
      go_ret
      exact ⟨_, rfl, HO.out, HW.out, HK.out⟩
end Go.Proofs.YtnljjdfajmjdjaaGreat
namespace Go.Proofs.YtnljjdfajmjdjaaGreat
open Go.RowKit
set_option maxRecDepth 100000

/-! ### The cells of the document's queue -/
structure RQc (cs : Array Value) (v : Nat → Value) (x : Qm) : Prop where
  size : cs.size = 67
  c : ∀ j, j < 9 → cs[j]? = some (cfV x.c j)
  f : ∀ i, i < 8 → ∀ j, j < 6 → cs[9 + i * 6 + j]? = some (flV (v i) (x.F i) j)
  t : ∀ i, i < 8 → cs[57 + i]? = some (.bool (x.T i))
section
variable {cs cs' : Array Value} {v : Nat → Value} {x y : Qm}
/-- One flow turns: its cells, and whether it is there. -/
theorem RQc.turn (h : RQc cs v x) {i : Nat} (hi : i < 8) {v' : Value} {f : Fl} {b : Bool} (hsz : cs'.size = cs.size) (hf : ∀ j, j < 6 → cs'[9 + i * 6 + j]? = some (flV v' f j)) (ht : cs'[57 + i]? = some (.bool b))
    (he : ∀ j, j < 65 → (j < 9 + i * 6 ∨ 9 + i * 6 + 6 ≤ j) → j ≠ 57 + i → cs'[j]? = cs[j]?) (hc : y.c = x.c) (hF : y.F = upF x.F i f) (hT : y.T = upF x.T i b) : RQc cs' (upF v i v') y where
  size := hsz.trans h.size
  c := fun j hj => by rw [he j (by omega) (by omega) (by omega), hc]; exact h.c j hj
  f := fun k hk j hj => by
    by_cases e : k = i
    · subst e; rw [upF_at, hF, upF_at]; exact hf j hj
    · rw [upF_ne _ _ e, hF, upF_ne _ _ e, he _ (by omega) (by omega) (by omega)]; exact h.f k hk j hj
  t := fun k hk => by
    by_cases e : k = i
    · subst e; rw [hT, upF_at]; exact ht
    · rw [hT, upF_ne _ _ e, he _ (by omega) (by omega) (by omega)]; exact h.t k hk
/-- One field of one flow turns. -/
theorem RQc.set (h : RQc cs v x) {i k : Nat} (hi : i < 8) (hk : k < 6) {u v' : Value} {f : Fl} (hu : flV v' f k = u) (hels : ∀ j, j < 6 → j ≠ k → flV v' f j = flV (v i) (x.F i) j)
    (hc : y.c = x.c) (hF : y.F = upF x.F i f) (hT : y.T = x.T) : RQc (cs.setIfInBounds (9 + i * 6 + k) u) (upF v i v') y := by
  have hs := h.size
  refine h.turn hi (b := x.T i) Array.size_setIfInBounds (fun j hj => ?_) ?_ (fun j hj hor _ => ?_) hc hF ?_
  · by_cases e : j = k
    · subst e; rw [Array.getElem?_setIfInBounds_self_of_lt (by omega), hu]
    · rw [Array.getElem?_setIfInBounds_ne (by omega), hels j hj e]; exact h.f i hi j hj
  · rw [Array.getElem?_setIfInBounds_ne (by omega)]; exact h.t i hi
  · rw [Array.getElem?_setIfInBounds_ne (by omega)]
  · rw [hT]; funext j
    by_cases e : j = i
    · subst e; rw [upF_at]
    · rw [upF_ne _ _ e]
/-- What lies behind the flows does not count. -/
theorem RQc.els (h : RQc cs v x) (hsz : cs'.size = cs.size) (he : ∀ j, j < 65 → cs'[j]? = cs[j]?) (hc : y.c = x.c) (hF : y.F = x.F) (hT : y.T = x.T) : RQc cs' v y :=
  ⟨hsz.trans h.size, fun j hj => by rw [he j (by omega), hc]; exact h.c j hj, fun i hi j hj => by rw [he _ (by omega), hF]; exact h.f i hi j hj, fun i hi => by rw [he _ (by omega), hT]; exact h.t i hi⟩
end
end Go.Proofs.YtnljjdfajmjdjaaGreat
