/-
  An array of eight slices of numbers in a block of its own, each slice with a row of its own. Conditions: none.
-/
import Derived.Test.YtoekmdidonnamaaURow
import Derived.Test.YtoekmdidonnamaaNum
import Derived.Test.YtoekmdidonnamaaQmSt
namespace Go.Proofs.Ytoekmdidonnamaa
open Go.RowKit
set_option maxRecDepth 100000

def arC (v : Nat → Value) : Array Value := #[v 0, v 1, v 2, v 3, v 4, v 5, v 6, v 7]
theorem arC_get (v : Nat → Value) {k : Nat} (hk : k < 8) : (arC v)[k]? = some (v k) := by
  match k, hk with
  | 0, _ => rfl
  | 1, _ => rfl
  | 2, _ => rfl
  | 3, _ => rfl
  | 4, _ => rfl
  | 5, _ => rfl
  | 6, _ => rfl
  | 7, _ => rfl
theorem arC_set (v : Nat → Value) {k : Nat} {u : Value} (hk : k < 8) : (arC v).setIfInBounds k u = arC (upF v k u) := by
  match k, hk with
  | 0, _ => rfl
  | 1, _ => rfl
  | 2, _ => rfl
  | 3, _ => rfl
  | 4, _ => rfl
  | 5, _ => rfl
  | 6, _ => rfl
  | 7, _ => rfl
structure ArrAt (w : World) (P : Nat) (v : Nat → Value) (l : Nat → List Int) : Prop where
  whole : Whole w P 60 (arC v)
  q : ∀ i, i < 8 → Owns w 22 (v i) (uvs (l i))
  ap : ∀ i j, i < 8 → j < 8 → i ≠ j → ∀ k, (v i).ownBlock = some k → (v j).ownBlock ≠ some k
def ArrOwn (P : Nat) (v : Nat → Value) (k : Nat) : Prop := k = P ∨ ∃ i, i < 8 ∧ (v i).ownBlock = some k
section
variable {w w' w1 : World} {P : Nat} {v : Nat → Value} {l : Nat → List Int} {S : Nat → Prop}
theorem ArrAt.keep (h : ArrAt w P v l) (hk : Keep S w w') (hs : ∀ k, ArrOwn P v k → ¬ S k) : ArrAt w' P v l :=
  ⟨h.whole.keep hk (hs P (.inl rfl)), fun i hi => (h.q i hi).keep hk fun k e => hs k (.inr ⟨i, hi, e⟩), h.ap⟩
theorem ArrAt.lt (h : ArrAt w P v l) {k : Nat} (hk : ArrOwn P v k) : k < w.heap.size := by
  rcases hk with rfl | ⟨i, hi, e⟩
  · exact h.whole.lt
  · exact (h.q i hi).lt e
def arrT (P : Nat) (v : Nat → Value) (l : Nat → List Int) : Thing := ⟨fun w => ArrAt w P v l, ArrOwn P v, fun h hk hs => h.keep hk hs, fun h e => h.lt e⟩
theorem ArrAt.ne (h : ArrAt w P v l) {i : Nat} (hi : i < 8) : (v i).ownBlock ≠ some P := (h.q i hi).ne h.whole (by decide)
theorem ArrAt.new (h : Whole w P 60 (arC fun _ => .slice none 0 0)) : ArrAt w P (fun _ => .slice none 0 0) (fun _ => []) :=
  ⟨h, fun _ _ => Owns.nil _ _, fun _ _ _ _ _ k e => by cases e⟩
/-- One slice has one more. -/
theorem ArrAt.more (h : ArrAt w P v l) {i : Nat} (hi : i < 8) {v' : Value} {x : Int} (ho : Owns w1 22 v' (uvs (l i) ++ [.int .u64 x])) (hk : Keep (fun k => (v i).ownBlock = some k) w w1) (hn : ∀ k, v'.ownBlock = some k → (v i).ownBlock = some k ∨ w.heap.size ≤ k) :
    ArrAt (w1.setCell ⟨P, i, none⟩ v') P (upF v i v') (upF l i (l i ++ [x])) ∧ Keep (ArrOwn P v) w (w1.setCell ⟨P, i, none⟩ v') ∧ ∀ k, ArrOwn P (upF v i v') k → ArrOwn P v k ∨ w.heap.size ≤ k := by
  have hP : ¬ (v i).ownBlock = some P := h.ne hi
  have hw1 : Whole w1 P 60 (arC v) := h.whole.keep hk hP
  have hv' : v'.ownBlock ≠ some P := fun e => by
    rcases hn P e with a | a
    · exact hP a
    · have := h.whole.lt; omega
  refine ⟨⟨by have := hw1.put i v'; rwa [arC_set v hi] at this, fun j hj => ?_, fun a b ha hb hab k e e2 => ?_⟩, (hk.mono fun k e => .inr ⟨i, hi, e⟩).setCell (p := ⟨P, i, none⟩) (.inl (.inl rfl)) v', fun k e => ?_⟩
  · by_cases e : j = i
    · subst e
      rw [upF_at, upF_at, ← uvs_app]
      exact ho.far (p := ⟨P, j, none⟩) hv' v'
    · rw [upF_ne _ _ e, upF_ne _ _ e]
      exact ((h.q j hj).keep hk fun k e1 e2 => h.ap j i hj hi e k e1 e2).far (p := ⟨P, i, none⟩) (h.ne hj) v'
  · by_cases ea : a = i
    · subst ea
      rw [upF_at] at e
      rw [upF_ne _ _ (fun h => hab h.symm)] at e2
      rcases hn k e with c | c
      · exact h.ap a b ha hb hab k c e2
      · have := (h.q b hb).lt e2; omega
    · rw [upF_ne _ _ ea] at e
      by_cases eb : b = i
      · subst eb
        rw [upF_at] at e2
        rcases hn k e2 with c | c
        · exact h.ap a b ha hb hab k e c
        · have := (h.q a ha).lt e; omega
      · rw [upF_ne _ _ eb] at e2
        exact h.ap a b ha hb hab k e e2
  · rcases e with e | ⟨j, hj, e⟩
    · exact .inl (.inl e)
    · by_cases ej : j = i
      · subst ej
        rw [upF_at] at e
        exact (hn k e).imp (fun c => .inr ⟨j, hj, c⟩) id
      · rw [upF_ne _ _ ej] at e
        exact .inl (.inr ⟨j, hj, e⟩)
/-- A slice of numbers read. -/
theorem Owns.rdu {a : Option Addr} {n c : Nat} {l : List Int} (h : Owns w 22 (.slice a n c) (uvs l)) : Rd .u64 w a l := by
  intro i hi
  obtain ⟨g, cap, e⟩ := h.pos (by rw [uvs_len]; exact Nat.lt_of_le_of_lt (Nat.zero_le _) hi)
  cases e
  refine ⟨g, 0, rfl, h.lt rfl, ?_⟩
  rw [Nat.zero_add, h.cell i (by rw [uvs_len]; exact hi)]
  simp [uvs, hi]
end
end Go.Proofs.Ytoekmdidonnamaa
