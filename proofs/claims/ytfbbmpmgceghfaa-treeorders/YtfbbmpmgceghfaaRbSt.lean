/-
  A tree of package rbtree in memory: its nodes in a row, six cells a node. Conditions: none.
-/
import Derived.Test.YtfbbmpmgceghfaaRbMore
import Derived.Test.YtfbbmpmgceghfaaArenaSt
namespace Go.Proofs.Ytfbbmpmgceghfaa
open Go.RowKit
set_option maxRecDepth 100000
set_option linter.unusedSimpArgs false

def cellsN (x : Nd) : List Value := [.int .u64 x.k.a, .int .u64 x.k.b, .int .i64 x.up, .int .i64 x.lo, .int .i64 x.hi, .bool x.red]
def flat (m : Nat → Nd) : Nat → List Value
  | 0 => []
  | n + 1 => flat m n ++ cellsN (m n)
theorem flat_len (m : Nat → Nd) : ∀ n, (flat m n).length = n * 6
  | 0 => rfl
  | n + 1 => by rw [flat, List.length_append, flat_len m n]; simp [cellsN]; omega
theorem flat_get (m : Nat → Nd) : ∀ (n i j : Nat), i < n → j < 6 → (flat m n)[i * 6 + j]? = (cellsN (m i))[j]?
  | 0, i, j, h, _ => by omega
  | n + 1, i, j, h, hj => by
    rw [flat]
    by_cases e : i = n
    · subst e
      rw [List.getElem?_append_right (by rw [flat_len]; omega), flat_len]
      congr 1; omega
    · rw [List.getElem?_append_left (by rw [flat_len]; omega)]
      exact flat_get m n i j (by omega) hj
theorem flat_none (m : Nat → Nd) {n q : Nat} (h : n * 6 ≤ q) : (flat m n)[q]? = none := List.getElem?_eq_none (by rw [flat_len]; exact h)
theorem flat_ext {l : List Value} {m : Nat → Nd} {n : Nat} (hl : l.length = n * 6) (h : ∀ i j, i < n → j < 6 → l[i * 6 + j]? = (cellsN (m i))[j]?) : l = flat m n := by
  refine List.ext_getElem? fun q => ?_
  by_cases hq : q < n * 6
  · have := h (q / 6) (q % 6) (by omega) (by omega)
    rw [show q / 6 * 6 + q % 6 = q by omega] at this
    rw [this, ← flat_get m n (q / 6) (q % 6) (by omega) (by omega), show q / 6 * 6 + q % 6 = q by omega]
  · rw [flat_none m (by omega), List.getElem?_eq_none (by omega)]
theorem flat_set (m : Nat → Nd) {n i j : Nat} {x : Nd} {v : Value} (hx : cellsN x = (cellsN (m i)).set j v) (hj : j < 6) : (flat m n).set (i * 6 + j) v = flat (upd m i x) n := by
  by_cases hi : i < n
  · refine flat_ext (by rw [List.length_set, flat_len]) fun i' j' hi' hj' => ?_
    by_cases e : i' = i
    · subst e
      rw [upd_same, hx]
      by_cases e2 : j' = j
      · subst e2
        rw [List.getElem?_set_self (by rw [flat_len]; omega), List.getElem?_set_self (by simp [cellsN]; omega)]
      · rw [List.getElem?_set_ne (by omega), List.getElem?_set_ne (by omega), flat_get m n _ _ hi' hj']
    · rw [upd_ne _ _ e, List.getElem?_set_ne (by omega), flat_get m n _ _ hi' hj']
  · rw [List.set_eq_of_length_le (by rw [flat_len]; omega)]
    refine (flat_ext (flat_len m n) fun i' j' hi' hj' => ?_)
    rw [upd_ne _ _ (by omega), flat_get m n _ _ hi' hj']
theorem flat_same {m m' : Nat → Nd} {n : Nat} (h : ∀ i, i < n → m' i = m i) : flat m' n = flat m n :=
  (flat_ext (flat_len m' n) fun i j hi hj => by rw [flat_get m' n i j hi hj, h i hi])
theorem flat_app (m : Nat → Nd) (n : Nat) (x : Nd) : flat m n ++ cellsN x = flat (upd m n x) (n + 1) := by
  rw [flat, upd_same, flat_same (m := m) (m' := upd m n x) (fun i hi => upd_ne _ _ (by omega))]
theorem one_cellsN (x : Nd) : ∀ u ∈ cellsN x, u.oneCell' = true := fun u hu => by
  simp only [cellsN, List.mem_cons, List.not_mem_nil, or_false] at hu
  rcases hu with rfl | rfl | rfl | rfl | rfl | rfl <;> rfl

/-- The struct at g, its nodes at h. -/
structure Tr (w : World) (g h cap : Nat) (pa : Value) (n tp : Nat) (m : Nat → Nd) : Prop where
  st : Whole w g 56 #[pa, .slice (some ⟨h, 0, none⟩) n cap, .int .i64 (tp : Int)]
  row : w.ownsRow 0 63 6 (.slice (some ⟨h, 0, none⟩) n cap) n (flat m n)

section
variable {w w' : World} {g h cap n tp : Nat} {pa : Value} {m : Nat → Nd}
theorem Tr.open (t : Tr w g h cap pa n tp m) : ∃ cur : Array Value, w.heap[h]? = some (.cells cur 63 (0, 0)) ∧ n ≤ cap ∧ cap ≤ maxLen ∧ cur.size = cap * 6 ∧ cur.toList.take (n * 6) = flat m n := by
  rcases t.row.2 with ⟨h', _⟩ | ⟨g', cap', cur, e, _, h1, h2, h3, h4, h5⟩
  · cases h'
  · cases e; exact ⟨cur, h1, h2, h3, h4, h5⟩
theorem Tr.ne (t : Tr w g h cap pa n tp m) : g ≠ h := fun e => by
  obtain ⟨cur, h1, _⟩ := t.open
  have h2 : w.heap[g]? = _ := t.st
  rw [e, h1] at h2
  simp at h2
theorem Tr.gLt (t : Tr w g h cap pa n tp m) : g < w.heap.size := t.st.lt
theorem Tr.hLt (t : Tr w g h cap pa n tp m) : h < w.heap.size := by obtain ⟨cur, h1, _⟩ := t.open; exact (Array.getElem?_eq_some_iff.1 h1).1
theorem Tr.cap_le (t : Tr w g h cap pa n tp m) : n ≤ cap ∧ cap ≤ maxLen := by obtain ⟨cur, _, h1, h2, _⟩ := t.open; exact ⟨h1, h2⟩
theorem Tr.cell (t : Tr w g h cap pa n tp m) {i j : Nat} (hi : i < n) (hj : j < 6) : w.cell? ⟨h, i * 6 + j, none⟩ = (cellsN (m i))[j]? := by
  obtain ⟨cur, h1, h2, h3, h4, h5⟩ := t.open
  rw [cell_of_row w h _ cur 63 (0, 0) h1, ← flat_get m n i j hi hj, ← h5, List.getElem?_take, if_pos (by omega)]
  simp
theorem Tr.free (t : Tr w g h cap pa n tp m) (i : Nat) : w.frozen? ⟨h, i, none⟩ = false := by
  obtain ⟨cur, h1, _⟩ := t.open; exact frozen_of_row w h i cur 63 h1
theorem Tr.keep {S : Nat → Prop} (t : Tr w g h cap pa n tp m) (hk : Keep S w w') (hg : ¬ S g) (hh : ¬ S h) : Tr w' g h cap pa n tp m := by
  refine ⟨t.st.keep hk hg, t.row.1, ?_⟩
  obtain ⟨cur, h1, h2, h3, h4, h5⟩ := t.open
  exact .inr ⟨h, cap, cur, rfl, Nat.zero_le _, (hk.block h t.hLt hh).trans h1, h2, h3, h4, h5⟩
theorem Tr.alloc (t : Tr w g h cap pa n tp m) (o : Obj) : Tr (w.alloc o) g h cap pa n tp m := ⟨t.st.alloc o, World.ownsRow.alloc t.row o⟩
theorem Tr.drew (t : Tr w g h cap pa n tp m) : Tr w.drew g h cap pa n tp m := ⟨t.st, t.row⟩
theorem Tr.drewN (t : Tr w g h cap pa n tp m) (k : Nat) : Tr (w.drewN k) g h cap pa n tp m := ⟨t.st, t.row⟩
/-- One cell of one node turns. -/
theorem Tr.put (t : Tr w g h cap pa n tp m) {i j : Nat} {x : Nd} {v : Value} (hx : cellsN x = (cellsN (m i)).set j v) (hj : j < 6) : Tr (w.setCell ⟨h, i * 6 + j, none⟩ v) g h cap pa n tp (upd m i x) := by
  refine ⟨t.st.far t.ne v, ?_⟩
  have := (World.ownsRow.stored t.row (i * 6 + j) v).1
  rwa [flat_set m hx hj] at this
theorem Tr.putTop (t : Tr w g h cap pa n tp m) (tp' : Nat) : Tr (w.setCell ⟨g, 2, none⟩ (.int .i64 (tp' : Int))) g h cap pa n tp' m := by
  refine ⟨t.st.put 2 _, ?_⟩
  exact ownsRow_setCell_other t.row (by simp [Value.ownBlock]; exact t.ne.symm) _
theorem Tr.is {m' : Nat → Nd} (t : Tr w g h cap pa n tp m) (e : m' = m) : Tr w g h cap pa n tp m' := e ▸ t
end
end Go.Proofs.Ytfbbmpmgceghfaa
