/-
  A tree of package rbtree in memory: its nodes in a row, six cells a node. Conditions: none.
  Small calls of package rbtree: side, hang. Conditions: the tree lies in memory.
  The call lift of package rbtree: a turn. Conditions: the tree lies in memory.
-/
import Derived.Test.YtnljjdfajmjdjaaGreatJ13
import Derived.Test.YtnljjdfajmjdjaaGreatChecked
import Derived.WalkSpells
import Derived.WalkLawsBesides
import Derived.LoopTactic
import Derived.Deep.QuietTactic
import Derived.Deep.DeepCutAuto
import Derived.Deep.Draws
import Derived.BigQuiet
namespace Go.Proofs.YtnljjdfajmjdjaaGreat
open Go.RowKit
set_option maxRecDepth 100000
set_option linter.unusedSimpArgs false

def cellsN (x : Nd) : List Value := [.int .u64 x.k.a, .int .u64 x.k.b, .int .i64 x.up, .int .i64 x.lo, .int .i64 x.hi, .bool x.red]
def flat (m : Nat → Nd) : Nat → List Value
  | 0 => []
  | n + 1 => flat m n ++ cellsN (m n)
theorem flat_len (m : Nat → Nd) : ∀ n, (flat m n).length = n * 6
  | 0 => rfl
  | n + 1 => by rw [flat, List.length_append, flat_len m n]; simp [cellsN]; omega
theorem flat_get (m : Nat → Nd) : ∀ (n i j : Nat), i < n → j < 6 → (flat m n)[i * 6 + j]? = (cellsN (m i))[j]?
  | 0, i, j, h, _ => by omega
  | n + 1, i, j, h, hj => by
    rw [flat]
    by_cases e : i = n
    · subst e
      rw [List.getElem?_append_right (by rw [flat_len]; omega), flat_len]
      congr 1; omega
    · rw [List.getElem?_append_left (by rw [flat_len]; omega)]
      exact flat_get m n i j (by omega) hj
theorem flat_none (m : Nat → Nd) {n q : Nat} (h : n * 6 ≤ q) : (flat m n)[q]? = none := List.getElem?_eq_none (by rw [flat_len]; exact h)
theorem flat_ext {l : List Value} {m : Nat → Nd} {n : Nat} (hl : l.length = n * 6) (h : ∀ i j, i < n → j < 6 → l[i * 6 + j]? = (cellsN (m i))[j]?) : l = flat m n := by
  refine List.ext_getElem? fun q => ?_
  by_cases hq : q < n * 6
  · have := h (q / 6) (q % 6) (by omega) (by omega)
    rw [show q / 6 * 6 + q % 6 = q by omega] at this
    rw [this, ← flat_get m n (q / 6) (q % 6) (by omega) (by omega), show q / 6 * 6 + q % 6 = q by omega]
  · rw [flat_none m (by omega), List.getElem?_eq_none (by omega)]
theorem flat_set (m : Nat → Nd) {n i j : Nat} {x : Nd} {v : Value} (hx : cellsN x = (cellsN (m i)).set j v) (hj : j < 6) : (flat m n).set (i * 6 + j) v = flat (upd m i x) n := by
  by_cases hi : i < n
  · refine flat_ext (by rw [List.length_set, flat_len]) fun i' j' hi' hj' => ?_
    by_cases e : i' = i
    · subst e
      rw [upd_same, hx]
      by_cases e2 : j' = j
      · subst e2
        rw [List.getElem?_set_self (by rw [flat_len]; omega), List.getElem?_set_self (by simp [cellsN]; omega)]
      · rw [List.getElem?_set_ne (by omega), List.getElem?_set_ne (by omega), flat_get m n _ _ hi' hj']
    · rw [upd_ne _ _ e, List.getElem?_set_ne (by omega), flat_get m n _ _ hi' hj']
  · rw [List.set_eq_of_length_le (by rw [flat_len]; omega)]
    refine (flat_ext (flat_len m n) fun i' j' hi' hj' => ?_)
    rw [upd_ne _ _ (by omega), flat_get m n _ _ hi' hj']
theorem flat_same {m m' : Nat → Nd} {n : Nat} (h : ∀ i, i < n → m' i = m i) : flat m' n = flat m n :=
  (flat_ext (flat_len m' n) fun i j hi hj => by rw [flat_get m' n i j hi hj, h i hi])
theorem flat_app (m : Nat → Nd) (n : Nat) (x : Nd) : flat m n ++ cellsN x = flat (upd m n x) (n + 1) := by
  rw [flat, upd_same, flat_same (m := m) (m' := upd m n x) (fun i hi => upd_ne _ _ (by omega))]
theorem one_cellsN (x : Nd) : ∀ u ∈ cellsN x, u.oneCell' = true := fun u hu => by
  simp only [cellsN, List.mem_cons, List.not_mem_nil, or_false] at hu
  rcases hu with rfl | rfl | rfl | rfl | rfl | rfl <;> rfl

/-- The struct at g, its nodes at h. -/
structure Tr (w : World) (g h cap : Nat) (pa : Value) (n tp : Nat) (m : Nat → Nd) : Prop where
  st : Whole w g 117 #[pa, .slice (some ⟨h, 0, none⟩) n cap, .int .i64 (tp : Int)]
  row : w.ownsRow 0 121 6 (.slice (some ⟨h, 0, none⟩) n cap) n (flat m n)

section
variable {w w' : World} {g h cap n tp : Nat} {pa : Value} {m : Nat → Nd}
theorem Tr.open (t : Tr w g h cap pa n tp m) : ∃ cur : Array Value, w.heap[h]? = some (.cells cur 121 (0, 0)) ∧ n ≤ cap ∧ cap ≤ maxLen ∧ cur.size = cap * 6 ∧ cur.toList.take (n * 6) = flat m n := by
  rcases t.row.2 with ⟨h', _⟩ | ⟨g', cap', cur, e, _, h1, h2, h3, h4, h5⟩
  · cases h'
  · cases e; exact ⟨cur, h1, h2, h3, h4, h5⟩
theorem Tr.ne (t : Tr w g h cap pa n tp m) : g ≠ h := fun e => by
  obtain ⟨cur, h1, _⟩ := t.open
  have h2 : w.heap[g]? = _ := t.st
  rw [e, h1] at h2
  simp at h2
theorem Tr.gLt (t : Tr w g h cap pa n tp m) : g < w.heap.size := t.st.lt
theorem Tr.hLt (t : Tr w g h cap pa n tp m) : h < w.heap.size := by obtain ⟨cur, h1, _⟩ := t.open; exact (Array.getElem?_eq_some_iff.1 h1).1
theorem Tr.cap_le (t : Tr w g h cap pa n tp m) : n ≤ cap ∧ cap ≤ maxLen := by obtain ⟨cur, _, h1, h2, _⟩ := t.open; exact ⟨h1, h2⟩
theorem Tr.cell (t : Tr w g h cap pa n tp m) {i j : Nat} (hi : i < n) (hj : j < 6) : w.cell? ⟨h, i * 6 + j, none⟩ = (cellsN (m i))[j]? := by
  obtain ⟨cur, h1, h2, h3, h4, h5⟩ := t.open
  rw [cell_of_row w h _ cur 121 (0, 0) h1, ← flat_get m n i j hi hj, ← h5, List.getElem?_take, if_pos (by omega)]
  simp
theorem Tr.free (t : Tr w g h cap pa n tp m) (i : Nat) : w.frozen? ⟨h, i, none⟩ = false := by
  obtain ⟨cur, h1, _⟩ := t.open; exact frozen_of_row w h i cur 121 h1
theorem Tr.keep {S : Nat → Prop} (t : Tr w g h cap pa n tp m) (hk : Keep S w w') (hg : ¬ S g) (hh : ¬ S h) : Tr w' g h cap pa n tp m := by
  refine ⟨t.st.keep hk hg, t.row.1, ?_⟩
  obtain ⟨cur, h1, h2, h3, h4, h5⟩ := t.open
  exact .inr ⟨h, cap, cur, rfl, Nat.zero_le _, (hk.block h t.hLt hh).trans h1, h2, h3, h4, h5⟩
theorem Tr.alloc (t : Tr w g h cap pa n tp m) (o : Obj) : Tr (w.alloc o) g h cap pa n tp m := ⟨t.st.alloc o, World.ownsRow.alloc t.row o⟩
theorem Tr.drew (t : Tr w g h cap pa n tp m) : Tr w.drew g h cap pa n tp m := ⟨t.st, t.row⟩
theorem Tr.drewN (t : Tr w g h cap pa n tp m) (k : Nat) : Tr (w.drewN k) g h cap pa n tp m := ⟨t.st, t.row⟩
/-- One cell of one node turns. -/
theorem Tr.put (t : Tr w g h cap pa n tp m) {i j : Nat} {x : Nd} {v : Value} (hx : cellsN x = (cellsN (m i)).set j v) (hj : j < 6) : Tr (w.setCell ⟨h, i * 6 + j, none⟩ v) g h cap pa n tp (upd m i x) := by
  refine ⟨t.st.far t.ne v, ?_⟩
  have := (World.ownsRow.stored t.row (i * 6 + j) v).1
  rwa [flat_set m hx hj] at this
theorem Tr.putTop (t : Tr w g h cap pa n tp m) (tp' : Nat) : Tr (w.setCell ⟨g, 2, none⟩ (.int .i64 (tp' : Int))) g h cap pa n tp' m := by
  refine ⟨t.st.put 2 _, ?_⟩
  exact ownsRow_setCell_other t.row (by simp [Value.ownBlock]; exact t.ne.symm) _
theorem Tr.is {m' : Nat → Nd} (t : Tr w g h cap pa n tp m) (e : m' = m) : Tr w g h cap pa n tp m' := e ▸ t
end
end Go.Proofs.YtnljjdfajmjdjaaGreat
namespace Go.Proofs.YtnljjdfajmjdjaaGreat
open Go.RowKit
set_option maxRecDepth 100000

def bit (b : Bool) : Int := if b then 1 else 0

set_option maxHeartbeats 400000 in
theorem side_any {g b cap n tp : Nat} {pa : Value} {m : Nat → Nd} (at_ : Nat) (w : World) (t : Tr w g b cap pa n tp m) (ha : at_ < n) (hu : (m at_).up < n) :
    Calls Tryz.prog 93 #[.pointer (some ⟨g, 0, none⟩), .int .i64 (at_ : Int)] w fun e w' => e = .returned (.int .i64 (bit (sideM m at_))) ∧ ∃ k, w' = w.drewN k := by
  have c1 := t.st.cell 1
  have c2 : w.cell? ⟨b, at_ * 6 + 2, none⟩ = some (.int .i64 ((m at_).up : Int)) := t.cell ha (by decide)
  have c3 : w.cell? ⟨b, (m at_).up * 6 + 4, none⟩ = some (.int .i64 ((m (m at_).up).hi : Int)) := t.cell hu (by decide)
  have hc := t.cap_le
  have hc2 : cap ≤ 9223372036854775807 := by have := hc.2; unfold maxLen at this; omega
  have hc1 := hc.1
  unfold sideM
  clear t hc
  generalize (m at_).up = u at *
  generalize (m u).hi = v at *
  by_cases e : v = at_
  · subst e
    have HE : Hid (bit (decide (v = v)) = 1) := Lib.hid (by simp [bit])
    go_enter Tryz.func93, Tryz.ntmps93
    go_wp2
    go_quiet (fail)
    go_wp2
    go_ret
    exact ⟨ret_i HE.out.symm, _, rfl⟩
  · have HE : Hid (bit (decide (v = at_)) = 0) := Lib.hid (by simp [bit, e])
    have hq : ((v : Int) == (at_ : Int)) = false := by rw [beq_eq_false_iff_ne]; omega
    go_enter Tryz.func93, Tryz.ntmps93
    go_wp2
    go_quiet (fail)
    go_wp2
    go_ret
    exact ⟨ret_i HE.out.symm, _, rfl⟩

theorem cells_up (x : Nd) (p : Nat) : cellsN (x.setUp p) = (cellsN x).set 2 (.int .i64 (p : Int)) := rfl
theorem cells_lo (x : Nd) (p : Nat) : cellsN (x.setKid false p) = (cellsN x).set 3 (.int .i64 (p : Int)) := rfl
theorem cells_hi (x : Nd) (p : Nat) : cellsN (x.setKid true p) = (cellsN x).set 4 (.int .i64 (p : Int)) := rfl
theorem cells_red (x : Nd) (b : Bool) : cellsN { x with red := b } = (cellsN x).set 5 (.bool b) := rfl
theorem Tr.capB {w : World} {g b cap n tp : Nat} {pa : Value} {m : Nat → Nd} (t : Tr w g b cap pa n tp m) : n ≤ cap ∧ cap ≤ 9223372036854775807 := by
  have hc := t.cap_le
  exact ⟨hc.1, by have := hc.2; unfold maxLen at this; omega⟩
def Mine (g h : Nat) (k : Nat) : Prop := k = g ∨ k = h


set_option maxHeartbeats 1000000 in
theorem hang_any {g b cap n tp : Nat} {pa : Value} {m : Nat → Nd} (a p : Nat) (s : Bool) (w : World) (t : Tr w g b cap pa n tp m) (ha : a < n) (hp : p < n) :
    Calls Tryz.prog 67 #[.pointer (some ⟨g, 0, none⟩), .int .i64 (a : Int), .int .i64 (p : Int), .int .i64 (bit s)] w fun e w' =>
      (∃ v, e = .returned v) ∧ Tr w' g b cap pa n (hangT tp a p) (hangM m a p s) ∧ Keep (Mine g b) w w' := by
  have c1 := t.st.cell 1
  have ft := t.st.free 2
  have ct := t.st.cell 2
  unfold hangM hangT
  by_cases ep : p = 0
  · subst ep
    simp only [if_true]
    have T1 := Lib.hid (t.putTop a)
    have K1 : Hid (Keep (Mine g b) w (w.setCell ⟨g, 2, none⟩ (.int .i64 (a : Int)))) := Lib.hid ((Keep.refl _ _).setCell (.inl (.inl rfl)) _)
    clear t
    have c1' := T1.out.st.cell 1
    have f2 := T1.out.free (a * 6 + 2)
    obtain ⟨hc1, hc2⟩ := T1.out.capB
    by_cases ea : a = 0
    · subst ea
      go_enter Tryz.func67, Tryz.ntmps67
      go_wp2
      go_end0
      exact ⟨⟨_, rfl⟩, T1.out, K1.out⟩
    · have e2 : ((a : Int) == 0) = false := by rw [beq_eq_false_iff_ne]; omega
      have T2 := Lib.hid (T1.out.put (i := a) (cells_up _ 0) (by decide))
      have c2 := T1.out.cell (i := a) (j := 2) ha (by decide)
      rw [show (cellsN _)[2]? = some (.int .i64 _) from rfl] at c2
      go_enter Tryz.func67, Tryz.ntmps67
      go_wp2
      go_end0
      exact ⟨⟨_, rfl⟩, (by first | exact T2.out | (simp only [if_neg ea]; exact T2.out)), K1.out.setCell (p := ⟨b, a * 6 + 2, none⟩) (.inl (.inr rfl)) _⟩
  · simp only [if_neg ep]
    have e1 : ((p : Int) == 0) = false := by rw [beq_eq_false_iff_ne]; omega
    cases s
    · have T1 := Lib.hid (t.put (i := p) (cells_lo _ a) (by decide))
      have K1 : Hid (Keep (Mine g b) w (w.setCell ⟨b, p * 6 + 3, none⟩ (.int .i64 (a : Int)))) := Lib.hid ((Keep.refl _ _).setCell (.inl (.inr rfl)) _)
      have cp := t.cell (i := p) (j := 3) hp (by decide)
      rw [show (cellsN _)[3]? = some (.int .i64 _) from rfl] at cp
      have fp := t.free (p * 6 + 3)
      simp only [bit, Bool.false_eq_true, if_false]
      clear t
      have c1' := T1.out.st.cell 1
      have f2 := T1.out.free (a * 6 + 2)
      obtain ⟨hc1, hc2⟩ := T1.out.capB
      by_cases ea : a = 0
      · subst ea
        go_enter Tryz.func67, Tryz.ntmps67
        go_wp2
        go_end0
        exact ⟨⟨_, rfl⟩, T1.out, K1.out⟩
      · have e2 : ((a : Int) == 0) = false := by rw [beq_eq_false_iff_ne]; omega
        have T2 := Lib.hid (T1.out.put (i := a) (cells_up _ p) (by decide))
        have c2 := T1.out.cell (i := a) (j := 2) ha (by decide)
        rw [show (cellsN _)[2]? = some (.int .i64 _) from rfl] at c2
        go_enter Tryz.func67, Tryz.ntmps67
        go_wp2
        go_end0
        exact ⟨⟨_, rfl⟩, (by first | exact T2.out | (simp only [if_neg ea]; exact T2.out)), K1.out.setCell (p := ⟨b, a * 6 + 2, none⟩) (.inl (.inr rfl)) _⟩
    · have T1 := Lib.hid (t.put (i := p) (cells_hi _ a) (by decide))
      have K1 : Hid (Keep (Mine g b) w (w.setCell ⟨b, p * 6 + 4, none⟩ (.int .i64 (a : Int)))) := Lib.hid ((Keep.refl _ _).setCell (.inl (.inr rfl)) _)
      have cp := t.cell (i := p) (j := 4) hp (by decide)
      rw [show (cellsN _)[4]? = some (.int .i64 _) from rfl] at cp
      have fp := t.free (p * 6 + 4)
      simp only [bit, if_true]
      clear t
      have c1' := T1.out.st.cell 1
      have f2 := T1.out.free (a * 6 + 2)
      obtain ⟨hc1, hc2⟩ := T1.out.capB
      by_cases ea : a = 0
      · subst ea
        go_enter Tryz.func67, Tryz.ntmps67
        go_wp2
        go_end0
        exact ⟨⟨_, rfl⟩, T1.out, K1.out⟩
      · have e2 : ((a : Int) == 0) = false := by rw [beq_eq_false_iff_ne]; omega
        have T2 := Lib.hid (T1.out.put (i := a) (cells_up _ p) (by decide))
        have c2 := T1.out.cell (i := a) (j := 2) ha (by decide)
        rw [show (cellsN _)[2]? = some (.int .i64 _) from rfl] at c2
        go_enter Tryz.func67, Tryz.ntmps67
        go_wp2
        go_end0
        exact ⟨⟨_, rfl⟩, (by first | exact T2.out | (simp only [if_neg ea]; exact T2.out)), K1.out.setCell (p := ⟨b, a * 6 + 2, none⟩) (.inl (.inr rfl)) _⟩
end Go.Proofs.YtnljjdfajmjdjaaGreat
namespace Go.Proofs.YtnljjdfajmjdjaaGreat
open Go.RowKit
set_option maxRecDepth 100000

theorem bit_not (s : Bool) : bit (!s) = 1 - bit s := by cases s <;> rfl
theorem liftM_is {m : Nat → Nd} {n tp : Nat} {z : Z} {L : List (Nat × Key)} {s : Bool} {i : Nat} {k : Key} {c : Bool} {o : T} {j : Nat} {kj : Key} {cj : Bool} {x y : T} (h : Rep m n tp (.st s i k c o z) (br s j kj cj x y) L) :
    (m j).up = i ∧ sideM m j = s ∧ (m i).up = z.par ∧ sideM m i = z.side ∧ (m j).kid (!s) = y.root ∧ j < n ∧ i < n ∧ z.par < n ∧ y.root < n ∧ i ≠ 0 ∧ j ≠ 0 ∧ liftM m j = hangM (hangM (hangM m y.root i s) i j (!s)) j z.par z.side := by
  have hside : sideM m j = s := by have := h.side (by cases s <;> simp [br]); simpa [Z.side] using this
  have hup : (m j).up = i := by have := h.sub.root_up (by cases s <;> simp [br]); simpa [Z.par] using this
  have hside2 : sideM m i = z.side := by have := h.upw.side (by cases s <;> simp [br]); simpa using this
  have hup2 : (m i).up = z.par := by have := h.upw.sub.root_up (by cases s <;> simp [br]); simpa using this
  have hkid : (m j).kid (!s) = y.root := by
    have := h.sub
    cases s
    · have e := this.1; simp [Nd.kid, e]
    · have e := this.1; simp [Nd.kid, e]
  have hj := h.posT (i := j) (by rw [its_br]; cases s <;> simp)
  have hi := h.posZ (i := i) (by simp [Z.ids])
  have hn : 0 < n := by omega
  refine ⟨hup, hside, hup2, hside2, hkid, hj.2, hi.2, h.upw.parLt hn, ?_, by omega, by omega, by unfold liftM; simp only [hup, hside, hup2, hside2, hkid]⟩
  have h' := h
  rw [show s = !(!s) by simp, br_not] at h'
  exact h'.down.rootLt hn


set_option maxHeartbeats 1000000 in
theorem lift_any {g b cap n tp : Nat} {pa : Value} {m : Nat → Nd} {z : Z} {L : List (Nat × Key)} {s : Bool} {i : Nat} {k : Key} {c : Bool} {o : T} {j : Nat} {kj : Key} {cj : Bool} {x y : T} (w : World) (t : Tr w g b cap pa n tp m) (hr : Rep m n tp (.st s i k c o z) (br s j kj cj x y) L) :
    Calls Tryz.prog 94 #[.pointer (some ⟨g, 0, none⟩), .int .i64 (j : Int)] w fun e w' => (∃ v, e = .returned v) ∧ Tr w' g b cap pa n (hangT tp j z.par) (liftM m j) ∧ Keep (Mine g b) w w' := by
  obtain ⟨h1, h2, h3, h4, h5, hj, hi, hp, hy, hi0, hj0, hM⟩ := liftM_is hr
  have HT : Hid (hangT (hangT (hangT tp y.root i) i j) j z.par = hangT tp j z.par) := Lib.hid (by rw [show hangT tp y.root i = tp from if_neg hi0, show hangT tp i j = tp from if_neg hj0])
  have HM := Lib.hid hM
  clear hr hM
  cases s
  · generalize z.par = zp at *
    generalize z.side = zs at *
    generalize y.root = yr at *
    have c1 := t.st.cell 1
    have c2 : w.cell? ⟨b, j * 6 + 2, none⟩ = some (.int .i64 ((m j).up : Int)) := t.cell hj (by decide)
    rw [h1] at c2
    obtain ⟨hc1, hc2⟩ := t.capB
    have hjc : j < cap := by omega
    have e2 : Hid (∀ w', Tr w' g b cap pa n tp m → Calls Tryz.prog 93 #[.pointer (some ⟨g, 0, none⟩), .int .i64 (j : Int)] w' fun e w'' => e = .returned (.int .i64 0) ∧ ∃ k, w'' = w'.drewN k) := Lib.hid (fun w' t' => by have := side_any j w' t' hj (by rw [h1]; exact hi); rwa [h2] at this)
    have e4 : Hid (∀ w', Tr w' g b cap pa n tp m → Calls Tryz.prog 93 #[.pointer (some ⟨g, 0, none⟩), .int .i64 (i : Int)] w' fun e w'' => e = .returned (.int .i64 (bit zs)) ∧ ∃ k, w'' = w'.drewN k) := Lib.hid (fun w' t' => by have := side_any i w' t' hi (by rw [h3]; exact hp); rwa [h4] at this)
    have TT := Lib.hid t; clear t
    go_enter Tryz.func94, Tryz.ntmps94
    go_wp2
    go_quiet ((go_at_call 93; exact Calls.quiet_of (e2.out _ (TT.out.drewN _))))
    have T1 := Lib.hid (TT.out.drewN nq)
    have K1 := Lib.hid ((Keep.refl (Mine g b) w).drewN nq)
    clear TT e2 c1 c2
    generalize w.drewN nq = w1 at *
    have c1 := T1.out.st.cell 1
    have c3 : w1.cell? ⟨b, i * 6 + 2, none⟩ = some (.int .i64 ((m i).up : Int)) := T1.out.cell hi (by decide)
    rw [h3] at c3
    have hic : i < cap := by omega
    go_wp2
    go_quiet ((go_at_call 93; exact Calls.quiet_of (e4.out _ (T1.out.drewN _))))
    have T2 := Lib.hid (T1.out.drewN nq)
    have K2 := Lib.hid (K1.out.drewN nq)
    clear T1 K1 e4 c1 c3
    generalize w1.drewN nq = w2 at *
    have c1 := T2.out.st.cell 1
    have ck : w2.cell? ⟨b, j * 6 + 4, none⟩ = some (.int .i64 (yr : Int)) := by rw [T2.out.cell hj (j := 4) (by decide), ← h5]; rfl
    go_wp2_with fail
    refine (hang_any yr i false w2 T2.out hy hi).mono ?_
    rintro e w3 ⟨⟨v3, rfl⟩, t3, k3⟩
    have T3 := Lib.hid t3; have K3 := Lib.hid (K2.out.trans k3); clear t3 k3 T2 K2 c1 ck
    go_wp2_with fail
    refine (hang_any i j (!false) w3 T3.out hi hj).mono ?_
    rintro e w4 ⟨⟨v4, rfl⟩, t4, k4⟩
    have T4 := Lib.hid t4; have K4 := Lib.hid (K3.out.trans k4); clear t4 k4 T3 K3
    go_wp2_with fail
    refine (hang_any j zp zs w4 T4.out hj hp).mono ?_
    rintro e w5 ⟨⟨v5, rfl⟩, t5, k5⟩
    have T5 := Lib.hid t5; have K5 := Lib.hid (K4.out.trans k5); clear t5 k5 T4 K4
    go_wp2
    go_end0
    refine ⟨⟨_, rfl⟩, ?_, K5.out⟩
    rw [HM.out, ← HT.out]
    exact T5.out
  · generalize z.par = zp at *
    generalize z.side = zs at *
    generalize y.root = yr at *
    have c1 := t.st.cell 1
    have c2 : w.cell? ⟨b, j * 6 + 2, none⟩ = some (.int .i64 ((m j).up : Int)) := t.cell hj (by decide)
    rw [h1] at c2
    obtain ⟨hc1, hc2⟩ := t.capB
    have hjc : j < cap := by omega
    have e2 : Hid (∀ w', Tr w' g b cap pa n tp m → Calls Tryz.prog 93 #[.pointer (some ⟨g, 0, none⟩), .int .i64 (j : Int)] w' fun e w'' => e = .returned (.int .i64 1) ∧ ∃ k, w'' = w'.drewN k) := Lib.hid (fun w' t' => by have := side_any j w' t' hj (by rw [h1]; exact hi); rwa [h2] at this)
    have e4 : Hid (∀ w', Tr w' g b cap pa n tp m → Calls Tryz.prog 93 #[.pointer (some ⟨g, 0, none⟩), .int .i64 (i : Int)] w' fun e w'' => e = .returned (.int .i64 (bit zs)) ∧ ∃ k, w'' = w'.drewN k) := Lib.hid (fun w' t' => by have := side_any i w' t' hi (by rw [h3]; exact hp); rwa [h4] at this)
    have TT := Lib.hid t; clear t
    go_enter Tryz.func94, Tryz.ntmps94
    go_wp2
    go_quiet ((go_at_call 93; exact Calls.quiet_of (e2.out _ (TT.out.drewN _))))
    have T1 := Lib.hid (TT.out.drewN nq)
    have K1 := Lib.hid ((Keep.refl (Mine g b) w).drewN nq)
    clear TT e2 c1 c2
    generalize w.drewN nq = w1 at *
    have c1 := T1.out.st.cell 1
    have c3 : w1.cell? ⟨b, i * 6 + 2, none⟩ = some (.int .i64 ((m i).up : Int)) := T1.out.cell hi (by decide)
    rw [h3] at c3
    have hic : i < cap := by omega
    go_wp2
    go_quiet ((go_at_call 93; exact Calls.quiet_of (e4.out _ (T1.out.drewN _))))
    have T2 := Lib.hid (T1.out.drewN nq)
    have K2 := Lib.hid (K1.out.drewN nq)
    clear T1 K1 e4 c1 c3
    generalize w1.drewN nq = w2 at *
    have c1 := T2.out.st.cell 1
    have ck : w2.cell? ⟨b, j * 6 + 3, none⟩ = some (.int .i64 (yr : Int)) := by rw [T2.out.cell hj (j := 3) (by decide), ← h5]; rfl
    go_wp2_with fail
    refine (hang_any yr i true w2 T2.out hy hi).mono ?_
    rintro e w3 ⟨⟨v3, rfl⟩, t3, k3⟩
    have T3 := Lib.hid t3; have K3 := Lib.hid (K2.out.trans k3); clear t3 k3 T2 K2 c1 ck
    go_wp2_with fail
    refine (hang_any i j (!true) w3 T3.out hi hj).mono ?_
    rintro e w4 ⟨⟨v4, rfl⟩, t4, k4⟩
    have T4 := Lib.hid t4; have K4 := Lib.hid (K3.out.trans k4); clear t4 k4 T3 K3
    go_wp2_with fail
    refine (hang_any j zp zs w4 T4.out hj hp).mono ?_
    rintro e w5 ⟨⟨v5, rfl⟩, t5, k5⟩
    have T5 := Lib.hid t5; have K5 := Lib.hid (K4.out.trans k5); clear t5 k5 T4 K4
    go_wp2
    go_end0
    refine ⟨⟨_, rfl⟩, ?_, K5.out⟩
    rw [HM.out, ← HT.out]
    exact T5.out
end Go.Proofs.YtnljjdfajmjdjaaGreat
