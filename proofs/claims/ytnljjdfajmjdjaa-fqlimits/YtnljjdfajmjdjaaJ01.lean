/-
  Numbers of 64 bits without a sign; words that several texts need. No program is spoken of. Conditions: none.
  Words on memory: a slice that reads as a list of numbers, nil let in; a block that is known whole. No program is spoken of. Conditions: none.
  Words on memory, more: a step that turns no block but those of a set, nor the streams ('Keep'). No program is spoken of. Conditions: none.
  Words on memory: a slice that has its block for itself, known by the list of what it holds ('Owns'); where it lies behind an append. No program is spoken of. Conditions: none.
  Words on memory: an append to a slice that has its block for itself, some cells an element; where the new one lies. No program is spoken of. Conditions: none.
  Words on memory: things that lie apart from each other, each with blocks of its own, all new since a world: a step that turns the blocks of one leaves all others. No program is spoken of. Conditions: none.
-/
import Derived.WalkKit
import Derived.OpenShut
import Derived.Below
import Derived.Laws.OwnMore
import Derived.Lib.Hide
import Derived.Deep.Draws
import Derived.Maps.AppendAt
import Derived.OwnWalk
import Derived.WalkSmall
namespace Go.Proofs.Ytnljjdfajmjdjaa
open Go.RowKit
set_option maxRecDepth 100000
def Num (a : Int) : Prop := 0 ≤ a ∧ a ≤ 18446744073709551615
theorem ret_i {k : IntKind} {a b : Int} (h : a = b) : Ending.returned (.int k a) = .returned (.int k b) := by rw [h]
theorem ret_b {a b : Bool} (h : a = b) : Ending.returned (.bool a) = .returned (.bool b) := by rw [h]
theorem results_cell1 {fn : Func} {p : Tmp} {ty : TypeId} (h : fn.results = #[.cell p ty]) (tmps : Array Value) (P : Program) (w : World) :
    (results fn tmps).run P w = ((asAddr (tmps.getD p undef)).run P w).andThen fun a w₁ => (loadVar ty a).run P w₁ := by
  simp only [results, h]
  simp [Sem.run_bind, Result.andThen]
theorem addr_plain {W : World} {x : Addr} {v : Value} (h : W.cell? x = some v) : ∃ b off, x = ⟨b, off, none⟩ := by
  obtain ⟨b, off, spot⟩ := x
  have hspot : spot = none := by simpa using World.cell?_spot h
  exact ⟨b, off, by rw [hspot]⟩
/-- A list out of a rule for its members. -/
theorem list_of {α : Type} (n : Nat) (R : Nat → α → Prop) (h : ∀ i, i < n → ∃ x, R i x) : ∃ l : List α, l.length = n ∧ ∀ i x, l[i]? = some x → R i x := by
  induction n with
  | zero => exact ⟨[], rfl, fun i x hx => by simp at hx⟩
  | succ n ih =>
    obtain ⟨l, hl, hR⟩ := ih (fun i hi => h i (by omega))
    obtain ⟨x, hx⟩ := h n (by omega)
    refine ⟨l ++ [x], by simp [hl], fun i y hy => ?_⟩
    by_cases e : i < n
    · rw [List.getElem?_append_left (by omega)] at hy; exact hR i y hy
    · rw [List.getElem?_append_right (by omega)] at hy
      have : i = n := by
        have := (List.getElem?_eq_some_iff.1 hy).1
        simp at this; omega
      subst this
      rw [hl] at hy
      simp at hy
      subst hy
      exact hx
end Go.Proofs.Ytnljjdfajmjdjaa
namespace Go.Proofs.Ytnljjdfajmjdjaa
open Go.RowKit
set_option maxRecDepth 100000

/-- The slice that begins at 'a' holds the numbers 'zs'. -/
def Rd (k : IntKind) (w : World) (a : Option Addr) (zs : List Int) : Prop :=
  ∀ i, i < zs.length → ∃ b off, a = some ⟨b, off, none⟩ ∧ b < w.heap.size ∧ w.cell? ⟨b, off + i, none⟩ = some (.int k (zs.getD i 0))

theorem lt_of_cell {w : World} {p : Addr} {v : Value} (h : w.cell? p = some v) : p.block < w.heap.size := by
  rcases Nat.lt_or_ge p.block w.heap.size with hlt | hge
  · exact hlt
  · have e : w.heap[p.block]? = none := Array.getElem?_eq_none hge
    simp [World.cell?, e] at h

theorem Rd.below {k : IntKind} {w w' : World} {a : Option Addr} {zs : List Int} (h : Rd k w a zs) (hb : Below w.heap.size w w') : Rd k w' a zs := by
  intro i hi
  obtain ⟨b, off, e, hlt, hc⟩ := h i hi
  exact ⟨b, off, e, Nat.lt_of_lt_of_le hlt hb.size, (hb.cell (p := ⟨b, off + i, none⟩) hlt).trans hc⟩

/-- Block g is just the cells cs, of element type t, none frozen. -/
def Whole (w : World) (g : Nat) (t : TypeId) (cs : Array Value) : Prop := w.heap[g]? = some (.cells cs t (0, 0))

theorem Whole.lt {w : World} {g : Nat} {t : TypeId} {cs : Array Value} (h : Whole w g t cs) : g < w.heap.size := by
  rcases Nat.lt_or_ge g w.heap.size with hlt | hge
  · exact hlt
  · rw [Whole, Array.getElem?_eq_none hge] at h; cases h
theorem Whole.cell {w : World} {g : Nat} {t : TypeId} {cs : Array Value} (h : Whole w g t cs) (i : Nat) : w.cell? ⟨g, i, none⟩ = cs[i]? := cell_of_row w g i cs t (0, 0) h
theorem Whole.free {w : World} {g : Nat} {t : TypeId} {cs : Array Value} (h : Whole w g t cs) (i : Nat) : w.frozen? ⟨g, i, none⟩ = false := frozen_of_row w g i cs t h
theorem Whole.put {w : World} {g : Nat} {t : TypeId} {cs : Array Value} (h : Whole w g t cs) (i : Nat) (u : Value) : Whole (w.setCell ⟨g, i, none⟩ u) g t (cs.setIfInBounds i u) := heap_setCell_same w g i cs t u h
theorem Whole.drew {w : World} {g : Nat} {t : TypeId} {cs : Array Value} (h : Whole w g t cs) : Whole w.drew g t cs := h
theorem Whole.below {w w' : World} {g B : Nat} {t : TypeId} {cs : Array Value} (h : Whole w g t cs) (hb : Below B w w') (hg : g < B) : Whole w' g t cs := (hb.block g hg).trans h
end Go.Proofs.Ytnljjdfajmjdjaa
namespace Go.Proofs.Ytnljjdfajmjdjaa
open Go.RowKit
set_option maxRecDepth 100000

/-- Of the blocks that were there all but those in S are as they were; the streams are as they were; no block has gone. -/
structure Keep (S : Nat → Prop) (w w' : World) : Prop where
  os : w'.os = w.os
  tape : w'.tape = w.tape
  output : w'.output = w.output
  size : w.heap.size ≤ w'.heap.size
  block : ∀ k, k < w.heap.size → ¬ S k → w'.heap[k]? = w.heap[k]?

section
variable {S T : Nat → Prop} {w w' w'' : World}
theorem Keep.refl (S : Nat → Prop) (w : World) : Keep S w w := ⟨rfl, rfl, rfl, Nat.le_refl _, fun _ _ _ => rfl⟩
theorem Keep.trans (h : Keep S w w') (k : Keep S w' w'') : Keep S w w'' :=
  ⟨k.os.trans h.os, k.tape.trans h.tape, k.output.trans h.output, Nat.le_trans h.size k.size, fun i hi hs => (k.block i (Nat.lt_of_lt_of_le hi h.size) hs).trans (h.block i hi hs)⟩
/-- The second step may turn what is new behind the first, too. -/
theorem Keep.then (h : Keep S w w') (k : Keep T w' w'') (hT : ∀ i, T i → i < w.heap.size → S i) : Keep S w w'' :=
  ⟨k.os.trans h.os, k.tape.trans h.tape, k.output.trans h.output, Nat.le_trans h.size k.size, fun i hi hs => (k.block i (Nat.lt_of_lt_of_le hi h.size) (fun t => hs (hT i t hi))).trans (h.block i hi hs)⟩
theorem Keep.mono (h : Keep S w w') (hT : ∀ i, S i → T i) : Keep T w w' := ⟨h.os, h.tape, h.output, h.size, fun i hi hs => h.block i hi (fun s => hs (hT i s))⟩
theorem Keep.drew (h : Keep S w w') : Keep S w w'.drew := ⟨h.os, h.tape, h.output, h.size, h.block⟩
theorem Keep.drewN (h : Keep S w w') (n : Nat) : Keep S w (w'.drewN n) := ⟨h.os, h.tape, h.output, h.size, h.block⟩
theorem Keep.below {B : Nat} (h : Keep S w w') (hB : B ≤ w.heap.size) (hS : ∀ i, S i → B ≤ i) : Below B w w' :=
  ⟨h.os, h.tape, h.output, h.size, fun k hk => h.block k (by omega) (fun s => by have := hS k s; omega)⟩
theorem Keep.of_below (h : Below w.heap.size w w') : Keep S w w' := ⟨h.os, h.tape, h.output, h.size, fun k hk _ => h.block k hk⟩
theorem Keep.alloc (h : Keep S w w') (o : Obj) : Keep S w (w'.alloc o) :=
  ⟨h.os, h.tape, h.output, by have := h.size; simp; omega, fun k hk hs => (Below.heap_alloc w' o k (Nat.lt_of_lt_of_le hk h.size)).trans (h.block k hk hs)⟩
theorem Keep.setCell (h : Keep S w w') {p : Addr} (hp : S p.block ∨ w.heap.size ≤ p.block) (u : Value) : Keep S w (w'.setCell p u) :=
  ⟨h.os, h.tape, h.output, by have := h.size; simp [World.setCell]; omega, fun k hk hs => (Below.heap_setCell w' p u k (fun e => by subst e; rcases hp with hp | hp; exact hs hp; omega)).trans (h.block k hk hs)⟩
theorem Keep.cell (h : Keep S w w') {p : Addr} (hp : p.block < w.heap.size) (hs : ¬ S p.block) : w'.cell? p = w.cell? p := World.cell?_of_block (w := w) (h.block p.block hp hs)
theorem Keep.frozen (h : Keep S w w') {p : Addr} (hp : p.block < w.heap.size) (hs : ¬ S p.block) : w'.frozen? p = w.frozen? p := World.frozen?_of_block (w := w) (h.block p.block hp hs)
theorem Whole.keep {g : Nat} {t : TypeId} {cs : Array Value} (h : Whole w g t cs) (hk : Keep S w w') (hs : ¬ S g) : Whole w' g t cs := (hk.block g h.lt hs).trans h
theorem Whole.new (w : World) (t : TypeId) (cs : Array Value) : Whole (w.alloc (.cells cs t)) w.heap.size t cs := heap_alloc_new w _
theorem Whole.alloc {g : Nat} {t : TypeId} {cs : Array Value} (h : Whole w g t cs) (o : Obj) : Whole (w.alloc o) g t cs := (Below.heap_alloc w o g h.lt).trans h
theorem Whole.far {g : Nat} {t : TypeId} {cs : Array Value} (h : Whole w g t cs) {p : Addr} (hp : g ≠ p.block) (u : Value) : Whole (w.setCell p u) g t cs := (Below.heap_setCell w p u g hp).trans h
theorem Whole.drewN {g : Nat} {t : TypeId} {cs : Array Value} (h : Whole w g t cs) (n : Nat) : Whole (w.drewN n) g t cs := h
end
end Go.Proofs.Ytnljjdfajmjdjaa
namespace Go.Proofs.Ytnljjdfajmjdjaa
open Go.RowKit
set_option maxRecDepth 100000

/-- v is a slice that begins at its block's first cell and holds just xs (one cell an element), or nil. -/
def Owns (w : World) (e : TypeId) (v : Value) (xs : List Value) : Prop := w.ownsRow 0 e 1 v xs.length xs

section
variable {w w' : World} {e t : TypeId} {v : Value} {xs : List Value}
theorem Owns.nil (w : World) (e : TypeId) : Owns w e (.slice none 0 0) [] := World.ownsRow_nil _ _ _ _
theorem Owns.shape (h : Owns w e v xs) : ∃ a cap, v = .slice a xs.length cap ∧ (a = none → cap = 0 ∧ xs = []) ∧ ∀ ad, a = some ad → ∃ g, ad = ⟨g, 0, none⟩ := by
  rcases h.2 with ⟨rfl, h0⟩ | ⟨g, cap, cur, rfl, _⟩
  · exact ⟨none, 0, by rw [h0], fun _ => ⟨rfl, List.eq_nil_of_length_eq_zero h0⟩, fun _ h => (by cases h)⟩
  · exact ⟨_, cap, rfl, fun h => (by cases h), fun ad h => ⟨g, by cases h; rfl⟩⟩
theorem Owns.pos (h : Owns w e v xs) (hp : 0 < xs.length) : ∃ g cap, v = .slice (some ⟨g, 0, none⟩) xs.length cap := by
  rcases h.2 with ⟨rfl, h0⟩ | ⟨g, cap, cur, rfl, _⟩
  · omega
  · exact ⟨g, cap, rfl⟩
theorem Owns.capLe {g n cap : Nat} (h : Owns w e (.slice (some ⟨g, 0, none⟩) n cap) xs) : n = xs.length ∧ n ≤ cap ∧ cap ≤ maxLen := by
  rcases h.2 with ⟨h', _⟩ | ⟨g', cap', cur, h', _, _, h1, h2, _⟩
  · cases h'
  · cases h'; exact ⟨rfl, h1, h2⟩
theorem Owns.lt (h : Owns w e v xs) {k : Nat} (hk : v.ownBlock = some k) : k < w.heap.size := (World.ownsRow.lt h k hk).2
theorem Owns.cell {g n cap : Nat} (h : Owns w e (.slice (some ⟨g, 0, none⟩) n cap) xs) (j : Nat) (hj : j < xs.length) : w.cell? ⟨g, j, none⟩ = xs[j]? := by obtain rfl := h.capLe.1; exact World.ownsRow.cellAt h j (by omega)
theorem Owns.free {g n cap : Nat} (h : Owns w e (.slice (some ⟨g, 0, none⟩) n cap) xs) (j : Nat) : w.frozen? ⟨g, j, none⟩ = false := by obtain rfl := h.capLe.1; exact World.ownsRow.frozenAt h j
theorem Owns.by (h : Owns w e v xs) (hb : ∀ k, v.ownBlock = some k → k < w.heap.size → w'.heap[k]? = w.heap[k]?) : Owns w' e v xs := by
  refine ⟨h.1, ?_⟩
  rcases h.2 with hn | ⟨g, cap, cur, rfl, h0, hgg, rest⟩
  · exact .inl hn
  · exact .inr ⟨g, cap, cur, rfl, h0, (hb g rfl (Array.getElem?_eq_some_iff.1 hgg).1).trans hgg, rest⟩
theorem Owns.keep {S : Nat → Prop} (h : Owns w e v xs) (hk : Keep S w w') (hs : ∀ k, v.ownBlock = some k → ¬ S k) : Owns w' e v xs := h.by fun k hv hlt => hk.block k hlt (hs k hv)
theorem Owns.alloc (h : Owns w e v xs) (o : Obj) : Owns (w.alloc o) e v xs := World.ownsRow.alloc h o
theorem Owns.drew (h : Owns w e v xs) : Owns w.drew e v xs := h
theorem Owns.far (h : Owns w e v xs) {p : Addr} (hp : v.ownBlock ≠ some p.block) (u : Value) : Owns (w.setCell p u) e v xs := ownsRow_setCell_other h hp u
theorem Owns.put {g n cap : Nat} (h : Owns w e (.slice (some ⟨g, 0, none⟩) n cap) xs) (j : Nat) (u : Value) : Owns (w.setCell ⟨g, j, none⟩ u) e (.slice (some ⟨g, 0, none⟩) n cap) (xs.set j u) := by
  obtain rfl := h.capLe.1
  have := (World.ownsRow.stored h j u).1
  unfold Owns; rwa [List.length_set]
theorem Owns.pop {g n cap : Nat} {x : Value} (h : Owns w e (.slice (some ⟨g, 0, none⟩) n cap) (xs ++ [x])) : Owns w e (.slice (some ⟨g, 0, none⟩) xs.length cap) xs := by
  obtain rfl : n = xs.length + 1 := by simpa using h.capLe.1
  refine ownsRow_pop (last := [x]) (by simp) ?_
  have := h
  unfold Owns at this
  rwa [List.length_append, List.length_singleton] at this
theorem Owns.ne {g : Nat} {cs : Array Value} (h : Owns w e v xs) (hw : Whole w g t cs) (hte : t ≠ e) : v.ownBlock ≠ some g := by
  rcases h.2 with ⟨rfl, _⟩ | ⟨g', cap, cur, rfl, _, hgb, _⟩
  · simp [Value.ownBlock]
  · intro e'
    obtain rfl : g' = g := by simpa [Value.ownBlock] using e'
    have := (show w.heap[g']? = _ from hw).symm.trans hgb
    simp at this
    exact hte this.2
theorem Owns.apart {e' : TypeId} {v' : Value} {xs' : List Value} (h : Owns w e v xs) (h' : Owns w e' v' xs') (hte : e ≠ e') {k : Nat} (hk : v.ownBlock = some k) : v'.ownBlock ≠ some k := by
  rcases h.2 with ⟨rfl, _⟩ | ⟨g, cap, cur, rfl, _, hgb, _⟩
  · simp [Value.ownBlock] at hk
  · obtain rfl : g = k := by simpa [Value.ownBlock] using hk
    rcases h'.2 with ⟨rfl, _⟩ | ⟨g', cap', cur', rfl, _, hgb', _⟩
    · simp [Value.ownBlock]
    · intro e''
      obtain rfl : g' = g := by simpa [Value.ownBlock] using e''
      have := hgb.symm.trans hgb'
      simp at this
      exact hte this.2
theorem Owns.lit (w : World) (e : TypeId) (cs : List Value) (hm : cs.length ≤ maxLen) : Owns (w.alloc (.cells cs.toArray e)) e (.slice (some ⟨w.heap.size, 0, none⟩) cs.length cs.length) cs :=
  World.ownsRow_lit (base := 0) w cs.toArray cs.length (Nat.zero_le _) hm (by simp)
/-- The cells of what is read, for an append from it. -/
theorem Owns.news {g n cap : Nat} (h : Owns w e (.slice (some ⟨g, 0, none⟩) n cap) xs) : ∀ j u, xs[j]? = some u → w.cell? ((⟨g, 0, none⟩ : Addr).add j) = some u := by obtain rfl := h.capLe.1; exact World.ownsRow.cells h (g := g) rfl
end

theorem Keep.of_grown {w w' : World} {row : Option Nat} (h : w.grownBy w' row) : Keep (fun k => row = some k) w w' := ⟨h.os, h.tape, h.output, h.size, fun k hk hs => h.block k hk (fun e => hs e.symm)⟩

section
variable {P : Program} (w : World)
/-- An append of m cells behind what one owns: who owns what then, what has turned, and where the new one lies. -/
theorem run_append_owns (t ty e : TypeId) (i : TypeInfo) (z : Value) (bytes : Nat) (ht : P.underlying t = some (.slice e)) (hi : P.info? e = some i) (hz : i.zero = some z)
    (hsize : i.size = 1) (hby : i.bytes = bytes) (hzs : z.cells.size = 1) (v : Value) (xs : List Value) (hown : Owns w e v xs)
    (src : Option Addr) (m c : Nat) (news : List Value) (hl : news.length = m) (hn : src = none → m = 0 ∧ c = 0) (hnews : ∀ a, src = some a → ∀ j u, news[j]? = some u → w.cell? (a.add j) = some u) (h1 : ∀ u ∈ news, u.oneCell' = true)
    (h63 : xs.length + m ≤ maxLen) (hbytes : (xs.length + m) * bytes ≤ 140737488355328) :
    ∃ v' w', (Builtin.append_ #[t, t] ty #[v, .slice src m c]).run P w = .ok v' w' ∧ Owns w' e v' (xs ++ news) ∧ Keep (fun k => v.ownBlock = some k) w w' ∧ (∀ k, v'.ownBlock = some k → v.ownBlock = some k ∨ w.heap.size ≤ k) ∧
      (v' = .slice none 0 0 ↔ v = .slice none 0 0 ∧ m = 0) := by
  cases src with
  | none =>
    obtain ⟨rfl, rfl⟩ := hn rfl
    obtain rfl : news = [] := List.eq_nil_of_length_eq_zero hl
    exact ⟨v, w, run_append_owned_none (P := P) w 0 t ty e i 1 ht hi v xs.length xs hown, by simpa using hown, Keep.refl _ _, fun k hk => .inl hk, by simp⟩
  | some a =>
    have hnews := hnews a rfl
    obtain ⟨v', w', hr, hown', hg, hnil⟩ := run_append_own (P := P) w 0 t ty e i z 1 bytes ht hi hz hsize hby hzs (by decide) v xs.length xs hown a m c news (by simpa using hl) hnews h1 h63 hbytes (Nat.zero_le _)
    refine ⟨v', w', hr, ?_, Keep.of_grown hg, fun k hk => ?_, hnil⟩
    · unfold Owns; rwa [List.length_append, hl]
    rcases hown.2 with ⟨rfl, h0⟩ | ⟨g, cap, cur, rfl, _, hgb, hnc, hcm, hcs, htake⟩
    · obtain rfl := List.eq_nil_of_length_eq_zero h0
      obtain ⟨v2, w2, hr2, hown2, _⟩ := run_append_own (P := P) w w.heap.size t ty e i z 1 bytes ht hi hz hsize hby hzs (by decide) (.slice none 0 0) 0 [] (World.ownsRow_nil _ _ _ _) a m c news (by simpa using hl) hnews h1 h63 hbytes (Nat.le_refl _)
      rw [hr] at hr2
      cases hr2
      exact .inr (hown2.lt k hk).1
    · by_cases hroom : xs.length + m ≤ cap
      · have hr2 := run_append_room (P := P) w t ty e i ht hi g xs.length cap cur hgb a m c news (by rw [hsize]; simpa using hl) hnews h1 hroom (by rw [hsize, hcs, hl]; omega)
        rw [hr] at hr2
        cases hr2
        exact .inl hk
      · have hr2 := run_append_grow (P := P) w t ty e i z ht hi hz ⟨g, 0, none⟩ xs.length cap xs (by rw [hsize]; simp) (hown.cells (g := g) rfl) a m c news (by rw [hsize]; simpa using hl) hnews (by omega) (by unfold maxLen at h63; omega) (growslice_fits (by omega) (by rw [hby]; exact hbytes))
        rw [hr] at hr2
        cases hr2
        simp [Value.ownBlock] at hk
        exact .inr (by omega)

theorem wpList_append_owns {w : World} {ops : Array Oper} {rest : List Oper} {o : Oper} {a : Act} {Q : Exit → Act → World → Prop} (hgd : o.guard = none) (s x : Operand) (t : TypeId)
    (ho : o.op = .call { callee := .builtin .append, args := #[s, x], argTypes := #[t, t] })
    (e : TypeId) (i : TypeInfo) (z : Value) (bytes : Nat) (ht : P.underlying t = some (.slice e)) (hi : P.info? e = some i) (hz : i.zero = some z)
    (hsize : i.size = 1) (hby : i.bytes = bytes) (hzs : z.cells.size = 1) (v : Value) (xs : List Value) (hs : a.eval s = v) (hown : Owns w e v xs)
    (src : Option Addr) (m c : Nat) (news : List Value) (hx : a.eval x = .slice src m c) (hl : news.length = m) (hn : src = none → m = 0 ∧ c = 0) (hnews : ∀ a, src = some a → ∀ j u, news[j]? = some u → w.cell? (a.add j) = some u) (h1 : ∀ u ∈ news, u.oneCell' = true)
    (h63 : xs.length + m ≤ maxLen) (hbytes : (xs.length + m) * bytes ≤ 140737488355328)
    (h : ∀ v' w', Owns w' e v' (xs ++ news) → Keep (fun k => v.ownBlock = some k) w w' → (∀ k, v'.ownBlock = some k → v.ownBlock = some k ∨ w.heap.size ≤ k) → (v' = .slice none 0 0 ↔ v = .slice none 0 0 ∧ m = 0) → wpList P ops Q rest (a.put o.dst v') w') : wpList P ops Q (o :: rest) a w := by
  refine wpList_plain hgd fun K hK => ?_
  obtain ⟨v', w', hr, h2, h3, h4, h5⟩ := run_append_owns (P := P) w t o.type e i z bytes ht hi hz hsize hby hzs v xs hown src m c news hl hn hnews h1 h63 hbytes
  unfold Oper.wp execOp
  simp only [ho, resolve, invoke, builtin, Sem.run_bind, Sem.run_pure, Result.andThen_ok, List.map_toArray, List.map_cons, List.map_nil, hs, hx, hr]
  exact hK _ _ (h v' w' h2 h3 h4 h5)
end
theorem one_news (w : World) (x : Value) (t : TypeId) : ∀ a, (some ⟨w.heap.size, 0, none⟩ : Option Addr) = some a → ∀ j u, [x][j]? = some u → (w.alloc (.cells #[x] t)).cell? (a.add j) = some u := fun a h => by cases h; exact cell_one_new w x t
end Go.Proofs.Ytnljjdfajmjdjaa
namespace Go.Proofs.Ytnljjdfajmjdjaa
open Go.RowKit
set_option maxRecDepth 100000
section
variable {P : Program} (w : World)
theorem run_append_rows (t ty e : TypeId) (i : TypeInfo) (z : Value) (sz bytes : Nat) (ht : P.underlying t = some (.slice e)) (hi : P.info? e = some i) (hz : i.zero = some z)
    (hsize : i.size = sz) (hby : i.bytes = bytes) (hzs : z.cells.size = sz) (hsz : 0 < sz) (v : Value) (n : Nat) (xs : List Value) (hown : w.ownsRow 0 e sz v n xs)
    (src : Option Addr) (m c : Nat) (news : List Value) (hl : news.length = m * sz) (hn : src = none → m = 0 ∧ c = 0) (hnews : ∀ a, src = some a → ∀ j u, news[j]? = some u → w.cell? (a.add j) = some u) (h1 : ∀ u ∈ news, u.oneCell' = true)
    (h63 : n + m ≤ maxLen) (hbytes : (n + m) * bytes ≤ 140737488355328) :
    ∃ v' w', (Builtin.append_ #[t, t] ty #[v, .slice src m c]).run P w = .ok v' w' ∧ w'.ownsRow 0 e sz v' (n + m) (xs ++ news) ∧ Keep (fun k => v.ownBlock = some k) w w' ∧ (∀ k, v'.ownBlock = some k → v.ownBlock = some k ∨ w.heap.size ≤ k) ∧
      (v' = .slice none 0 0 ↔ v = .slice none 0 0 ∧ m = 0) := by
  cases src with
  | none =>
    obtain ⟨rfl, rfl⟩ := hn rfl
    obtain rfl : news = [] := List.eq_nil_of_length_eq_zero (by simpa using hl)
    exact ⟨v, w, run_append_owned_none (P := P) w 0 t ty e i sz ht hi v n xs hown, by simpa using hown, Keep.refl _ _, fun k hk => .inl hk, by simp⟩
  | some a =>
    have hnews := hnews a rfl
    obtain ⟨v', w', hr, hown', hg, hnil⟩ := run_append_own (P := P) w 0 t ty e i z sz bytes ht hi hz hsize hby hzs hsz v n xs hown a m c news hl hnews h1 h63 hbytes (Nat.zero_le _)
    refine ⟨v', w', hr, hown', Keep.of_grown hg, fun k hk => ?_, hnil⟩
    rcases hown.2 with ⟨rfl, h0⟩ | ⟨g, cap, cur, rfl, _, hgb, hnc, hcm, hcs, htake⟩
    · subst h0
      obtain rfl : xs = [] := List.eq_nil_of_length_eq_zero (by have := hown.1; simpa using this)
      obtain ⟨v2, w2, hr2, hown2, _⟩ := run_append_own (P := P) w w.heap.size t ty e i z sz bytes ht hi hz hsize hby hzs hsz (.slice none 0 0) 0 [] (World.ownsRow_nil _ _ _ _) a m c news hl hnews h1 h63 hbytes (Nat.le_refl _)
      rw [hr] at hr2
      cases hr2
      exact .inr (hown2.lt k hk).1
    · by_cases hroom : n + m ≤ cap
      · have hfit : n * sz + m * sz ≤ cap * sz := by rw [← Nat.add_mul]; exact Nat.mul_le_mul_right _ hroom
        have hr2 := run_append_room (P := P) w t ty e i ht hi g n cap cur hgb a m c news (by rw [hsize]; exact hl) hnews h1 hroom (by rw [hsize, hcs, hl]; exact hfit)
        rw [hr] at hr2
        cases hr2
        exact .inl hk
      · have hr2 := run_append_grow (P := P) w t ty e i z ht hi hz ⟨g, 0, none⟩ n cap xs (by rw [hsize]; exact hown.1) (hown.cells (g := g) rfl) a m c news (by rw [hsize]; exact hl) hnews (by omega) (by unfold maxLen at h63; omega) (growslice_fits (by omega) (by rw [hby]; exact hbytes))
        rw [hr] at hr2
        cases hr2
        simp [Value.ownBlock] at hk
        exact .inr (by omega)

theorem wpList_append_rows {w : World} {ops : Array Oper} {rest : List Oper} {o : Oper} {a : Act} {Q : Exit → Act → World → Prop} (hgd : o.guard = none) (s x : Operand) (t : TypeId)
    (ho : o.op = .call { callee := .builtin .append, args := #[s, x], argTypes := #[t, t] })
    (e : TypeId) (i : TypeInfo) (z : Value) (sz bytes : Nat) (ht : P.underlying t = some (.slice e)) (hi : P.info? e = some i) (hz : i.zero = some z)
    (hsize : i.size = sz) (hby : i.bytes = bytes) (hzs : z.cells.size = sz) (hsz : 0 < sz) (v : Value) (n : Nat) (xs : List Value) (hs : a.eval s = v) (hown : w.ownsRow 0 e sz v n xs)
    (src : Option Addr) (m c : Nat) (news : List Value) (hx : a.eval x = .slice src m c) (hl : news.length = m * sz) (hn : src = none → m = 0 ∧ c = 0) (hnews : ∀ a, src = some a → ∀ j u, news[j]? = some u → w.cell? (a.add j) = some u) (h1 : ∀ u ∈ news, u.oneCell' = true)
    (h63 : n + m ≤ maxLen) (hbytes : (n + m) * bytes ≤ 140737488355328)
    (h : ∀ v' w', w'.ownsRow 0 e sz v' (n + m) (xs ++ news) → Keep (fun k => v.ownBlock = some k) w w' → (∀ k, v'.ownBlock = some k → v.ownBlock = some k ∨ w.heap.size ≤ k) → (v' = .slice none 0 0 ↔ v = .slice none 0 0 ∧ m = 0) → wpList P ops Q rest (a.put o.dst v') w') : wpList P ops Q (o :: rest) a w := by
  refine wpList_plain hgd fun K hK => ?_
  obtain ⟨v', w', hr, h2, h3, h4, h5⟩ := run_append_rows (P := P) w t o.type e i z sz bytes ht hi hz hsize hby hzs hsz v n xs hown src m c news hl hn hnews h1 h63 hbytes
  unfold Oper.wp execOp
  simp only [ho, resolve, invoke, builtin, Sem.run_bind, Sem.run_pure, Result.andThen_ok, List.map_toArray, List.map_cons, List.map_nil, hs, hx, hr]
  exact hK _ _ (h v' w' h2 h3 h4 h5)
end
/-- The cells of a row that has just been made, for an append from it. -/
theorem row_news (w : World) (cs : List Value) (t : TypeId) : ∀ a, (some ⟨w.heap.size, 0, none⟩ : Option Addr) = some a → ∀ j u, cs[j]? = some u → (w.alloc (.cells cs.toArray t)).cell? (a.add j) = some u := fun a h j u hu => by
  cases h
  have : (⟨w.heap.size, 0, none⟩ : Addr).add j = ⟨w.heap.size, j, none⟩ := by unfold Addr.add; split <;> simp_all
  rw [this, (Whole.new w t cs.toArray).cell j]
  simpa using hu
end Go.Proofs.Ytnljjdfajmjdjaa
namespace Go.Proofs.Ytnljjdfajmjdjaa
open Go.RowKit
set_option maxRecDepth 100000

/-- A thing in memory: what is said of a world, and which blocks are its own: as long as none of them turns, it is so still. -/
structure Thing where
  at_ : World → Prop
  own : Nat → Prop
  keep : ∀ {w w' : World} {S : Nat → Prop}, at_ w → Keep S w w' → (∀ k, own k → ¬ S k) → at_ w'
  lt : ∀ {w : World} {k : Nat}, at_ w → own k → k < w.heap.size
def Apart (s t : Thing) : Prop := ∀ k, s.own k → ¬ t.own k
theorem Apart.symm {s t : Thing} (h : Apart s t) : Apart t s := fun k ht hs => h k hs ht
/-- A block known whole. -/
def blkT (g : Nat) (t : TypeId) (cs : Array Value) : Thing := ⟨fun w => Whole w g t cs, fun k => k = g, fun h hk hs => h.keep hk (hs g rfl), fun h e => e ▸ h.lt⟩
theorem ownsRow_keep {w w' : World} {S : Nat → Prop} {e : TypeId} {sz n : Nat} {v : Value} {xs : List Value} (h : w.ownsRow 0 e sz v n xs) (hk : Keep S w w') (hs : ∀ k, v.ownBlock = some k → ¬ S k) : w'.ownsRow 0 e sz v n xs := by
  refine ⟨h.1, ?_⟩
  rcases h.2 with hn | ⟨g, cap, cur, rfl, h0, hgg, rest⟩
  · exact .inl hn
  · exact .inr ⟨g, cap, cur, rfl, h0, (hk.block g (Array.getElem?_eq_some_iff.1 hgg).1 (hs g rfl)).trans hgg, rest⟩
/-- A slice that has its row for itself, or nil. -/
def rowT (v : Value) (e : TypeId) (sz n : Nat) (xs : List Value) : Thing := ⟨fun w => w.ownsRow 0 e sz v n xs, fun k => v.ownBlock = some k, fun h hk hs => ownsRow_keep h hk hs, fun h e => (World.ownsRow.lt h _ e).2⟩

structure Room (wB w : World) (L : List Thing) : Prop where
  all : ∀ t ∈ L, t.at_ w
  lo : ∀ t ∈ L, ∀ k, t.own k → wB.heap.size ≤ k
  dis : L.Pairwise Apart
  bel : Below wB.heap.size wB w
section
variable {wB w w' : World} {L M : List Thing} {a b c t t' : Thing}
theorem Room.begin (w : World) : Room w w [] := ⟨fun _ h => by (cases h), fun _ h => by (cases h), List.Pairwise.nil, Below.refl _ _⟩
theorem Room.get (h : Room wB w L) (ht : t ∈ L) : t.at_ w := h.all t ht
theorem Room.get0 (h : Room wB w (t :: L)) : t.at_ w := h.all t (List.Mem.head _)
theorem Room.get1 (h : Room wB w (a :: t :: L)) : t.at_ w := h.all t (List.Mem.tail _ (List.Mem.head _))
theorem Room.get2 (h : Room wB w (a :: b :: t :: L)) : t.at_ w := h.all t (List.Mem.tail _ (List.Mem.tail _ (List.Mem.head _)))
theorem Room.get3 (h : Room wB w (a :: b :: c :: t :: L)) : t.at_ w := h.all t (List.Mem.tail _ (List.Mem.tail _ (List.Mem.tail _ (List.Mem.head _))))
theorem Room.perm (h : Room wB w L) (p : L.Perm M) : Room wB w M := ⟨fun t ht => h.all t (p.mem_iff.2 ht), fun t ht => h.lo t (p.mem_iff.2 ht), h.dis.perm p (fun k => k.symm), h.bel⟩
theorem Room.less (h : Room wB w L) (s : M.Sublist L) : Room wB w M := ⟨fun t ht => h.all t (s.subset ht), fun t ht => h.lo t (s.subset ht), h.dis.sublist s, h.bel⟩
theorem Room.tail (h : Room wB w (t :: L)) : Room wB w L := h.less (List.sublist_cons_self _ _)
theorem Room.kept (h : Room wB w L) (hk : Keep (fun _ => False) w w') : Room wB w' L :=
  ⟨fun t ht => t.keep (h.all t ht) hk (fun _ _ => id), h.lo, h.dis, h.bel.trans (hk.below h.bel.size (fun _ h => h.elim))⟩
theorem Room.drew (h : Room wB w L) : Room wB w.drew L := h.kept (Keep.refl _ _).drew
theorem Room.drewN (h : Room wB w L) (n : Nat) : Room wB (w.drewN n) L := h.kept ((Keep.refl _ _).drewN n)
theorem Room.alloc (h : Room wB w L) (o : Obj) : Room wB (w.alloc o) L := h.kept ((Keep.refl _ _).alloc o)
/-- A new thing. -/
theorem Room.add (h : Room wB w L) (ht : t.at_ w') (hk : Keep (fun _ => False) w w') (hn : ∀ k, t.own k → w.heap.size ≤ k) : Room wB w' (t :: L) := by
  have h' := h.kept hk
  refine ⟨fun s hs => ?_, fun s hs k hk' => ?_, List.pairwise_cons.2 ⟨fun s hs k hk' hk2 => ?_, h.dis⟩, h'.bel⟩
  · rcases List.mem_cons.1 hs with rfl | hs
    · exact ht
    · exact h'.all s hs
  · rcases List.mem_cons.1 hs with rfl | hs
    · exact Nat.le_trans h.bel.size (hn k hk')
    · exact h.lo s hs k hk'
  · have := s.lt (h.all s hs) hk2
    have := hn k hk'
    omega
theorem Room.box (h : Room wB w L) (ty : TypeId) (cs : Array Value) : Room wB (w.alloc (.cells cs ty)) (blkT w.heap.size ty cs :: L) :=
  h.add (t := blkT w.heap.size ty cs) (Whole.new w ty cs) ((Keep.refl _ _).alloc _) (fun k e => by subst e; exact Nat.le_refl _)
/-- .. behind the first. -/
theorem Room.box1 (h : Room wB w (a :: L)) (ty : TypeId) (cs : Array Value) : Room wB (w.alloc (.cells cs ty)) (a :: blkT w.heap.size ty cs :: L) := (h.box ty cs).perm (List.Perm.swap _ _ _)
theorem Room.box2 (h : Room wB w (a :: b :: L)) (ty : TypeId) (cs : Array Value) : Room wB (w.alloc (.cells cs ty)) (a :: b :: blkT w.heap.size ty cs :: L) := (h.box1 ty cs).perm (List.Perm.cons _ (List.Perm.swap _ _ _))
theorem Room.box3 (h : Room wB w (a :: b :: c :: L)) (ty : TypeId) (cs : Array Value) : Room wB (w.alloc (.cells cs ty)) (a :: b :: c :: blkT w.heap.size ty cs :: L) := (h.box2 ty cs).perm (List.Perm.cons _ (List.Perm.cons _ (List.Perm.swap _ _ _)))
/-- The first thing turns. -/
theorem Room.step0 (h : Room wB w (t :: L)) (ht : t'.at_ w') (hk : Keep t.own w w') (hn : ∀ k, t'.own k → t.own k ∨ w.heap.size ≤ k) : Room wB w' (t' :: L) := by
  have hd := List.pairwise_cons.1 h.dis
  have hlo := h.lo t (List.Mem.head _)
  refine ⟨fun s hs => ?_, fun s hs k hk' => ?_, List.pairwise_cons.2 ⟨fun s hs k hk' hk2 => ?_, hd.2⟩, h.bel.trans (hk.below h.bel.size hlo)⟩
  · rcases List.mem_cons.1 hs with rfl | hs
    · exact ht
    · exact s.keep (h.all s (List.Mem.tail _ hs)) hk (fun k hk1 hk2 => hd.1 s hs k hk2 hk1)
  · rcases List.mem_cons.1 hs with rfl | hs
    · rcases hn k hk' with hk1 | hk1
      · exact hlo k hk1
      · exact Nat.le_trans h.bel.size hk1
    · exact h.lo s (List.Mem.tail _ hs) k hk'
  · rcases hn k hk' with hk1 | hk1
    · exact hd.1 s hs k hk1 hk2
    · have := s.lt (h.all s (List.Mem.tail _ hs)) hk2
      omega
theorem Room.step1 (h : Room wB w (a :: t :: L)) (ht : t'.at_ w') (hk : Keep t.own w w') (hn : ∀ k, t'.own k → t.own k ∨ w.heap.size ≤ k) : Room wB w' (a :: t' :: L) :=
  ((h.perm (List.Perm.swap _ _ _)).step0 ht hk hn).perm (List.Perm.swap _ _ _)
theorem Room.step2 (h : Room wB w (a :: b :: t :: L)) (ht : t'.at_ w') (hk : Keep t.own w w') (hn : ∀ k, t'.own k → t.own k ∨ w.heap.size ≤ k) : Room wB w' (a :: b :: t' :: L) :=
  ((h.perm ((List.Perm.cons _ (List.Perm.swap _ _ _)).trans (List.Perm.swap _ _ _))).step0 ht hk hn).perm ((List.Perm.swap _ _ _).trans (List.Perm.cons _ (List.Perm.swap _ _ _)))
theorem Room.step3 (h : Room wB w (a :: b :: c :: t :: L)) (ht : t'.at_ w') (hk : Keep t.own w w') (hn : ∀ k, t'.own k → t.own k ∨ w.heap.size ≤ k) : Room wB w' (a :: b :: c :: t' :: L) := by
  have p : (a :: b :: c :: t :: L).Perm (t :: a :: b :: c :: L) := ((List.Perm.cons _ (List.Perm.cons _ (List.Perm.swap _ _ _))).trans (List.Perm.cons _ (List.Perm.swap _ _ _))).trans (List.Perm.swap _ _ _)
  have q : (t' :: a :: b :: c :: L).Perm (a :: b :: c :: t' :: L) := (List.Perm.swap _ _ _).trans ((List.Perm.cons _ (List.Perm.swap _ _ _)).trans (List.Perm.cons _ (List.Perm.cons _ (List.Perm.swap _ _ _))))
  exact ((h.perm p).step0 ht hk hn).perm q
/-- Two of the same room lie in different blocks. -/
theorem Room.ne01 {g k : Nat} (h : Room wB w (a :: b :: L)) (ha : a.own g) (hb : b.own k) : g ≠ k := fun e => (List.pairwise_cons.1 h.dis).1 b (List.Mem.head _) g ha (e ▸ hb)
/-- A thing that turns within its own blocks. -/
theorem own_same {own : Nat → Prop} {n : Nat} : ∀ k, own k → own k ∨ n ≤ k := fun _ h => .inl h
end
end Go.Proofs.Ytnljjdfajmjdjaa
