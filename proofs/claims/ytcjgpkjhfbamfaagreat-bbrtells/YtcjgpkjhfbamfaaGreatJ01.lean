/-
  Words on memory: a slice that reads as a list of numbers, nil let in; a block that is known whole. No program is spoken of. Conditions: none.
  Words on memory, more: a step that turns no block but those of a set, nor the streams ('Keep'). No program is spoken of. Conditions: none.
  Numbers of 64 bits without a sign; words that several texts need. No program is spoken of. Conditions: none.
  Words on memory: an object that lies inside a block, from a place on, others' cells ahead of it and behind it (a struct that is a field of another one). No program is spoken of. Conditions: none.
  Three samples, the greatest (or the least) of late: the plain mathematics. No program is spoken of. Conditions: none.
-/
import Derived.WalkKit
import Derived.Below
import Derived.Laws.OwnMore
import Derived.Lib.Hide
import Derived.Deep.Draws
import Derived.OpenShut
namespace Go.Proofs.YtcjgpkjhfbamfaaGreat
open Go.RowKit
set_option maxRecDepth 100000

/-- The slice that begins at 'a' holds the numbers 'zs'. -/
def Rd (k : IntKind) (w : World) (a : Option Addr) (zs : List Int) : Prop :=
  ∀ i, i < zs.length → ∃ b off, a = some ⟨b, off, none⟩ ∧ b < w.heap.size ∧ w.cell? ⟨b, off + i, none⟩ = some (.int k (zs.getD i 0))

theorem lt_of_cell {w : World} {p : Addr} {v : Value} (h : w.cell? p = some v) : p.block < w.heap.size := by
  rcases Nat.lt_or_ge p.block w.heap.size with hlt | hge
  · exact hlt
  · have e : w.heap[p.block]? = none := Array.getElem?_eq_none hge
    simp [World.cell?, e] at h

theorem Rd.below {k : IntKind} {w w' : World} {a : Option Addr} {zs : List Int} (h : Rd k w a zs) (hb : Below w.heap.size w w') : Rd k w' a zs := by
  intro i hi
  obtain ⟨b, off, e, hlt, hc⟩ := h i hi
  exact ⟨b, off, e, Nat.lt_of_lt_of_le hlt hb.size, (hb.cell (p := ⟨b, off + i, none⟩) hlt).trans hc⟩

/-- Block g is just the cells cs, of element type t, none frozen. -/
def Whole (w : World) (g : Nat) (t : TypeId) (cs : Array Value) : Prop := w.heap[g]? = some (.cells cs t (0, 0))

theorem Whole.lt {w : World} {g : Nat} {t : TypeId} {cs : Array Value} (h : Whole w g t cs) : g < w.heap.size := by
  rcases Nat.lt_or_ge g w.heap.size with hlt | hge
  · exact hlt
  · rw [Whole, Array.getElem?_eq_none hge] at h; cases h
theorem Whole.cell {w : World} {g : Nat} {t : TypeId} {cs : Array Value} (h : Whole w g t cs) (i : Nat) : w.cell? ⟨g, i, none⟩ = cs[i]? := cell_of_row w g i cs t (0, 0) h
theorem Whole.free {w : World} {g : Nat} {t : TypeId} {cs : Array Value} (h : Whole w g t cs) (i : Nat) : w.frozen? ⟨g, i, none⟩ = false := frozen_of_row w g i cs t h
theorem Whole.put {w : World} {g : Nat} {t : TypeId} {cs : Array Value} (h : Whole w g t cs) (i : Nat) (u : Value) : Whole (w.setCell ⟨g, i, none⟩ u) g t (cs.setIfInBounds i u) := heap_setCell_same w g i cs t u h
theorem Whole.drew {w : World} {g : Nat} {t : TypeId} {cs : Array Value} (h : Whole w g t cs) : Whole w.drew g t cs := h
theorem Whole.below {w w' : World} {g B : Nat} {t : TypeId} {cs : Array Value} (h : Whole w g t cs) (hb : Below B w w') (hg : g < B) : Whole w' g t cs := (hb.block g hg).trans h
end Go.Proofs.YtcjgpkjhfbamfaaGreat
namespace Go.Proofs.YtcjgpkjhfbamfaaGreat
open Go.RowKit
set_option maxRecDepth 100000

/-- Of the blocks that were there all but those in S are as they were; the streams are as they were; no block has gone. -/
structure Keep (S : Nat → Prop) (w w' : World) : Prop where
  os : w'.os = w.os
  tape : w'.tape = w.tape
  output : w'.output = w.output
  size : w.heap.size ≤ w'.heap.size
  block : ∀ k, k < w.heap.size → ¬ S k → w'.heap[k]? = w.heap[k]?

section
variable {S T : Nat → Prop} {w w' w'' : World}
theorem Keep.refl (S : Nat → Prop) (w : World) : Keep S w w := ⟨rfl, rfl, rfl, Nat.le_refl _, fun _ _ _ => rfl⟩
theorem Keep.trans (h : Keep S w w') (k : Keep S w' w'') : Keep S w w'' :=
  ⟨k.os.trans h.os, k.tape.trans h.tape, k.output.trans h.output, Nat.le_trans h.size k.size, fun i hi hs => (k.block i (Nat.lt_of_lt_of_le hi h.size) hs).trans (h.block i hi hs)⟩
/-- The second step may turn what is new behind the first, too. -/
theorem Keep.then (h : Keep S w w') (k : Keep T w' w'') (hT : ∀ i, T i → i < w.heap.size → S i) : Keep S w w'' :=
  ⟨k.os.trans h.os, k.tape.trans h.tape, k.output.trans h.output, Nat.le_trans h.size k.size, fun i hi hs => (k.block i (Nat.lt_of_lt_of_le hi h.size) (fun t => hs (hT i t hi))).trans (h.block i hi hs)⟩
theorem Keep.mono (h : Keep S w w') (hT : ∀ i, S i → T i) : Keep T w w' := ⟨h.os, h.tape, h.output, h.size, fun i hi hs => h.block i hi (fun s => hs (hT i s))⟩
theorem Keep.drew (h : Keep S w w') : Keep S w w'.drew := ⟨h.os, h.tape, h.output, h.size, h.block⟩
theorem Keep.drewN (h : Keep S w w') (n : Nat) : Keep S w (w'.drewN n) := ⟨h.os, h.tape, h.output, h.size, h.block⟩
theorem Keep.below {B : Nat} (h : Keep S w w') (hB : B ≤ w.heap.size) (hS : ∀ i, S i → B ≤ i) : Below B w w' :=
  ⟨h.os, h.tape, h.output, h.size, fun k hk => h.block k (by omega) (fun s => by have := hS k s; omega)⟩
theorem Keep.of_below (h : Below w.heap.size w w') : Keep S w w' := ⟨h.os, h.tape, h.output, h.size, fun k hk _ => h.block k hk⟩
theorem Keep.alloc (h : Keep S w w') (o : Obj) : Keep S w (w'.alloc o) :=
  ⟨h.os, h.tape, h.output, by have := h.size; simp; omega, fun k hk hs => (Below.heap_alloc w' o k (Nat.lt_of_lt_of_le hk h.size)).trans (h.block k hk hs)⟩
theorem Keep.setCell (h : Keep S w w') {p : Addr} (hp : S p.block ∨ w.heap.size ≤ p.block) (u : Value) : Keep S w (w'.setCell p u) :=
  ⟨h.os, h.tape, h.output, by have := h.size; simp [World.setCell]; omega, fun k hk hs => (Below.heap_setCell w' p u k (fun e => by subst e; rcases hp with hp | hp; exact hs hp; omega)).trans (h.block k hk hs)⟩
theorem Keep.cell (h : Keep S w w') {p : Addr} (hp : p.block < w.heap.size) (hs : ¬ S p.block) : w'.cell? p = w.cell? p := World.cell?_of_block (w := w) (h.block p.block hp hs)
theorem Keep.frozen (h : Keep S w w') {p : Addr} (hp : p.block < w.heap.size) (hs : ¬ S p.block) : w'.frozen? p = w.frozen? p := World.frozen?_of_block (w := w) (h.block p.block hp hs)
theorem Whole.keep {g : Nat} {t : TypeId} {cs : Array Value} (h : Whole w g t cs) (hk : Keep S w w') (hs : ¬ S g) : Whole w' g t cs := (hk.block g h.lt hs).trans h
theorem Whole.new (w : World) (t : TypeId) (cs : Array Value) : Whole (w.alloc (.cells cs t)) w.heap.size t cs := heap_alloc_new w _
theorem Whole.alloc {g : Nat} {t : TypeId} {cs : Array Value} (h : Whole w g t cs) (o : Obj) : Whole (w.alloc o) g t cs := (Below.heap_alloc w o g h.lt).trans h
theorem Whole.far {g : Nat} {t : TypeId} {cs : Array Value} (h : Whole w g t cs) {p : Addr} (hp : g ≠ p.block) (u : Value) : Whole (w.setCell p u) g t cs := (Below.heap_setCell w p u g hp).trans h
theorem Whole.drewN {g : Nat} {t : TypeId} {cs : Array Value} (h : Whole w g t cs) (n : Nat) : Whole (w.drewN n) g t cs := h
end
end Go.Proofs.YtcjgpkjhfbamfaaGreat
namespace Go.Proofs.YtcjgpkjhfbamfaaGreat
open Go.RowKit
set_option maxRecDepth 100000
def Num (a : Int) : Prop := 0 ≤ a ∧ a ≤ 18446744073709551615
theorem ret_i {k : IntKind} {a b : Int} (h : a = b) : Ending.returned (.int k a) = .returned (.int k b) := by rw [h]
theorem ret_b {a b : Bool} (h : a = b) : Ending.returned (.bool a) = .returned (.bool b) := by rw [h]
theorem results_cell1 {fn : Func} {p : Tmp} {ty : TypeId} (h : fn.results = #[.cell p ty]) (tmps : Array Value) (P : Program) (w : World) :
    (results fn tmps).run P w = ((asAddr (tmps.getD p undef)).run P w).andThen fun a w₁ => (loadVar ty a).run P w₁ := by
  simp only [results, h]
  simp [Sem.run_bind, Result.andThen]
theorem addr_plain {W : World} {x : Addr} {v : Value} (h : W.cell? x = some v) : ∃ b off, x = ⟨b, off, none⟩ := by
  obtain ⟨b, off, spot⟩ := x
  have hspot : spot = none := by simpa using World.cell?_spot h
  exact ⟨b, off, by rw [hspot]⟩
/-- A list out of a rule for its members. -/
theorem list_of {α : Type} (n : Nat) (R : Nat → α → Prop) (h : ∀ i, i < n → ∃ x, R i x) : ∃ l : List α, l.length = n ∧ ∀ i x, l[i]? = some x → R i x := by
  induction n with
  | zero => exact ⟨[], rfl, fun i x hx => by simp at hx⟩
  | succ n ih =>
    obtain ⟨l, hl, hR⟩ := ih (fun i hi => h i (by omega))
    obtain ⟨x, hx⟩ := h n (by omega)
    refine ⟨l ++ [x], by simp [hl], fun i y hy => ?_⟩
    by_cases e : i < n
    · rw [List.getElem?_append_left (by omega)] at hy; exact hR i y hy
    · rw [List.getElem?_append_right (by omega)] at hy
      have : i = n := by
        have := (List.getElem?_eq_some_iff.1 hy).1
        simp at this; omega
      subst this
      rw [hl] at hy
      simp at hy
      subst hy
      exact hx
end Go.Proofs.YtcjgpkjhfbamfaaGreat
namespace Go.Proofs.YtcjgpkjhfbamfaaGreat
open Go.RowKit
set_option maxRecDepth 100000

/-- What lies around an object in its block: the block's element type, the cells ahead, the cells behind. -/
structure Fr where
  t : TypeId
  P : List Value
  Q : List Value
/-- Block g holds the cells cs from o on, and what F says around them; none frozen. -/
def Part (F : Fr) (o : Nat) (w : World) (g : Nat) (cs : List Value) : Prop := F.P.length = o ∧ Whole w g F.t (F.P ++ (cs ++ F.Q)).toArray

section
variable {F : Fr} {o : Nat} {w w' : World} {g : Nat} {cs : List Value} {S : Nat → Prop}
theorem Part.lt (h : Part F o w g cs) : g < w.heap.size := h.2.lt
theorem Part.cell (h : Part F o w g cs) (i : Nat) (hi : i < cs.length := by exact Nat.le_of_ble_eq_true rfl) : w.cell? ⟨g, o + i, none⟩ = cs[i]? := by
  rw [h.2.cell (o + i), List.getElem?_toArray, List.getElem?_append_right (by have := h.1; omega), List.getElem?_append_left (by have := h.1; omega)]
  have := h.1
  rw [show o + i - F.P.length = i by omega]
theorem Part.cell0 (h : Part F o w g cs) (hi : 0 < cs.length := by exact Nat.le_of_ble_eq_true rfl) : w.cell? ⟨g, o, none⟩ = cs[0]? := h.cell 0 hi
theorem Part.free (h : Part F o w g cs) (i : Nat) : w.frozen? ⟨g, o + i, none⟩ = false := h.2.free _
theorem Part.free0 (h : Part F o w g cs) : w.frozen? ⟨g, o, none⟩ = false := h.2.free _
theorem Part.put (h : Part F o w g cs) (i : Nat) (u : Value) (hi : i < cs.length := by exact Nat.le_of_ble_eq_true rfl) : Part F o (w.setCell ⟨g, o + i, none⟩ u) g (cs.set i u) := by
  refine ⟨h.1, ?_⟩
  have h1 := h.2.put (o + i) u
  have h2 := h.1
  rw [List.setIfInBounds_toArray, List.set_append_right _ _ (by omega), show o + i - F.P.length = i by omega, List.set_append_left _ _ hi] at h1
  exact h1
theorem Part.put0 (h : Part F o w g cs) (u : Value) (hi : 0 < cs.length := by exact Nat.le_of_ble_eq_true rfl) : Part F o (w.setCell ⟨g, o, none⟩ u) g (cs.set 0 u) := h.put 0 u hi
theorem Part.keep (h : Part F o w g cs) (hk : Keep S w w') (hs : ¬ S g) : Part F o w' g cs := ⟨h.1, h.2.keep hk hs⟩
theorem Part.drew (h : Part F o w g cs) : Part F o w.drew g cs := h
theorem Part.drewN (h : Part F o w g cs) (n : Nat) : Part F o (w.drewN n) g cs := h
theorem Part.alloc (h : Part F o w g cs) (b : Obj) : Part F o (w.alloc b) g cs := ⟨h.1, h.2.alloc b⟩
theorem Part.far (h : Part F o w g cs) {p : Addr} (hp : g ≠ p.block) (u : Value) : Part F o (w.setCell p u) g cs := ⟨h.1, h.2.far hp u⟩
theorem Part.below {B : Nat} (h : Part F o w g cs) (hb : Below B w w') (hg : g < B) : Part F o w' g cs := ⟨h.1, h.2.below hb hg⟩
/-- A block of its own. -/
theorem Part.of_whole {t : TypeId} {a : Array Value} (h : Whole w g t a) : Part ⟨t, [], []⟩ 0 w g a.toList := ⟨rfl, by simpa using h⟩
theorem Part.whole {t : TypeId} (h : Part ⟨t, [], []⟩ 0 w g cs) : Whole w g t cs.toArray := by have := h.2; simpa using this
/-- An object in an object: the cells ahead of it, and those behind it, go around it. -/
def Fr.in_ (F : Fr) (A C : List Value) : Fr := ⟨F.t, F.P ++ A, C ++ F.Q⟩
theorem Part.sub {A B C : List Value} (h : Part F o w g cs) (e : cs = A ++ (B ++ C)) (k : Nat) (hk : A.length = k) : Part (F.in_ A C) (o + k) w g B := by
  subst e
  refine ⟨by simp [Fr.in_, h.1, hk], ?_⟩
  have := h.2
  simpa [Fr.in_, List.append_assoc] using this
theorem Part.sup {A B C : List Value} {k : Nat} (h : Part (F.in_ A C) (o + k) w g B) (hk : A.length = k) (e : cs = A ++ (B ++ C)) : Part F o w g cs := by
  subst e
  refine ⟨by have := h.1; simp [Fr.in_] at this; omega, ?_⟩
  have := h.2
  simpa [Fr.in_, List.append_assoc] using this
theorem Whole.cell0 {t : TypeId} {cs : Array Value} (h : Whole w g t cs) : w.cell? ⟨g, 0, none⟩ = cs[0]? := h.cell 0
theorem Whole.free0 {t : TypeId} {cs : Array Value} (h : Whole w g t cs) : w.frozen? ⟨g, 0, none⟩ = false := h.free 0
theorem Whole.put0 {t : TypeId} {cs : Array Value} (h : Whole w g t cs) (u : Value) : Whole (w.setCell ⟨g, 0, none⟩ u) g t (cs.setIfInBounds 0 u) := h.put 0 u
end
end Go.Proofs.YtcjgpkjhfbamfaaGreat
namespace Go.Proofs.YtcjgpkjhfbamfaaGreat
open Go.RowKit
set_option maxRecDepth 100000


/-- The greatest time so far; three samples: times and values. -/
structure Tri where
  l : Int
  t0 : Int
  v0 : Int
  t1 : Int
  v1 : Int
  t2 : Int
  v2 : Int
structure Tri.Fit (x : Tri) : Prop where
  l1 : x.l ≤ 18446744073709551615
  a0 : 0 ≤ x.t0 ∧ x.t0 ≤ x.l
  a1 : 0 ≤ x.t1 ∧ x.t1 ≤ x.l
  a2 : 0 ≤ x.t2 ∧ x.t2 ≤ x.l
  b0 : Num x.v0
  b1 : Num x.v1
  b2 : Num x.v2

/-- At least (at most) that. -/
def beatsT (least : Bool) (v u : Int) : Prop := if least = true then v ≤ u else u ≤ v
instance (least : Bool) (v u : Int) : Decidable (beatsT least v u) := by unfold beatsT; exact inferInstance
def topT (t l : Int) : Int := if l ≤ t then t else l
def allT (l t v : Int) : Tri := ⟨l, t, v, t, v, t, v⟩
def twoT (x : Tri) (t v : Int) : Tri := ⟨x.l, x.t0, x.v0, t, v, t, v⟩
def oneT (x : Tri) (t v : Int) : Tri := ⟨x.l, x.t0, x.v0, x.t1, x.v1, t, v⟩
def shiftT (x : Tri) (t v : Int) : Tri := ⟨x.l, x.t1, x.v1, x.t2, x.v2, t, v⟩
def lastT (x : Tri) (t : Int) : Tri := ⟨t, x.t0, x.v0, x.t1, x.v1, x.t2, x.v2⟩
/-- The first part of Update. -/
def rankT (least : Bool) (win : Int) (x : Tri) (t v : Int) : Tri :=
  if beatsT least v x.v0 ∨ win < t - x.t2 then allT x.l t v else if beatsT least v x.v1 then twoT x t v else if beatsT least v x.v2 then oneT x t v else x
/-- The second one. -/
def ageT (win : Int) (x : Tri) (t v : Int) : Tri :=
  if win < t - x.t0 then (if win < t - x.t1 then shiftT (shiftT x t v) t v else shiftT x t v)
  else if x.t1 = x.t0 ∧ win / 4 < t - x.t0 then twoT x t v else if x.t2 = x.t1 ∧ win / 2 < t - x.t0 then oneT x t v else x
def updT (least : Bool) (win : Int) (x : Tri) (t v : Int) : Tri :=
  ageT win (rankT least win (lastT x (topT t x.l)) (topT t x.l) v) (topT t x.l) v
def resT (x : Tri) (t v : Int) : Tri := allT (topT t x.l) t v
def newT (v : Int) : Tri := allT 0 0 v

section
variable {least : Bool} {win t v l : Int} {x : Tri}
theorem topT_ge : t ≤ topT t l ∧ l ≤ topT t l := by unfold topT; split <;> omega
theorem topT_num (h : t ≤ 18446744073709551615) (h' : l ≤ 18446744073709551615) : topT t l ≤ 18446744073709551615 := by unfold topT; split <;> omega
theorem Tri.Fit.last (h : x.Fit) (ht : x.l ≤ t) (ht1 : t ≤ 18446744073709551615) : (lastT x t).Fit :=
  ⟨ht1, ⟨h.a0.1, Int.le_trans h.a0.2 ht⟩, ⟨h.a1.1, Int.le_trans h.a1.2 ht⟩, ⟨h.a2.1, Int.le_trans h.a2.2 ht⟩, h.b0, h.b1, h.b2⟩
theorem fit_all (h : l ≤ 18446744073709551615) (h0 : 0 ≤ t) (ht : t ≤ l) (hv : Num v) : (allT l t v).Fit := ⟨h, ⟨h0, ht⟩, ⟨h0, ht⟩, ⟨h0, ht⟩, hv, hv, hv⟩
theorem Tri.Fit.two (h : x.Fit) (h0 : 0 ≤ t) (ht : t ≤ x.l) (hv : Num v) : (twoT x t v).Fit := ⟨h.l1, h.a0, ⟨h0, ht⟩, ⟨h0, ht⟩, h.b0, hv, hv⟩
theorem Tri.Fit.one (h : x.Fit) (h0 : 0 ≤ t) (ht : t ≤ x.l) (hv : Num v) : (oneT x t v).Fit := ⟨h.l1, h.a0, h.a1, ⟨h0, ht⟩, h.b0, h.b1, hv⟩
theorem Tri.Fit.shift (h : x.Fit) (h0 : 0 ≤ t) (ht : t ≤ x.l) (hv : Num v) : (shiftT x t v).Fit := ⟨h.l1, h.a1, h.a2, ⟨h0, ht⟩, h.b1, h.b2, hv⟩
theorem rankT_l : (rankT least win x t v).l = x.l := by unfold rankT; split; rfl; split; rfl; split <;> rfl
theorem ageT_l : (ageT win x t v).l = x.l := by unfold ageT; split; split <;> rfl; split; rfl; split <;> rfl
theorem Tri.Fit.rank (h : x.Fit) (h0 : 0 ≤ t) (ht : t ≤ x.l) (hv : Num v) : (rankT least win x t v).Fit := by
  unfold rankT
  split; exact fit_all h.l1 h0 ht hv
  split; exact h.two h0 ht hv
  split; exact h.one h0 ht hv
  exact h
theorem Tri.Fit.age (h : x.Fit) (h0 : 0 ≤ t) (ht : t ≤ x.l) (hv : Num v) : (ageT win x t v).Fit := by
  unfold ageT
  split
  · split
    · exact (h.shift h0 ht hv).shift h0 ht hv
    · exact h.shift h0 ht hv
  split; exact h.two h0 ht hv
  split; exact h.one h0 ht hv
  exact h
theorem Tri.Fit.upd (h : x.Fit) (ht : Num t) (hv : Num v) : (updT least win x t v).Fit := by
  have h1 := topT_ge (t := t) (l := x.l)
  have h2 := topT_num ht.2 h.l1
  have h3 : 0 ≤ topT t x.l := Int.le_trans ht.1 h1.1
  have h4 := h.last h1.2 h2
  refine (h4.rank h3 (Int.le_refl _) hv).age h3 ?_ hv
  rw [rankT_l]; exact Int.le_refl _
theorem Tri.Fit.res (h : x.Fit) (ht : Num t) (hv : Num v) : (resT x t v).Fit := fit_all (topT_num ht.2 h.l1) ht.1 topT_ge.1 hv
theorem fit_new (hv : Num v) : (newT v).Fit := fit_all (by omega) (Int.le_refl _) (Int.le_refl _) hv

theorem updT_l : (updT least win x t v).l = topT t x.l := by unfold updT; rw [ageT_l, rankT_l]; rfl
/-- Each sample is one that was there, or the new one. -/
structure Tri.Of (P : Int → Int → Prop) (x : Tri) : Prop where
  p0 : P x.t0 x.v0
  p1 : P x.t1 x.v1
  p2 : P x.t2 x.v2
theorem Tri.Of.upd {P : Int → Int → Prop} (h : x.Of P) (hp : P (topT t x.l) v) : (updT least win x t v).Of P := by
  have a : ∀ y : Tri, y.Of P → (ageT win y (topT t x.l) v).Of P := fun y h => by
    unfold ageT
    split
    · split
      · exact ⟨h.p2, hp, hp⟩
      · exact ⟨h.p1, h.p2, hp⟩
    split; exact ⟨h.p0, hp, hp⟩
    split; exact ⟨h.p0, h.p1, hp⟩
    exact h
  refine a _ ?_
  unfold rankT
  split; exact ⟨hp, hp, hp⟩
  split; exact ⟨h.p0, hp, hp⟩
  split; exact ⟨h.p0, h.p1, hp⟩
  exact ⟨h.p0, h.p1, h.p2⟩
/-- A value that is no less than the first one's (no more): all are new. -/
theorem updT_beats (h : beatsT least v x.v0) (hw : 0 ≤ win) : updT least win x t v = allT (topT t x.l) (topT t x.l) v := by
  have e : rankT least win (lastT x (topT t x.l)) (topT t x.l) v = allT (topT t x.l) (topT t x.l) v := if_pos (.inl h)
  unfold updT
  rw [e]
  unfold ageT allT
  simp only [Int.sub_self]
  rw [if_neg (by omega), if_neg (by omega), if_neg (by omega)]
/-- One that comes too late: likewise. -/
theorem updT_old (h : win < topT t x.l - x.t2) (hw : 0 ≤ win) : updT least win x t v = allT (topT t x.l) (topT t x.l) v := by
  have e : rankT least win (lastT x (topT t x.l)) (topT t x.l) v = allT (topT t x.l) (topT t x.l) v := if_pos (.inr h)
  unfold updT
  rw [e]
  unfold ageT allT
  simp only [Int.sub_self]
  rw [if_neg (by omega), if_neg (by omega), if_neg (by omega)]
/-- One that is less, in time: the first one stays. -/
theorem updT_stays (h : ¬ beatsT least v x.v0) (h1 : topT t x.l - x.t0 ≤ win) (h2 : topT t x.l - x.t2 ≤ win) : (updT least win x t v).t0 = x.t0 ∧ (updT least win x t v).v0 = x.v0 := by
  have a : ∀ y : Tri, y.t0 = x.t0 ∧ y.v0 = x.v0 → (ageT win y (topT t x.l) v).t0 = x.t0 ∧ (ageT win y (topT t x.l) v).v0 = x.v0 := fun y hy => by
    unfold ageT
    rw [if_neg (by rw [hy.1]; omega)]
    split; exact hy
    split <;> exact hy
  refine a _ ?_
  unfold rankT
  rw [if_neg (by intro h'; rcases h' with h' | h'; exact h h'; have : win < topT t x.l - x.t2 := h'; omega)]
  split; exact ⟨rfl, rfl⟩
  split <;> exact ⟨rfl, rfl⟩
/-- The first one is of late. -/
theorem updT_near (hw : 0 ≤ win) : topT t x.l - (updT least win x t v).t0 ≤ win := by
  unfold updT
  generalize topT t x.l = T
  have a : ∀ y : Tri, T - y.t2 ≤ win → T - (ageT win y T v).t0 ≤ win := fun y h => by
    unfold ageT
    split
    · split
      · exact h
      · rename_i h'; exact (by omega : T - y.t1 ≤ win)
    · rename_i h'
      have h1 : T - y.t0 ≤ win := by omega
      split; exact h1
      split <;> exact h1
  refine a _ ?_
  unfold rankT
  split; exact (by omega : T - T ≤ win)
  rename_i h'
  split; exact (by omega : T - T ≤ win)
  split; exact (by omega : T - T ≤ win)
  by_cases hh : T - x.t2 ≤ win
  · exact hh
  · exact absurd (.inr (by show win < T - x.t2; omega)) h'
theorem beatsT_refl : beatsT least v v := by unfold beatsT; split <;> exact Int.le_refl _
/-- What is told is no less (no more) than the last. -/
theorem updT_last : beatsT least (updT least win x t v).v0 v := by
  unfold updT
  generalize topT t x.l = T
  have tot : ∀ u, ¬ beatsT least v u → beatsT least u v := fun u h => by unfold beatsT at *; split at h <;> simp_all <;> omega
  have a : ∀ y : Tri, beatsT least y.v0 v ∧ beatsT least y.v1 v ∧ beatsT least y.v2 v → beatsT least (ageT win y T v).v0 v := fun y h => by
    unfold ageT
    split
    · split
      · exact h.2.2
      · exact h.2.1
    split; exact h.1
    split; exact h.1
    exact h.1
  refine a _ ?_
  unfold rankT
  split; exact ⟨beatsT_refl, beatsT_refl, beatsT_refl⟩
  rename_i h0
  have h0' : beatsT least x.v0 v := tot _ (fun h => h0 (.inl h))
  split; exact ⟨h0', beatsT_refl, beatsT_refl⟩
  rename_i h1
  have h1' : beatsT least x.v1 v := tot _ h1
  split; exact ⟨h0', h1', beatsT_refl⟩
  rename_i h2
  exact ⟨h0', h1', tot _ h2⟩
end
end Go.Proofs.YtcjgpkjhfbamfaaGreat
