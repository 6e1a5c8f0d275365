/-
  Places that are given out: the plain mathematics, and how they lie in memory. Conditions: none.
  A tree of package rbtree in memory: its nodes in a row, six cells a node. Conditions: none.
  Small calls of package rbtree: side, hang. Conditions: the tree lies in memory.
-/
import Derived.Test.YtnljjdfajmjdjaaJ01
import Derived.Test.YtnljjdfajmjdjaaJ04
import Derived.Test.YtnljjdfajmjdjaaChecked
import Derived.WalkSpells
import Derived.WalkLawsBesides
import Derived.LoopTactic
import Derived.Deep.QuietTactic
import Derived.Deep.DeepCutAuto
import Derived.Deep.Draws
import Derived.BigQuiet
namespace Go.Proofs.Ytnljjdfajmjdjaa
open Go.RowKit
set_option maxRecDepth 100000

theorem ret_pair {a b c d : Int} (h : a = c) (h' : b = d) : Ending.returned (.tuple #[.int .i64 a, .int .i64 b]) = .returned (.tuple #[.int .i64 c, .int .i64 d]) := by rw [h, h']

/-- How many places there are; of those ever given out, which are; those freed, in order. -/
structure St where
  N : Nat
  out : List Bool
  fr : List Nat

structure St.ok (s : St) : Prop where
  n : s.N ≤ 4096
  len : s.out.length ≤ s.N
  nodup : s.fr.Nodup
  off : ∀ i ∈ s.fr, s.out[i]? = some false
  cnt : s.out.count true + s.fr.length = s.out.length

def capN (n : Int) : Nat := if n < 0 then 0 else if n ≤ 4096 then n.toNat else 4096
def St.has (s : St) (i : Int) : Bool := decide (0 ≤ i) && (s.out[i.toNat]? == some true)
def St.getV (s : St) : Int := match s.fr.getLast? with | some i => i | none => if s.out.length = s.N then 0 else s.out.length
def St.getE (s : St) : Int := match s.fr.getLast? with | some _ => 0 | none => if s.out.length = s.N then 5 else 0
def St.getS (s : St) : St := match s.fr.getLast? with | some i => ⟨s.N, s.out.set i true, s.fr.dropLast⟩ | none => if s.out.length = s.N then s else ⟨s.N, s.out ++ [true], []⟩
def St.freeE (s : St) (i : Int) : Int := if i < 0 ∨ (s.N : Int) ≤ i then 1 else if s.has i then 0 else 7
def St.freeS (s : St) (i : Int) : St := if i < 0 ∨ (s.N : Int) ≤ i then s else if s.has i then ⟨s.N, s.out.set i.toNat false, s.fr ++ [i.toNat]⟩ else s
def allOf (bs : List Bool) : List Nat := (List.range bs.length).filter fun i => bs[i]?.getD false

theorem capN_ok (n : Int) : St.ok ⟨capN n, [], []⟩ := ⟨by show capN n ≤ 4096; unfold capN; split <;> (try split) <;> omega, Nat.zero_le _, List.nodup_nil, fun i hi => (by cases hi), rfl⟩

theorem get_last {N : Nat} {out : List Bool} {fr : List Nat} {i : Nat} : St.getV ⟨N, out, fr ++ [i]⟩ = i ∧ St.getE ⟨N, out, fr ++ [i]⟩ = 0 ∧ St.getS ⟨N, out, fr ++ [i]⟩ = ⟨N, out.set i true, fr⟩ := by
  simp [St.getV, St.getE, St.getS]
theorem get_full {N : Nat} {out : List Bool} (h : out.length = N) : St.getV ⟨N, out, []⟩ = 0 ∧ St.getE ⟨N, out, []⟩ = 5 ∧ St.getS ⟨N, out, []⟩ = ⟨N, out, []⟩ := by
  simp [St.getV, St.getE, St.getS, h]
theorem get_new {N : Nat} {out : List Bool} (h : out.length ≠ N) : St.getV ⟨N, out, []⟩ = out.length ∧ St.getE ⟨N, out, []⟩ = 0 ∧ St.getS ⟨N, out, []⟩ = ⟨N, out ++ [true], []⟩ := by
  simp [St.getV, St.getE, St.getS, h]

theorem count_set_true {l : List Bool} {i : Nat} (h : l[i]? = some false) : (l.set i true).count true = l.count true + 1 := by
  induction l generalizing i with
  | nil => simp at h
  | cons a l ih =>
    cases i with
    | zero => simp at h; subst h; simp
    | succ i => simp at h; have := ih h; simp only [List.set_cons_succ, List.count_cons, this]; omega
theorem count_set_false {l : List Bool} {i : Nat} (h : l[i]? = some true) : (l.set i false).count true + 1 = l.count true := by
  induction l generalizing i with
  | nil => simp at h
  | cons a l ih =>
    cases i with
    | zero => simp at h; subst h; simp
    | succ i => simp at h; have := ih h; simp only [List.set_cons_succ, List.count_cons]; omega

theorem ok_last {N : Nat} {out : List Bool} {fr : List Nat} {i : Nat} (h : St.ok ⟨N, out, fr ++ [i]⟩) : St.ok ⟨N, out.set i true, fr⟩ ∧ out[i]? = some false := by
  obtain ⟨h1, h2, h3, h4, h5⟩ := h
  have hi : out[i]? = some false := h4 i (by simp)
  rw [List.nodup_append] at h3
  refine ⟨⟨h1, by simpa using h2, h3.1, fun j hj => ?_, ?_⟩, hi⟩
  · have hne : i ≠ j := fun e => h3.2.2 j hj i (by simp) e.symm
    show (out.set i true)[j]? = _
    rw [List.getElem?_set_ne hne]; exact h4 j (by simp [hj])
  · show (out.set i true).count true + fr.length = (out.set i true).length
    rw [count_set_true hi]; simp at h5 ⊢; omega
theorem ok_new {N : Nat} {out : List Bool} (h : St.ok ⟨N, out, []⟩) (hn : out.length ≠ N) : St.ok ⟨N, out ++ [true], []⟩ := by
  obtain ⟨h1, h2, h3, h4, h5⟩ := h
  refine ⟨h1, ?_, h3, fun j hj => (by cases hj), ?_⟩
  · simp at h2 ⊢; omega
  · simp at h5 ⊢; omega
theorem has_parts {s : St} {i : Int} (h : s.has i = true) : ∃ k : Nat, i = k ∧ k < s.out.length ∧ s.out[k]? = some true := by
  unfold St.has at h
  simp at h
  refine ⟨i.toNat, by omega, ?_, h.2⟩
  exact (List.getElem?_eq_some_iff.1 h.2).1
theorem ok_free {N : Nat} {out : List Bool} {fr : List Nat} {k : Nat} (h : St.ok ⟨N, out, fr⟩) (hk : out[k]? = some true) : St.ok ⟨N, out.set k false, fr ++ [k]⟩ := by
  obtain ⟨h1, h2, h3, h4, h5⟩ := h
  have hlt : k < out.length := (List.getElem?_eq_some_iff.1 hk).1
  have hnot : k ∉ fr := fun hm => by have := h4 k hm; rw [hk] at this; cases this
  refine ⟨h1, by simpa using h2, ?_, fun j hj => ?_, ?_⟩
  · rw [List.nodup_append]; exact ⟨h3, by simp, fun a ha b hb => by simp at hb; subst hb; exact fun e => hnot (e ▸ ha)⟩
  · show (out.set k false)[j]? = _
    by_cases e : k = j
    · subst e; simp [hlt]
    · rw [List.getElem?_set_ne e]
      simp at hj
      rcases hj with hj | hj
      · exact h4 j hj
      · exact absurd hj.symm e
  · have := count_set_false hk
    show (out.set k false).count true + (fr ++ [k]).length = (out.set k false).length
    simp at h5 ⊢; omega
theorem St.getS_ok {s : St} (h : s.ok) : s.getS.ok := by
  obtain ⟨N, out, fr⟩ := s
  rcases List.eq_nil_or_concat fr with rfl | ⟨fr', i, rfl⟩
  · by_cases e : out.length = N
    · rw [(get_full e).2.2]; exact h
    · rw [(get_new e).2.2]; exact ok_new h e
  · rw [List.concat_eq_append] at h ⊢
    rw [get_last.2.2]; exact (ok_last h).1

/-- The struct at g, of type T, with its two slices. -/
def Raw (T : TypeId) (w : World) (g N : Nat) (vg vf : Value) (xs ys : List Value) : Prop := Whole w g T #[.int .i64 N, vg, vf] ∧ Owns w 4 vg xs ∧ Owns w 3 vf ys
def Foot (g : Nat) (vg vf : Value) (k : Nat) : Prop := k = g ∨ vg.ownBlock = some k ∨ vf.ownBlock = some k
def bools (l : List Bool) : List Value := l.map .bool
def ints (l : List Nat) : List Value := l.map fun (i : Nat) => .int .i64 (i : Int)
@[simp] theorem len_bools (l : List Bool) : (bools l).length = l.length := List.length_map _
@[simp] theorem len_ints (l : List Nat) : (ints l).length = l.length := List.length_map _
theorem get_bools (l : List Bool) (i : Nat) : (bools l)[i]? = l[i]?.map .bool := List.getElem?_map
theorem get_ints (l : List Nat) (i : Nat) : (ints l)[i]? = l[i]?.map (fun (i : Nat) => .int .i64 (i : Int)) := List.getElem?_map
theorem set_bools (l : List Bool) (i : Nat) (b : Bool) : (bools l).set i (.bool b) = bools (l.set i b) := List.map_set.symm
theorem app_bools (l : List Bool) (b : Bool) : bools l ++ [.bool b] = bools (l ++ [b]) := by simp [bools]
theorem app_ints (l : List Nat) (i : Nat) : ints l ++ [.int .i64 (i : Int)] = ints (l ++ [i]) := by simp [ints]
theorem one_bools (l : List Bool) : ∀ u ∈ bools l, u.oneCell' = true := fun u hu => by simp only [bools, List.mem_map] at hu; obtain ⟨b, _, rfl⟩ := hu; rfl
theorem one_ints (l : List Nat) : ∀ u ∈ ints l, u.oneCell' = true := fun u hu => by simp only [ints, List.mem_map] at hu; obtain ⟨b, _, rfl⟩ := hu; rfl
/-- .. as the arena s; S: the blocks that are its own. -/
def ArenaAt (T : TypeId) (w : World) (S : Nat → Prop) (g : Nat) (s : St) : Prop := ∃ vg vf, Raw T w g s.N vg vf (bools s.out) (ints s.fr) ∧ s.ok ∧ ∀ k, S k ↔ Foot g vg vf k

/-- A step on what is S, which is S' behind it: nothing else has turned; what is S' and was not S is new. -/
def Step (S S' : Nat → Prop) (w w' : World) : Prop := Keep S w w' ∧ ∀ k, S' k → S k ∨ w.heap.size ≤ k

section
variable {T : TypeId} {w w' w'' : World} {S S' S'' R R' : Nat → Prop} {g : Nat} {s : St}
theorem ArenaAt.lt (h : ArenaAt T w S g s) {k : Nat} (hk : S k) : k < w.heap.size := by
  obtain ⟨vg, vf, ⟨h1, h2, h3⟩, _, hS⟩ := h
  rcases (hS k).1 hk with rfl | e | e
  · exact h1.lt
  · exact h2.lt e
  · exact h3.lt e
theorem ArenaAt.ok (h : ArenaAt T w S g s) : s.ok := by obtain ⟨_, _, _, h, _⟩ := h; exact h
theorem ArenaAt.keep (h : ArenaAt T w S g s) (hk : Keep R w w') (ha : ∀ k, S k → ¬ R k) : ArenaAt T w' S g s := by
  obtain ⟨vg, vf, ⟨h1, h2, h3⟩, h4, hS⟩ := h
  exact ⟨vg, vf, ⟨h1.keep hk (ha g ((hS g).2 (.inl rfl))), h2.keep hk (fun k e => ha k ((hS k).2 (.inr (.inl e)))), h3.keep hk (fun k e => ha k ((hS k).2 (.inr (.inr e))))⟩, h4, hS⟩
theorem ArenaAt.open (h : ArenaAt T w S g s) : ∃ ag cg af cf, Raw T w g s.N (.slice ag s.out.length cg) (.slice af s.fr.length cf) (bools s.out) (ints s.fr) ∧ (∀ k, S k ↔ Foot g (.slice ag s.out.length cg) (.slice af s.fr.length cf) k) ∧
    w.cell? ⟨g, 0, none⟩ = some (.int .i64 s.N) ∧ w.cell? ⟨g, 1, none⟩ = some (.slice ag s.out.length cg) ∧ w.cell? ⟨g, 2, none⟩ = some (.slice af s.fr.length cf) ∧ (0 < s.out.length → ∃ gg, ag = some ⟨gg, 0, none⟩) ∧ (0 < s.fr.length → ∃ gf, af = some ⟨gf, 0, none⟩) ∧ (af = none → s.fr.length = 0 ∧ cf = 0) := by
  obtain ⟨vg, vf, ⟨h1, h2, h3⟩, h4, hS⟩ := h
  obtain ⟨ag, cg, rfl, hn, ha⟩ := h2.shape
  obtain ⟨af, cf, rfl, hn', ha'⟩ := h3.shape
  rw [len_bools] at h1 h2 hS
  rw [len_ints] at h1 h3 hS
  refine ⟨ag, cg, af, cf, ⟨h1, h2, h3⟩, hS, h1.cell 0, h1.cell 1, h1.cell 2, fun hp => ?_, fun hp => ?_, fun e => ?_⟩
  · cases ag with
    | none => have := congrArg List.length (hn rfl).2; simp at this; rw [this] at hp; simp at hp
    | some ad => obtain ⟨gg, rfl⟩ := ha ad rfl; exact ⟨gg, rfl⟩
  · cases af with
    | none => have := congrArg List.length (hn' rfl).2; simp at this; rw [this] at hp; simp at hp
    | some ad => obtain ⟨gg, rfl⟩ := ha' ad rfl; exact ⟨gg, rfl⟩
  · have h1 := congrArg List.length (hn' e).2; rw [len_ints] at h1; exact ⟨h1, (hn' e).1⟩
theorem ArenaAt.drew (h : ArenaAt T w S g s) : ArenaAt T w.drew S g s := h
theorem Raw.keep {N : Nat} {vg vf : Value} {xs ys : List Value} (h : Raw T w g N vg vf xs ys) (hk : Keep R w w') (ha : ∀ k, Foot g vg vf k → ¬ R k) : Raw T w' g N vg vf xs ys :=
  ⟨h.1.keep hk (ha g (.inl rfl)), h.2.1.keep hk (fun k e => ha k (.inr (.inl e))), h.2.2.keep hk (fun k e => ha k (.inr (.inr e)))⟩
theorem Raw.alloc {N : Nat} {vg vf : Value} {xs ys : List Value} (h : Raw T w g N vg vf xs ys) (o : Obj) : Raw T (w.alloc o) g N vg vf xs ys := ⟨h.1.alloc o, h.2.1.alloc o, h.2.2.alloc o⟩
theorem Raw.cells {N : Nat} {vg vf : Value} {xs ys : List Value} (h : Raw T w g N vg vf xs ys) : w.cell? ⟨g, 0, none⟩ = some (.int .i64 N) ∧ w.cell? ⟨g, 1, none⟩ = some vg ∧ w.cell? ⟨g, 2, none⟩ = some vf ∧ w.frozen? ⟨g, 1, none⟩ = false ∧ w.frozen? ⟨g, 2, none⟩ = false :=
  ⟨h.1.cell 0, h.1.cell 1, h.1.cell 2, h.1.free 1, h.1.free 2⟩
theorem Raw.putOut {N gg n cg : Nat} {vf : Value} {xs ys : List Value} (h : Raw T w g N (.slice (some ⟨gg, 0, none⟩) n cg) vf xs ys) (hT : T ≠ 4) (k : Nat) (u : Value) :
    Raw T (w.setCell ⟨gg, k, none⟩ u) g N (.slice (some ⟨gg, 0, none⟩) n cg) vf (xs.set k u) ys := by
  obtain ⟨h1, h2, h3⟩ := h
  have n1 := h2.ne h1 hT
  refine ⟨h1.far (fun e => n1 (by simp [Value.ownBlock, e])) u, h2.put k u, h3.far (fun e => ?_) u⟩
  exact (h2.apart h3 (by decide) rfl) e
theorem Raw.turnOut {N : Nat} {vg vf v : Value} {xs ys xs' : List Value} (h : Raw T w g N vg vf xs ys) (hT : T ≠ 4 ∧ T ≠ 3) (hv : Owns w 4 v xs') : Raw T (w.setCell ⟨g, 1, none⟩ v) g N v vf xs' ys := by
  obtain ⟨h1, h2, h3⟩ := h
  exact ⟨h1.put 1 v, hv.far (hv.ne h1 hT.1) _, h3.far (h3.ne h1 hT.2) _⟩
theorem Raw.turnFr {N : Nat} {vg vf v : Value} {xs ys ys' : List Value} (h : Raw T w g N vg vf xs ys) (hT : T ≠ 4 ∧ T ≠ 3) (hv : Owns w 3 v ys') : Raw T (w.setCell ⟨g, 2, none⟩ v) g N vg v xs ys' := by
  obtain ⟨h1, h2, h3⟩ := h
  exact ⟨h1.put 2 v, h2.far (h2.ne h1 hT.1) _, hv.far (hv.ne h1 hT.2) _⟩
theorem Raw.grownOut {w1 : World} {N : Nat} {vg vf v : Value} {xs ys xs' : List Value} (h : Raw T w g N vg vf xs ys) (hT : T ≠ 4 ∧ T ≠ 3) (hk : Keep (fun k => vg.ownBlock = some k) w w1) (hv : Owns w1 4 v xs') :
    Raw T (w1.setCell ⟨g, 1, none⟩ v) g N v vf xs' ys ∧ w1.cell? ⟨g, 1, none⟩ = some vg ∧ w1.frozen? ⟨g, 1, none⟩ = false := by
  obtain ⟨h1, h2, h3⟩ := h
  have e1 := h1.keep hk (h2.ne h1 hT.1)
  have e3 := h3.keep hk (fun k hk' hk2 => h3.apart h2 (by decide) hk' hk2)
  exact ⟨⟨e1.put 1 v, hv.far (hv.ne e1 hT.1) _, e3.far (e3.ne e1 hT.2) _⟩, e1.cell 1, e1.free 1⟩
theorem Raw.grownFr {w1 : World} {N : Nat} {vg vf v : Value} {xs ys ys' : List Value} (h : Raw T w g N vg vf xs ys) (hT : T ≠ 4 ∧ T ≠ 3) (hk : Keep (fun k => vf.ownBlock = some k) w w1) (hv : Owns w1 3 v ys') :
    Raw T (w1.setCell ⟨g, 2, none⟩ v) g N vg v xs ys' ∧ w1.cell? ⟨g, 2, none⟩ = some vf ∧ w1.frozen? ⟨g, 2, none⟩ = false := by
  obtain ⟨h1, h2, h3⟩ := h
  have e1 := h1.keep hk (h3.ne h1 hT.2)
  have e2 := h2.keep hk (fun k hk' hk2 => h2.apart h3 (by decide) hk' hk2)
  exact ⟨⟨e1.put 2 v, e2.far (e2.ne e1 hT.1) _, hv.far (hv.ne e1 hT.2) _⟩, e1.cell 2, e1.free 2⟩
theorem foot_out {vg vf v : Value} {B : Nat} (hS : ∀ k, S k ↔ Foot g vg vf k) (hnew : ∀ k, v.ownBlock = some k → vg.ownBlock = some k ∨ B ≤ k) (hB : w.heap.size ≤ B) : ∀ k, Foot g v vf k → S k ∨ w.heap.size ≤ k := fun k hk => by
  rcases hk with e | e | e
  · exact .inl ((hS k).2 (.inl e))
  · exact (hnew k e).elim (fun e => .inl ((hS k).2 (.inr (.inl e)))) (fun e => .inr (Nat.le_trans hB e))
  · exact .inl ((hS k).2 (.inr (.inr e)))
theorem foot_fr {vg vf v : Value} {B : Nat} (hS : ∀ k, S k ↔ Foot g vg vf k) (hnew : ∀ k, v.ownBlock = some k → vf.ownBlock = some k ∨ B ≤ k) (hB : w.heap.size ≤ B) : ∀ k, Foot g vg v k → S k ∨ w.heap.size ≤ k := fun k hk => by
  rcases hk with e | e | e
  · exact .inl ((hS k).2 (.inl e))
  · exact .inl ((hS k).2 (.inr (.inl e)))
  · exact (hnew k e).elim (fun e => .inl ((hS k).2 (.inr (.inr e)))) (fun e => .inr (Nat.le_trans hB e))
theorem Step.refl (S : Nat → Prop) (w : World) : Step S S w w := ⟨Keep.refl _ _, fun _ h => .inl h⟩
theorem Step.drewN (S : Nat → Prop) (w : World) (n : Nat) : Step S S w (w.drewN n) := ⟨(Keep.refl _ _).drewN n, fun _ h => .inl h⟩
theorem Step.trans (h : Step S S' w w') (h' : Step S' S'' w' w'') : Step S S'' w w'' :=
  ⟨h.1.then h'.1 (fun k hk hlt => (h.2 k hk).elim id (fun e => absurd hlt (by omega))), fun k hk => (h'.2 k hk).elim (h.2 k) (fun e => .inr (Nat.le_trans h.1.size e))⟩
theorem Step.mine {B : Nat} (h : Step S S' w w') (hS : ∀ k, S k → B ≤ k) (hB : B ≤ w.heap.size) : ∀ k, S' k → B ≤ k := fun k hk => (h.2 k hk).elim (hS k) (Nat.le_trans hB)
theorem Step.below {B : Nat} (h : Step S S' w w') (hS : ∀ k, S k → B ≤ k) (hB : B ≤ w.heap.size) : Below B w w' := h.1.below hB hS
/-- Another one stays apart. -/
theorem Step.apart (h : Step S S' w w') (hR : ∀ k, R k → k < w.heap.size) (ha : ∀ k, R k → ¬ S k) : ∀ k, R k → ¬ S' k := fun k hk hs => (h.2 k hs).elim (ha k hk) (fun e => by have := hR k hk; omega)
end
end Go.Proofs.Ytnljjdfajmjdjaa
namespace Go.Proofs.Ytnljjdfajmjdjaa
open Go.RowKit
set_option maxRecDepth 100000
set_option linter.unusedSimpArgs false

def cellsN (x : Nd) : List Value := [.int .u64 x.k.a, .int .u64 x.k.b, .int .i64 x.up, .int .i64 x.lo, .int .i64 x.hi, .bool x.red]
def flat (m : Nat → Nd) : Nat → List Value
  | 0 => []
  | n + 1 => flat m n ++ cellsN (m n)
theorem flat_len (m : Nat → Nd) : ∀ n, (flat m n).length = n * 6
  | 0 => rfl
  | n + 1 => by rw [flat, List.length_append, flat_len m n]; simp [cellsN]; omega
theorem flat_get (m : Nat → Nd) : ∀ (n i j : Nat), i < n → j < 6 → (flat m n)[i * 6 + j]? = (cellsN (m i))[j]?
  | 0, i, j, h, _ => by omega
  | n + 1, i, j, h, hj => by
    rw [flat]
    by_cases e : i = n
    · subst e
      rw [List.getElem?_append_right (by rw [flat_len]; omega), flat_len]
      congr 1; omega
    · rw [List.getElem?_append_left (by rw [flat_len]; omega)]
      exact flat_get m n i j (by omega) hj
theorem flat_none (m : Nat → Nd) {n q : Nat} (h : n * 6 ≤ q) : (flat m n)[q]? = none := List.getElem?_eq_none (by rw [flat_len]; exact h)
theorem flat_ext {l : List Value} {m : Nat → Nd} {n : Nat} (hl : l.length = n * 6) (h : ∀ i j, i < n → j < 6 → l[i * 6 + j]? = (cellsN (m i))[j]?) : l = flat m n := by
  refine List.ext_getElem? fun q => ?_
  by_cases hq : q < n * 6
  · have := h (q / 6) (q % 6) (by omega) (by omega)
    rw [show q / 6 * 6 + q % 6 = q by omega] at this
    rw [this, ← flat_get m n (q / 6) (q % 6) (by omega) (by omega), show q / 6 * 6 + q % 6 = q by omega]
  · rw [flat_none m (by omega), List.getElem?_eq_none (by omega)]
theorem flat_set (m : Nat → Nd) {n i j : Nat} {x : Nd} {v : Value} (hx : cellsN x = (cellsN (m i)).set j v) (hj : j < 6) : (flat m n).set (i * 6 + j) v = flat (upd m i x) n := by
  by_cases hi : i < n
  · refine flat_ext (by rw [List.length_set, flat_len]) fun i' j' hi' hj' => ?_
    by_cases e : i' = i
    · subst e
      rw [upd_same, hx]
      by_cases e2 : j' = j
      · subst e2
        rw [List.getElem?_set_self (by rw [flat_len]; omega), List.getElem?_set_self (by simp [cellsN]; omega)]
      · rw [List.getElem?_set_ne (by omega), List.getElem?_set_ne (by omega), flat_get m n _ _ hi' hj']
    · rw [upd_ne _ _ e, List.getElem?_set_ne (by omega), flat_get m n _ _ hi' hj']
  · rw [List.set_eq_of_length_le (by rw [flat_len]; omega)]
    refine (flat_ext (flat_len m n) fun i' j' hi' hj' => ?_)
    rw [upd_ne _ _ (by omega), flat_get m n _ _ hi' hj']
theorem flat_same {m m' : Nat → Nd} {n : Nat} (h : ∀ i, i < n → m' i = m i) : flat m' n = flat m n :=
  (flat_ext (flat_len m' n) fun i j hi hj => by rw [flat_get m' n i j hi hj, h i hi])
theorem flat_app (m : Nat → Nd) (n : Nat) (x : Nd) : flat m n ++ cellsN x = flat (upd m n x) (n + 1) := by
  rw [flat, upd_same, flat_same (m := m) (m' := upd m n x) (fun i hi => upd_ne _ _ (by omega))]
theorem one_cellsN (x : Nd) : ∀ u ∈ cellsN x, u.oneCell' = true := fun u hu => by
  simp only [cellsN, List.mem_cons, List.not_mem_nil, or_false] at hu
  rcases hu with rfl | rfl | rfl | rfl | rfl | rfl <;> rfl

/-- The struct at g, its nodes at h. -/
structure Tr (w : World) (g h cap : Nat) (pa : Value) (n tp : Nat) (m : Nat → Nd) : Prop where
  st : Whole w g 121 #[pa, .slice (some ⟨h, 0, none⟩) n cap, .int .i64 (tp : Int)]
  row : w.ownsRow 0 124 6 (.slice (some ⟨h, 0, none⟩) n cap) n (flat m n)

section
variable {w w' : World} {g h cap n tp : Nat} {pa : Value} {m : Nat → Nd}
theorem Tr.open (t : Tr w g h cap pa n tp m) : ∃ cur : Array Value, w.heap[h]? = some (.cells cur 124 (0, 0)) ∧ n ≤ cap ∧ cap ≤ maxLen ∧ cur.size = cap * 6 ∧ cur.toList.take (n * 6) = flat m n := by
  rcases t.row.2 with ⟨h', _⟩ | ⟨g', cap', cur, e, _, h1, h2, h3, h4, h5⟩
  · cases h'
  · cases e; exact ⟨cur, h1, h2, h3, h4, h5⟩
theorem Tr.ne (t : Tr w g h cap pa n tp m) : g ≠ h := fun e => by
  obtain ⟨cur, h1, _⟩ := t.open
  have h2 : w.heap[g]? = _ := t.st
  rw [e, h1] at h2
  simp at h2
theorem Tr.gLt (t : Tr w g h cap pa n tp m) : g < w.heap.size := t.st.lt
theorem Tr.hLt (t : Tr w g h cap pa n tp m) : h < w.heap.size := by obtain ⟨cur, h1, _⟩ := t.open; exact (Array.getElem?_eq_some_iff.1 h1).1
theorem Tr.cap_le (t : Tr w g h cap pa n tp m) : n ≤ cap ∧ cap ≤ maxLen := by obtain ⟨cur, _, h1, h2, _⟩ := t.open; exact ⟨h1, h2⟩
theorem Tr.cell (t : Tr w g h cap pa n tp m) {i j : Nat} (hi : i < n) (hj : j < 6) : w.cell? ⟨h, i * 6 + j, none⟩ = (cellsN (m i))[j]? := by
  obtain ⟨cur, h1, h2, h3, h4, h5⟩ := t.open
  rw [cell_of_row w h _ cur 124 (0, 0) h1, ← flat_get m n i j hi hj, ← h5, List.getElem?_take, if_pos (by omega)]
  simp
theorem Tr.free (t : Tr w g h cap pa n tp m) (i : Nat) : w.frozen? ⟨h, i, none⟩ = false := by
  obtain ⟨cur, h1, _⟩ := t.open; exact frozen_of_row w h i cur 124 h1
theorem Tr.keep {S : Nat → Prop} (t : Tr w g h cap pa n tp m) (hk : Keep S w w') (hg : ¬ S g) (hh : ¬ S h) : Tr w' g h cap pa n tp m := by
  refine ⟨t.st.keep hk hg, t.row.1, ?_⟩
  obtain ⟨cur, h1, h2, h3, h4, h5⟩ := t.open
  exact .inr ⟨h, cap, cur, rfl, Nat.zero_le _, (hk.block h t.hLt hh).trans h1, h2, h3, h4, h5⟩
theorem Tr.alloc (t : Tr w g h cap pa n tp m) (o : Obj) : Tr (w.alloc o) g h cap pa n tp m := ⟨t.st.alloc o, World.ownsRow.alloc t.row o⟩
theorem Tr.drew (t : Tr w g h cap pa n tp m) : Tr w.drew g h cap pa n tp m := ⟨t.st, t.row⟩
theorem Tr.drewN (t : Tr w g h cap pa n tp m) (k : Nat) : Tr (w.drewN k) g h cap pa n tp m := ⟨t.st, t.row⟩
/-- One cell of one node turns. -/
theorem Tr.put (t : Tr w g h cap pa n tp m) {i j : Nat} {x : Nd} {v : Value} (hx : cellsN x = (cellsN (m i)).set j v) (hj : j < 6) : Tr (w.setCell ⟨h, i * 6 + j, none⟩ v) g h cap pa n tp (upd m i x) := by
  refine ⟨t.st.far t.ne v, ?_⟩
  have := (World.ownsRow.stored t.row (i * 6 + j) v).1
  rwa [flat_set m hx hj] at this
theorem Tr.putTop (t : Tr w g h cap pa n tp m) (tp' : Nat) : Tr (w.setCell ⟨g, 2, none⟩ (.int .i64 (tp' : Int))) g h cap pa n tp' m := by
  refine ⟨t.st.put 2 _, ?_⟩
  exact ownsRow_setCell_other t.row (by simp [Value.ownBlock]; exact t.ne.symm) _
theorem Tr.is {m' : Nat → Nd} (t : Tr w g h cap pa n tp m) (e : m' = m) : Tr w g h cap pa n tp m' := e ▸ t
end
end Go.Proofs.Ytnljjdfajmjdjaa
namespace Go.Proofs.Ytnljjdfajmjdjaa
open Go.RowKit
set_option maxRecDepth 100000

def bit (b : Bool) : Int := if b then 1 else 0

set_option maxHeartbeats 400000 in
theorem side_any {g b cap n tp : Nat} {pa : Value} {m : Nat → Nd} (at_ : Nat) (w : World) (t : Tr w g b cap pa n tp m) (ha : at_ < n) (hu : (m at_).up < n) :
    Calls Try.prog 86 #[.pointer (some ⟨g, 0, none⟩), .int .i64 (at_ : Int)] w fun e w' => e = .returned (.int .i64 (bit (sideM m at_))) ∧ ∃ k, w' = w.drewN k := by
  have c1 := t.st.cell 1
  have c2 : w.cell? ⟨b, at_ * 6 + 2, none⟩ = some (.int .i64 ((m at_).up : Int)) := t.cell ha (by decide)
  have c3 : w.cell? ⟨b, (m at_).up * 6 + 4, none⟩ = some (.int .i64 ((m (m at_).up).hi : Int)) := t.cell hu (by decide)
  have hc := t.cap_le
  have hc2 : cap ≤ 9223372036854775807 := by have := hc.2; unfold maxLen at this; omega
  have hc1 := hc.1
  unfold sideM
  clear t hc
  generalize (m at_).up = u at *
  generalize (m u).hi = v at *
  by_cases e : v = at_
  · subst e
    have HE : Hid (bit (decide (v = v)) = 1) := Lib.hid (by simp [bit])
    go_enter Try.func86, Try.ntmps86
    go_wp2
    go_quiet (fail)
    go_wp2
    go_ret
    exact ⟨ret_i HE.out.symm, _, rfl⟩
  · have HE : Hid (bit (decide (v = at_)) = 0) := Lib.hid (by simp [bit, e])
    have hq : ((v : Int) == (at_ : Int)) = false := by rw [beq_eq_false_iff_ne]; omega
    go_enter Try.func86, Try.ntmps86
    go_wp2
    go_quiet (fail)
    go_wp2
    go_ret
    exact ⟨ret_i HE.out.symm, _, rfl⟩

theorem cells_up (x : Nd) (p : Nat) : cellsN (x.setUp p) = (cellsN x).set 2 (.int .i64 (p : Int)) := rfl
theorem cells_lo (x : Nd) (p : Nat) : cellsN (x.setKid false p) = (cellsN x).set 3 (.int .i64 (p : Int)) := rfl
theorem cells_hi (x : Nd) (p : Nat) : cellsN (x.setKid true p) = (cellsN x).set 4 (.int .i64 (p : Int)) := rfl
theorem cells_red (x : Nd) (b : Bool) : cellsN { x with red := b } = (cellsN x).set 5 (.bool b) := rfl
theorem Tr.capB {w : World} {g b cap n tp : Nat} {pa : Value} {m : Nat → Nd} (t : Tr w g b cap pa n tp m) : n ≤ cap ∧ cap ≤ 9223372036854775807 := by
  have hc := t.cap_le
  exact ⟨hc.1, by have := hc.2; unfold maxLen at this; omega⟩
def Mine (g h : Nat) (k : Nat) : Prop := k = g ∨ k = h


set_option maxHeartbeats 1000000 in
theorem hang_any {g b cap n tp : Nat} {pa : Value} {m : Nat → Nd} (a p : Nat) (s : Bool) (w : World) (t : Tr w g b cap pa n tp m) (ha : a < n) (hp : p < n) :
    Calls Try.prog 67 #[.pointer (some ⟨g, 0, none⟩), .int .i64 (a : Int), .int .i64 (p : Int), .int .i64 (bit s)] w fun e w' =>
      (∃ v, e = .returned v) ∧ Tr w' g b cap pa n (hangT tp a p) (hangM m a p s) ∧ Keep (Mine g b) w w' := by
  have c1 := t.st.cell 1
  have ft := t.st.free 2
  have ct := t.st.cell 2
  unfold hangM hangT
  by_cases ep : p = 0
  · subst ep
    simp only [if_true]
    have T1 := Lib.hid (t.putTop a)
    have K1 : Hid (Keep (Mine g b) w (w.setCell ⟨g, 2, none⟩ (.int .i64 (a : Int)))) := Lib.hid ((Keep.refl _ _).setCell (.inl (.inl rfl)) _)
    clear t
    have c1' := T1.out.st.cell 1
    have f2 := T1.out.free (a * 6 + 2)
    obtain ⟨hc1, hc2⟩ := T1.out.capB
    by_cases ea : a = 0
    · subst ea
      go_enter Try.func67, Try.ntmps67
      go_wp2
      go_end0
      exact ⟨⟨_, rfl⟩, T1.out, K1.out⟩
    · have e2 : ((a : Int) == 0) = false := by rw [beq_eq_false_iff_ne]; omega
      have T2 := Lib.hid (T1.out.put (i := a) (cells_up _ 0) (by decide))
      have c2 := T1.out.cell (i := a) (j := 2) ha (by decide)
      rw [show (cellsN _)[2]? = some (.int .i64 _) from rfl] at c2
      go_enter Try.func67, Try.ntmps67
      go_wp2
      go_end0
      exact ⟨⟨_, rfl⟩, (by first | exact T2.out | (simp only [if_neg ea]; exact T2.out)), K1.out.setCell (p := ⟨b, a * 6 + 2, none⟩) (.inl (.inr rfl)) _⟩
  · simp only [if_neg ep]
    have e1 : ((p : Int) == 0) = false := by rw [beq_eq_false_iff_ne]; omega
    cases s
    · have T1 := Lib.hid (t.put (i := p) (cells_lo _ a) (by decide))
      have K1 : Hid (Keep (Mine g b) w (w.setCell ⟨b, p * 6 + 3, none⟩ (.int .i64 (a : Int)))) := Lib.hid ((Keep.refl _ _).setCell (.inl (.inr rfl)) _)
      have cp := t.cell (i := p) (j := 3) hp (by decide)
      rw [show (cellsN _)[3]? = some (.int .i64 _) from rfl] at cp
      have fp := t.free (p * 6 + 3)
      simp only [bit, Bool.false_eq_true, if_false]
      clear t
      have c1' := T1.out.st.cell 1
      have f2 := T1.out.free (a * 6 + 2)
      obtain ⟨hc1, hc2⟩ := T1.out.capB
      by_cases ea : a = 0
      · subst ea
        go_enter Try.func67, Try.ntmps67
        go_wp2
        go_end0
        exact ⟨⟨_, rfl⟩, T1.out, K1.out⟩
      · have e2 : ((a : Int) == 0) = false := by rw [beq_eq_false_iff_ne]; omega
        have T2 := Lib.hid (T1.out.put (i := a) (cells_up _ p) (by decide))
        have c2 := T1.out.cell (i := a) (j := 2) ha (by decide)
        rw [show (cellsN _)[2]? = some (.int .i64 _) from rfl] at c2
        go_enter Try.func67, Try.ntmps67
        go_wp2
        go_end0
        exact ⟨⟨_, rfl⟩, (by first | exact T2.out | (simp only [if_neg ea]; exact T2.out)), K1.out.setCell (p := ⟨b, a * 6 + 2, none⟩) (.inl (.inr rfl)) _⟩
    · have T1 := Lib.hid (t.put (i := p) (cells_hi _ a) (by decide))
      have K1 : Hid (Keep (Mine g b) w (w.setCell ⟨b, p * 6 + 4, none⟩ (.int .i64 (a : Int)))) := Lib.hid ((Keep.refl _ _).setCell (.inl (.inr rfl)) _)
      have cp := t.cell (i := p) (j := 4) hp (by decide)
      rw [show (cellsN _)[4]? = some (.int .i64 _) from rfl] at cp
      have fp := t.free (p * 6 + 4)
      simp only [bit, if_true]
      clear t
      have c1' := T1.out.st.cell 1
      have f2 := T1.out.free (a * 6 + 2)
      obtain ⟨hc1, hc2⟩ := T1.out.capB
      by_cases ea : a = 0
      · subst ea
        go_enter Try.func67, Try.ntmps67
        go_wp2
        go_end0
        exact ⟨⟨_, rfl⟩, T1.out, K1.out⟩
      · have e2 : ((a : Int) == 0) = false := by rw [beq_eq_false_iff_ne]; omega
        have T2 := Lib.hid (T1.out.put (i := a) (cells_up _ p) (by decide))
        have c2 := T1.out.cell (i := a) (j := 2) ha (by decide)
        rw [show (cellsN _)[2]? = some (.int .i64 _) from rfl] at c2
        go_enter Try.func67, Try.ntmps67
        go_wp2
        go_end0
        exact ⟨⟨_, rfl⟩, (by first | exact T2.out | (simp only [if_neg ea]; exact T2.out)), K1.out.setCell (p := ⟨b, a * 6 + 2, none⟩) (.inl (.inr rfl)) _⟩
end Go.Proofs.Ytnljjdfajmjdjaa
