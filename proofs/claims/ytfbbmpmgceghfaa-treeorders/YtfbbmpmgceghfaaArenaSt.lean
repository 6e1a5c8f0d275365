/-
  Places that are given out: the plain mathematics, and how they lie in memory. Conditions: none.
-/
import Derived.Test.YtfbbmpmgceghfaaOwn
import Derived.Test.YtfbbmpmgceghfaaNum
namespace Go.Proofs.Ytfbbmpmgceghfaa
open Go.RowKit
set_option maxRecDepth 100000

theorem ret_pair {a b c d : Int} (h : a = c) (h' : b = d) : Ending.returned (.tuple #[.int .i64 a, .int .i64 b]) = .returned (.tuple #[.int .i64 c, .int .i64 d]) := by rw [h, h']

/-- How many places there are; of those ever given out, which are; those freed, in order. -/
structure St where
  N : Nat
  out : List Bool
  fr : List Nat

structure St.ok (s : St) : Prop where
  n : s.N ≤ 4096
  len : s.out.length ≤ s.N
  nodup : s.fr.Nodup
  off : ∀ i ∈ s.fr, s.out[i]? = some false
  cnt : s.out.count true + s.fr.length = s.out.length

def capN (n : Int) : Nat := if n < 0 then 0 else if n ≤ 4096 then n.toNat else 4096
def St.has (s : St) (i : Int) : Bool := decide (0 ≤ i) && (s.out[i.toNat]? == some true)
def St.getV (s : St) : Int := match s.fr.getLast? with | some i => i | none => if s.out.length = s.N then 0 else s.out.length
def St.getE (s : St) : Int := match s.fr.getLast? with | some _ => 0 | none => if s.out.length = s.N then 5 else 0
def St.getS (s : St) : St := match s.fr.getLast? with | some i => ⟨s.N, s.out.set i true, s.fr.dropLast⟩ | none => if s.out.length = s.N then s else ⟨s.N, s.out ++ [true], []⟩
def St.freeE (s : St) (i : Int) : Int := if i < 0 ∨ (s.N : Int) ≤ i then 1 else if s.has i then 0 else 7
def St.freeS (s : St) (i : Int) : St := if i < 0 ∨ (s.N : Int) ≤ i then s else if s.has i then ⟨s.N, s.out.set i.toNat false, s.fr ++ [i.toNat]⟩ else s
def allOf (bs : List Bool) : List Nat := (List.range bs.length).filter fun i => bs[i]?.getD false

theorem capN_ok (n : Int) : St.ok ⟨capN n, [], []⟩ := ⟨by show capN n ≤ 4096; unfold capN; split <;> (try split) <;> omega, Nat.zero_le _, List.nodup_nil, fun i hi => (by cases hi), rfl⟩

theorem get_last {N : Nat} {out : List Bool} {fr : List Nat} {i : Nat} : St.getV ⟨N, out, fr ++ [i]⟩ = i ∧ St.getE ⟨N, out, fr ++ [i]⟩ = 0 ∧ St.getS ⟨N, out, fr ++ [i]⟩ = ⟨N, out.set i true, fr⟩ := by
  simp [St.getV, St.getE, St.getS]
theorem get_full {N : Nat} {out : List Bool} (h : out.length = N) : St.getV ⟨N, out, []⟩ = 0 ∧ St.getE ⟨N, out, []⟩ = 5 ∧ St.getS ⟨N, out, []⟩ = ⟨N, out, []⟩ := by
  simp [St.getV, St.getE, St.getS, h]
theorem get_new {N : Nat} {out : List Bool} (h : out.length ≠ N) : St.getV ⟨N, out, []⟩ = out.length ∧ St.getE ⟨N, out, []⟩ = 0 ∧ St.getS ⟨N, out, []⟩ = ⟨N, out ++ [true], []⟩ := by
  simp [St.getV, St.getE, St.getS, h]

theorem count_set_true {l : List Bool} {i : Nat} (h : l[i]? = some false) : (l.set i true).count true = l.count true + 1 := by
  induction l generalizing i with
  | nil => simp at h
  | cons a l ih =>
    cases i with
    | zero => simp at h; subst h; simp
    | succ i => simp at h; have := ih h; simp only [List.set_cons_succ, List.count_cons, this]; omega
theorem count_set_false {l : List Bool} {i : Nat} (h : l[i]? = some true) : (l.set i false).count true + 1 = l.count true := by
  induction l generalizing i with
  | nil => simp at h
  | cons a l ih =>
    cases i with
    | zero => simp at h; subst h; simp
    | succ i => simp at h; have := ih h; simp only [List.set_cons_succ, List.count_cons]; omega

theorem ok_last {N : Nat} {out : List Bool} {fr : List Nat} {i : Nat} (h : St.ok ⟨N, out, fr ++ [i]⟩) : St.ok ⟨N, out.set i true, fr⟩ ∧ out[i]? = some false := by
  obtain ⟨h1, h2, h3, h4, h5⟩ := h
  have hi : out[i]? = some false := h4 i (by simp)
  rw [List.nodup_append] at h3
  refine ⟨⟨h1, by simpa using h2, h3.1, fun j hj => ?_, ?_⟩, hi⟩
  · have hne : i ≠ j := fun e => h3.2.2 j hj i (by simp) e.symm
    show (out.set i true)[j]? = _
    rw [List.getElem?_set_ne hne]; exact h4 j (by simp [hj])
  · show (out.set i true).count true + fr.length = (out.set i true).length
    rw [count_set_true hi]; simp at h5 ⊢; omega
theorem ok_new {N : Nat} {out : List Bool} (h : St.ok ⟨N, out, []⟩) (hn : out.length ≠ N) : St.ok ⟨N, out ++ [true], []⟩ := by
  obtain ⟨h1, h2, h3, h4, h5⟩ := h
  refine ⟨h1, ?_, h3, fun j hj => (by cases hj), ?_⟩
  · simp at h2 ⊢; omega
  · simp at h5 ⊢; omega
theorem has_parts {s : St} {i : Int} (h : s.has i = true) : ∃ k : Nat, i = k ∧ k < s.out.length ∧ s.out[k]? = some true := by
  unfold St.has at h
  simp at h
  refine ⟨i.toNat, by omega, ?_, h.2⟩
  exact (List.getElem?_eq_some_iff.1 h.2).1
theorem ok_free {N : Nat} {out : List Bool} {fr : List Nat} {k : Nat} (h : St.ok ⟨N, out, fr⟩) (hk : out[k]? = some true) : St.ok ⟨N, out.set k false, fr ++ [k]⟩ := by
  obtain ⟨h1, h2, h3, h4, h5⟩ := h
  have hlt : k < out.length := (List.getElem?_eq_some_iff.1 hk).1
  have hnot : k ∉ fr := fun hm => by have := h4 k hm; rw [hk] at this; cases this
  refine ⟨h1, by simpa using h2, ?_, fun j hj => ?_, ?_⟩
  · rw [List.nodup_append]; exact ⟨h3, by simp, fun a ha b hb => by simp at hb; subst hb; exact fun e => hnot (e ▸ ha)⟩
  · show (out.set k false)[j]? = _
    by_cases e : k = j
    · subst e; simp [hlt]
    · rw [List.getElem?_set_ne e]
      simp at hj
      rcases hj with hj | hj
      · exact h4 j hj
      · exact absurd hj.symm e
  · have := count_set_false hk
    show (out.set k false).count true + (fr ++ [k]).length = (out.set k false).length
    simp at h5 ⊢; omega
theorem St.getS_ok {s : St} (h : s.ok) : s.getS.ok := by
  obtain ⟨N, out, fr⟩ := s
  rcases List.eq_nil_or_concat fr with rfl | ⟨fr', i, rfl⟩
  · by_cases e : out.length = N
    · rw [(get_full e).2.2]; exact h
    · rw [(get_new e).2.2]; exact ok_new h e
  · rw [List.concat_eq_append] at h ⊢
    rw [get_last.2.2]; exact (ok_last h).1

/-- The struct at g, of type T, with its two slices. -/
def Raw (T : TypeId) (w : World) (g N : Nat) (vg vf : Value) (xs ys : List Value) : Prop := Whole w g T #[.int .i64 N, vg, vf] ∧ Owns w 4 vg xs ∧ Owns w 3 vf ys
def Foot (g : Nat) (vg vf : Value) (k : Nat) : Prop := k = g ∨ vg.ownBlock = some k ∨ vf.ownBlock = some k
def bools (l : List Bool) : List Value := l.map .bool
def ints (l : List Nat) : List Value := l.map fun (i : Nat) => .int .i64 (i : Int)
@[simp] theorem len_bools (l : List Bool) : (bools l).length = l.length := List.length_map _
@[simp] theorem len_ints (l : List Nat) : (ints l).length = l.length := List.length_map _
theorem get_bools (l : List Bool) (i : Nat) : (bools l)[i]? = l[i]?.map .bool := List.getElem?_map
theorem get_ints (l : List Nat) (i : Nat) : (ints l)[i]? = l[i]?.map (fun (i : Nat) => .int .i64 (i : Int)) := List.getElem?_map
theorem set_bools (l : List Bool) (i : Nat) (b : Bool) : (bools l).set i (.bool b) = bools (l.set i b) := List.map_set.symm
theorem app_bools (l : List Bool) (b : Bool) : bools l ++ [.bool b] = bools (l ++ [b]) := by simp [bools]
theorem app_ints (l : List Nat) (i : Nat) : ints l ++ [.int .i64 (i : Int)] = ints (l ++ [i]) := by simp [ints]
theorem one_bools (l : List Bool) : ∀ u ∈ bools l, u.oneCell' = true := fun u hu => by simp only [bools, List.mem_map] at hu; obtain ⟨b, _, rfl⟩ := hu; rfl
theorem one_ints (l : List Nat) : ∀ u ∈ ints l, u.oneCell' = true := fun u hu => by simp only [ints, List.mem_map] at hu; obtain ⟨b, _, rfl⟩ := hu; rfl
/-- .. as the arena s; S: the blocks that are its own. -/
def ArenaAt (T : TypeId) (w : World) (S : Nat → Prop) (g : Nat) (s : St) : Prop := ∃ vg vf, Raw T w g s.N vg vf (bools s.out) (ints s.fr) ∧ s.ok ∧ ∀ k, S k ↔ Foot g vg vf k

/-- A step on what is S, which is S' behind it: nothing else has turned; what is S' and was not S is new. -/
def Step (S S' : Nat → Prop) (w w' : World) : Prop := Keep S w w' ∧ ∀ k, S' k → S k ∨ w.heap.size ≤ k

section
variable {T : TypeId} {w w' w'' : World} {S S' S'' R R' : Nat → Prop} {g : Nat} {s : St}
theorem ArenaAt.lt (h : ArenaAt T w S g s) {k : Nat} (hk : S k) : k < w.heap.size := by
  obtain ⟨vg, vf, ⟨h1, h2, h3⟩, _, hS⟩ := h
  rcases (hS k).1 hk with rfl | e | e
  · exact h1.lt
  · exact h2.lt e
  · exact h3.lt e
theorem ArenaAt.ok (h : ArenaAt T w S g s) : s.ok := by obtain ⟨_, _, _, h, _⟩ := h; exact h
theorem ArenaAt.keep (h : ArenaAt T w S g s) (hk : Keep R w w') (ha : ∀ k, S k → ¬ R k) : ArenaAt T w' S g s := by
  obtain ⟨vg, vf, ⟨h1, h2, h3⟩, h4, hS⟩ := h
  exact ⟨vg, vf, ⟨h1.keep hk (ha g ((hS g).2 (.inl rfl))), h2.keep hk (fun k e => ha k ((hS k).2 (.inr (.inl e)))), h3.keep hk (fun k e => ha k ((hS k).2 (.inr (.inr e))))⟩, h4, hS⟩
theorem ArenaAt.open (h : ArenaAt T w S g s) : ∃ ag cg af cf, Raw T w g s.N (.slice ag s.out.length cg) (.slice af s.fr.length cf) (bools s.out) (ints s.fr) ∧ (∀ k, S k ↔ Foot g (.slice ag s.out.length cg) (.slice af s.fr.length cf) k) ∧
    w.cell? ⟨g, 0, none⟩ = some (.int .i64 s.N) ∧ w.cell? ⟨g, 1, none⟩ = some (.slice ag s.out.length cg) ∧ w.cell? ⟨g, 2, none⟩ = some (.slice af s.fr.length cf) ∧ (0 < s.out.length → ∃ gg, ag = some ⟨gg, 0, none⟩) ∧ (0 < s.fr.length → ∃ gf, af = some ⟨gf, 0, none⟩) ∧ (af = none → s.fr.length = 0 ∧ cf = 0) := by
  obtain ⟨vg, vf, ⟨h1, h2, h3⟩, h4, hS⟩ := h
  obtain ⟨ag, cg, rfl, hn, ha⟩ := h2.shape
  obtain ⟨af, cf, rfl, hn', ha'⟩ := h3.shape
  rw [len_bools] at h1 h2 hS
  rw [len_ints] at h1 h3 hS
  refine ⟨ag, cg, af, cf, ⟨h1, h2, h3⟩, hS, h1.cell 0, h1.cell 1, h1.cell 2, fun hp => ?_, fun hp => ?_, fun e => ?_⟩
  · cases ag with
    | none => have := congrArg List.length (hn rfl).2; simp at this; rw [this] at hp; simp at hp
    | some ad => obtain ⟨gg, rfl⟩ := ha ad rfl; exact ⟨gg, rfl⟩
  · cases af with
    | none => have := congrArg List.length (hn' rfl).2; simp at this; rw [this] at hp; simp at hp
    | some ad => obtain ⟨gg, rfl⟩ := ha' ad rfl; exact ⟨gg, rfl⟩
  · have h1 := congrArg List.length (hn' e).2; rw [len_ints] at h1; exact ⟨h1, (hn' e).1⟩
theorem ArenaAt.drew (h : ArenaAt T w S g s) : ArenaAt T w.drew S g s := h
theorem Raw.keep {N : Nat} {vg vf : Value} {xs ys : List Value} (h : Raw T w g N vg vf xs ys) (hk : Keep R w w') (ha : ∀ k, Foot g vg vf k → ¬ R k) : Raw T w' g N vg vf xs ys :=
  ⟨h.1.keep hk (ha g (.inl rfl)), h.2.1.keep hk (fun k e => ha k (.inr (.inl e))), h.2.2.keep hk (fun k e => ha k (.inr (.inr e)))⟩
theorem Raw.alloc {N : Nat} {vg vf : Value} {xs ys : List Value} (h : Raw T w g N vg vf xs ys) (o : Obj) : Raw T (w.alloc o) g N vg vf xs ys := ⟨h.1.alloc o, h.2.1.alloc o, h.2.2.alloc o⟩
theorem Raw.cells {N : Nat} {vg vf : Value} {xs ys : List Value} (h : Raw T w g N vg vf xs ys) : w.cell? ⟨g, 0, none⟩ = some (.int .i64 N) ∧ w.cell? ⟨g, 1, none⟩ = some vg ∧ w.cell? ⟨g, 2, none⟩ = some vf ∧ w.frozen? ⟨g, 1, none⟩ = false ∧ w.frozen? ⟨g, 2, none⟩ = false :=
  ⟨h.1.cell 0, h.1.cell 1, h.1.cell 2, h.1.free 1, h.1.free 2⟩
theorem Raw.putOut {N gg n cg : Nat} {vf : Value} {xs ys : List Value} (h : Raw T w g N (.slice (some ⟨gg, 0, none⟩) n cg) vf xs ys) (hT : T ≠ 4) (k : Nat) (u : Value) :
    Raw T (w.setCell ⟨gg, k, none⟩ u) g N (.slice (some ⟨gg, 0, none⟩) n cg) vf (xs.set k u) ys := by
  obtain ⟨h1, h2, h3⟩ := h
  have n1 := h2.ne h1 hT
  refine ⟨h1.far (fun e => n1 (by simp [Value.ownBlock, e])) u, h2.put k u, h3.far (fun e => ?_) u⟩
  exact (h2.apart h3 (by decide) rfl) e
theorem Raw.turnOut {N : Nat} {vg vf v : Value} {xs ys xs' : List Value} (h : Raw T w g N vg vf xs ys) (hT : T ≠ 4 ∧ T ≠ 3) (hv : Owns w 4 v xs') : Raw T (w.setCell ⟨g, 1, none⟩ v) g N v vf xs' ys := by
  obtain ⟨h1, h2, h3⟩ := h
  exact ⟨h1.put 1 v, hv.far (hv.ne h1 hT.1) _, h3.far (h3.ne h1 hT.2) _⟩
theorem Raw.turnFr {N : Nat} {vg vf v : Value} {xs ys ys' : List Value} (h : Raw T w g N vg vf xs ys) (hT : T ≠ 4 ∧ T ≠ 3) (hv : Owns w 3 v ys') : Raw T (w.setCell ⟨g, 2, none⟩ v) g N vg v xs ys' := by
  obtain ⟨h1, h2, h3⟩ := h
  exact ⟨h1.put 2 v, h2.far (h2.ne h1 hT.1) _, hv.far (hv.ne h1 hT.2) _⟩
theorem Raw.grownOut {w1 : World} {N : Nat} {vg vf v : Value} {xs ys xs' : List Value} (h : Raw T w g N vg vf xs ys) (hT : T ≠ 4 ∧ T ≠ 3) (hk : Keep (fun k => vg.ownBlock = some k) w w1) (hv : Owns w1 4 v xs') :
    Raw T (w1.setCell ⟨g, 1, none⟩ v) g N v vf xs' ys ∧ w1.cell? ⟨g, 1, none⟩ = some vg ∧ w1.frozen? ⟨g, 1, none⟩ = false := by
  obtain ⟨h1, h2, h3⟩ := h
  have e1 := h1.keep hk (h2.ne h1 hT.1)
  have e3 := h3.keep hk (fun k hk' hk2 => h3.apart h2 (by decide) hk' hk2)
  exact ⟨⟨e1.put 1 v, hv.far (hv.ne e1 hT.1) _, e3.far (e3.ne e1 hT.2) _⟩, e1.cell 1, e1.free 1⟩
theorem Raw.grownFr {w1 : World} {N : Nat} {vg vf v : Value} {xs ys ys' : List Value} (h : Raw T w g N vg vf xs ys) (hT : T ≠ 4 ∧ T ≠ 3) (hk : Keep (fun k => vf.ownBlock = some k) w w1) (hv : Owns w1 3 v ys') :
    Raw T (w1.setCell ⟨g, 2, none⟩ v) g N vg v xs ys' ∧ w1.cell? ⟨g, 2, none⟩ = some vf ∧ w1.frozen? ⟨g, 2, none⟩ = false := by
  obtain ⟨h1, h2, h3⟩ := h
  have e1 := h1.keep hk (h3.ne h1 hT.2)
  have e2 := h2.keep hk (fun k hk' hk2 => h2.apart h3 (by decide) hk' hk2)
  exact ⟨⟨e1.put 2 v, e2.far (e2.ne e1 hT.1) _, hv.far (hv.ne e1 hT.2) _⟩, e1.cell 2, e1.free 2⟩
theorem foot_out {vg vf v : Value} {B : Nat} (hS : ∀ k, S k ↔ Foot g vg vf k) (hnew : ∀ k, v.ownBlock = some k → vg.ownBlock = some k ∨ B ≤ k) (hB : w.heap.size ≤ B) : ∀ k, Foot g v vf k → S k ∨ w.heap.size ≤ k := fun k hk => by
  rcases hk with e | e | e
  · exact .inl ((hS k).2 (.inl e))
  · exact (hnew k e).elim (fun e => .inl ((hS k).2 (.inr (.inl e)))) (fun e => .inr (Nat.le_trans hB e))
  · exact .inl ((hS k).2 (.inr (.inr e)))
theorem foot_fr {vg vf v : Value} {B : Nat} (hS : ∀ k, S k ↔ Foot g vg vf k) (hnew : ∀ k, v.ownBlock = some k → vf.ownBlock = some k ∨ B ≤ k) (hB : w.heap.size ≤ B) : ∀ k, Foot g vg v k → S k ∨ w.heap.size ≤ k := fun k hk => by
  rcases hk with e | e | e
  · exact .inl ((hS k).2 (.inl e))
  · exact .inl ((hS k).2 (.inr (.inl e)))
  · exact (hnew k e).elim (fun e => .inl ((hS k).2 (.inr (.inr e)))) (fun e => .inr (Nat.le_trans hB e))
theorem Step.refl (S : Nat → Prop) (w : World) : Step S S w w := ⟨Keep.refl _ _, fun _ h => .inl h⟩
theorem Step.drewN (S : Nat → Prop) (w : World) (n : Nat) : Step S S w (w.drewN n) := ⟨(Keep.refl _ _).drewN n, fun _ h => .inl h⟩
theorem Step.trans (h : Step S S' w w') (h' : Step S' S'' w' w'') : Step S S'' w w'' :=
  ⟨h.1.then h'.1 (fun k hk hlt => (h.2 k hk).elim id (fun e => absurd hlt (by omega))), fun k hk => (h'.2 k hk).elim (h.2 k) (fun e => .inr (Nat.le_trans h.1.size e))⟩
theorem Step.mine {B : Nat} (h : Step S S' w w') (hS : ∀ k, S k → B ≤ k) (hB : B ≤ w.heap.size) : ∀ k, S' k → B ≤ k := fun k hk => (h.2 k hk).elim (hS k) (Nat.le_trans hB)
theorem Step.below {B : Nat} (h : Step S S' w w') (hS : ∀ k, S k → B ≤ k) (hB : B ≤ w.heap.size) : Below B w w' := h.1.below hB hS
/-- Another one stays apart. -/
theorem Step.apart (h : Step S S' w w') (hR : ∀ k, R k → k < w.heap.size) (ha : ∀ k, R k → ¬ S k) : ∀ k, R k → ¬ S' k := fun k hk hs => (h.2 k hs).elim (ha k hk) (fun e => by have := hR k hk; omega)
end
end Go.Proofs.Ytfbbmpmgceghfaa
