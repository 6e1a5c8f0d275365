/-
  A tree of package rbtree as an object: its nodes, its arena, its keys; New makes one. Conditions: none.
  The call Insert of package rbtree: each answer, and what is in the tree behind it. Conditions: the tree lies in memory.
-/
import Derived.Test.YtnljjdfajmjdjaaJ11
import Derived.Test.YtnljjdfajmjdjaaJ01
namespace Go.Proofs.Ytnljjdfajmjdjaa
open Go.RowKit
set_option maxRecDepth 100000

structure TreeIn (w : World) (S : Nat → Prop) (g ga b cap n tp : Nat) (m : Nat → Nd) (L : List (Nat × Key)) (s : St) (Sa : Nat → Prop) : Prop where
  tr : Tr w g b cap (.pointer (some ⟨ga, 0, none⟩)) n tp m
  rep : ∃ t, RepB m n tp .top t L
  sorted : Sorted L
  ar : ArenaAt 142 w Sa ga s
  len : n = s.out.length + 1
  ids : ∀ i, i ∈ L.map (·.1) ↔ ∃ p, i = p + 1 ∧ s.out[p]? = some true
  cnt : L.length = s.out.count true
  ng : ¬ Sa g
  nb : ¬ Sa b
  foot : ∀ k, S k ↔ Mine g b k ∨ Sa k
/-- The tree at g, for N keys, in which are just ks, in order; S: the blocks that are its own. -/
def TreeAt (w : World) (S : Nat → Prop) (g N : Nat) (ks : List Key) : Prop := ∃ ga b cap n tp m L s Sa, TreeIn w S g ga b cap n tp m L s Sa ∧ L.map (·.2) = ks ∧ s.N = N

section
variable {w w' : World} {S : Nat → Prop} {g N : Nat} {ks : List Key}
theorem TreeIn.n_le {ga b cap n tp : Nat} {m : Nat → Nd} {L : List (Nat × Key)} {s : St} {Sa : Nat → Prop} (h : TreeIn w S g ga b cap n tp m L s Sa) : n ≤ 4097 ∧ L.length ≤ s.N ∧ s.N ≤ 4096 := by
  have := h.ar.ok
  have h1 := this.len; have h2 := this.n; have h3 := this.cnt; have h4 := h.len; have h5 := h.cnt
  omega
theorem TreeAt.lt (h : TreeAt w S g N ks) {k : Nat} (hk : S k) : k < w.heap.size := by
  obtain ⟨ga, b, cap, n, tp, m, L, s, Sa, h, _⟩ := h
  rcases (h.foot k).1 hk with (e | e) | e
  · rw [e]; exact h.tr.gLt
  · rw [e]; exact h.tr.hLt
  · exact h.ar.lt e
theorem TreeAt.few (h : TreeAt w S g N ks) : ks.length ≤ N ∧ N ≤ 4096 := by
  obtain ⟨ga, b, cap, n, tp, m, L, s, Sa, h, e, e'⟩ := h
  have := h.n_le
  rw [← e, List.length_map, ← e']
  exact this.2
theorem TreeAt.keep {R : Nat → Prop} (h : TreeAt w S g N ks) (hk : Keep R w w') (ha : ∀ k, S k → ¬ R k) : TreeAt w' S g N ks := by
  obtain ⟨ga, b, cap, n, tp, m, L, s, Sa, h, e⟩ := h
  exact ⟨ga, b, cap, n, tp, m, L, s, Sa, ⟨h.tr.keep hk (ha g ((h.foot g).2 (.inl (.inl rfl)))) (ha b ((h.foot b).2 (.inl (.inr rfl)))), h.rep, h.sorted, h.ar.keep hk (fun k hk => ha k ((h.foot k).2 (.inr hk))), h.len, h.ids, h.cnt, h.ng, h.nb, h.foot⟩, e⟩
theorem TreeAt.kept (h : TreeAt w S g N ks) (hk : Keep (fun _ => False) w w') : TreeAt w' S g N ks := h.keep hk (fun _ _ h => h)
theorem TreeAt.drewN (h : TreeAt w S g N ks) (k : Nat) : TreeAt (w.drewN k) S g N ks := h.kept ((Keep.refl _ _).drewN k)
theorem TreeAt.mine (h : TreeAt w S g N ks) : S g := by
  obtain ⟨ga, b, cap, n, tp, m, L, s, Sa, h, _⟩ := h
  exact (h.foot g).2 (.inl (.inl rfl))
theorem TreeAt.sorted (h : TreeAt w S g N ks) : ks.Pairwise KLt := by
  obtain ⟨ga, b, cap, n, tp, m, L, s, Sa, h, e, _⟩ := h
  rw [← e, List.pairwise_map]
  exact h.sorted

theorem Try.mkNode (w : World) : (Instr.makeSlice 119 (.int .i64 1) (.int .i64 1)).run Try.prog w = .ok (.slice (some ⟨w.heap.size, 0, none⟩) 1 1) (w.alloc (.cells #[.int .u64 0, .int .u64 0, .int .i64 0, .int .i64 0, .int .i64 0, .bool false] 124)) := by kernel_rfl
theorem row_one (w : World) : (w.alloc (.cells #[.int .u64 0, .int .u64 0, .int .i64 0, .int .i64 0, .int .i64 0, .bool false] 124)).ownsRow 0 124 6 (.slice (some ⟨w.heap.size, 0, none⟩) 1 1) 1 (flat (fun _ => Nd.zero) 1) :=
  World.ownsRow_lit (base := 0) w #[.int .u64 0, .int .u64 0, .int .i64 0, .int .i64 0, .int .i64 0, .bool false] 1 (Nat.zero_le _) (by decide) (by simp)
theorem flat_one : flat (fun _ => Nd.zero) 1 = [.int .u64 0, .int .u64 0, .int .i64 0, .int .i64 0, .int .i64 0, .bool false] := rfl

theorem World.grownBy.of_keep {w w' : World} (h : Keep (fun _ => False) w w') : w.grownBy w' none := ⟨h.os, h.tape, h.output, h.size, fun k hk _ => h.block k hk (fun h => h)⟩
theorem new_tree {wx : World} {ga b cap g : Nat} {Sa : Nat → Prop} (k : Nat) (hg : wx.heap.size = g) (har : ArenaAt 142 wx Sa ga ⟨k, [], []⟩) (hrow : wx.ownsRow 0 124 6 (.slice (some ⟨b, 0, none⟩) 1 cap) 1 (flat (fun _ => Nd.zero) 1)) (hb : ¬ Sa b) :
    TreeAt (wx.alloc (.cells #[.pointer (some ⟨ga, 0, none⟩), .slice (some ⟨b, 0, none⟩) 1 cap, .int .i64 0] 121)) (fun j => Mine g b j ∨ Sa j) g k [] := by
  subst hg
  refine ⟨ga, b, cap, 1, 0, fun _ => Nd.zero, [], ⟨k, [], []⟩, Sa, ⟨⟨Whole.new _ _ _, World.ownsRow.alloc hrow _⟩, ⟨.nil, ⟨⟨rfl, trivial, rfl, rfl, by simp, by simp⟩, 0, rfl, rfl⟩⟩, List.Pairwise.nil, har.keep (R := fun _ => False) ((Keep.refl _ _).alloc _) (fun _ _ h => h), rfl, by simp, rfl, fun h => ?_, hb, fun _ => Iff.rfl⟩, rfl, rfl⟩
  have := har.lt h
  omega

set_option maxHeartbeats 1000000 in
set_option maxRecDepth 100000 in
theorem tnew_any (n : Int) (w : World) : Calls Try.prog 52 #[.int .i64 n] w fun e w' => ∃ g S, e = .returned (.pointer (some ⟨g, 0, none⟩)) ∧ TreeAt w' S g (capN n) [] ∧ (∀ k, S k → w.heap.size ≤ k) ∧ Keep (fun _ => False) w w' := by
  have hmk := Try.mkNode
  go_enter Try.func52, Try.ntmps52
  go_wp2
  go_cut [2] (fun s2 wx => ∃ g S, s2 = .pointer (some ⟨g, 0, none⟩) ∧ TreeAt wx S g (capN n) [] ∧ (∀ k, S k → w.heap.size ≤ k) ∧ Keep (fun _ => False) w wx)
  case first =>
    refine wp_region_sch2 (fun _ => True) (.yes 0 (.two 1 (.one 2 (.yes 3 (.one 4 (.yes 5 .nil)))) 2 (.one 1 (.yes 3 (.one 4 (.yes 5 .nil)))))) (by kernel_rfl) (by kernel_rfl) (by kernel_rfl) (by kernel_rfl) trivial ?_
    (repeat (refine wpSch2_yes (v := ?_) rfl (fun _ _ _ h => h) (by rfl) ?_ ?_; rotate_left; (next => (intro w hSw; clear hSw; go_simp; (try with_reducible rfl))); (try simp only [Act.put, List.setIfInBounds_toArray, List.set_cons_zero, List.set_cons_succ])))
    refine wpSch2_two ?_ ?_
    · skip
      refine wpOne_call rfl (by rfl) (fun K hK => ?_); go_simp
      refine (anew_any n w.drew).mono ?_
      rintro e w2 ⟨rfl, h2, k2⟩
      have H2 := Lib.hid h2; have K2 := Lib.hid k2; clear h2 k2
      refine hK.out _ _ trivial (fun _ => ?_)
      clear hK K
      (try simp only [Act.put, List.setIfInBounds_toArray, List.set_cons_zero, List.set_cons_succ])
      refine wpSch2_one ?_
      refine wpOne_call rfl (by rfl) (fun K hK => ?_); go_simp
      refine hK.out _ _ trivial (fun _ => ?_)
      clear hK K
      (try simp only [Act.put, List.setIfInBounds_toArray, List.set_cons_zero, List.set_cons_succ])
      (repeat (refine wpSch2_yes (v := ?_) rfl (fun _ _ _ h => h) (by rfl) ?_ ?_; rotate_left; (next => (intro w hSw; clear hSw; go_simp; (try with_reducible rfl))); (try simp only [Act.put, List.setIfInBounds_toArray, List.set_cons_zero, List.set_cons_succ])))
      refine wpSch2_one ?_
      refine wpOne_call rfl (by rfl) (fun K hK => ?_); go_simp
      refine hK.out _ _ trivial (fun _ => ?_)
      clear hK K
      (try simp only [Act.put, List.setIfInBounds_toArray, List.set_cons_zero, List.set_cons_succ])
      (repeat (refine wpSch2_yes (v := ?_) rfl (fun _ _ _ h => h) (by rfl) ?_ ?_; rotate_left; (next => (intro w hSw; clear hSw; go_simp; (try with_reducible rfl))); (try simp only [Act.put, List.setIfInBounds_toArray, List.set_cons_zero, List.set_cons_succ])))
      refine wpSch2_nil ?_
      go_wp2
      go_meet
      refine ⟨_, _, rfl, new_tree _ (by simp) (H2.out.keep ((Keep.refl (fun _ => False) _).alloc _) (fun _ _ h => h)) (row_one _) (fun h => by have := H2.out.lt h; omega), fun k hk => ?_, ((Keep.refl (fun _ => False) w).drew.trans K2.out).alloc _ |>.alloc _⟩
      have hs := K2.out.size
      (try simp only [World.size_alloc] at hk)
      rcases hk with (e | e) | e
      · have : w.heap.size ≤ w2.heap.size := hs
        omega
      · have : w.heap.size ≤ w2.heap.size := hs
        omega
      · have : k = w.heap.size := e
        omega
    · skip
      refine wpOne_call rfl (by rfl) (fun K hK => ?_); go_simp
      refine hK.out _ _ trivial (fun _ => ?_)
      clear hK K
      (try simp only [Act.put, List.setIfInBounds_toArray, List.set_cons_zero, List.set_cons_succ])
      refine wpSch2_one ?_
      refine wpOne_call rfl (by rfl) (fun K hK => ?_); go_simp
      refine (anew_any n _).mono ?_
      rintro e w2 ⟨rfl, h2, k2⟩
      have hz : (w.alloc (.cells #[.int .u64 0, .int .u64 0, .int .i64 0, .int .i64 0, .int .i64 0, .bool false] 124)).drew.heap.size = w.heap.size + 1 := World.size_alloc _ _
      rw [hz] at h2
      have hsz := k2.size
      rw [hz] at hsz
      have H2 := Lib.hid h2; have K2 := Lib.hid k2; clear h2 k2
      refine hK.out _ _ trivial (fun _ => ?_)
      clear hK K
      (try simp only [Act.put, List.setIfInBounds_toArray, List.set_cons_zero, List.set_cons_succ])
      (repeat (refine wpSch2_yes (v := ?_) rfl (fun _ _ _ h => h) (by rfl) ?_ ?_; rotate_left; (next => (intro w hSw; clear hSw; go_simp; (try with_reducible rfl))); (try simp only [Act.put, List.setIfInBounds_toArray, List.set_cons_zero, List.set_cons_succ])))
      refine wpSch2_one ?_
      refine wpOne_call rfl (by rfl) (fun K hK => ?_); go_simp
      refine hK.out _ _ trivial (fun _ => ?_)
      clear hK K
      (try simp only [Act.put, List.setIfInBounds_toArray, List.set_cons_zero, List.set_cons_succ])
      (repeat (refine wpSch2_yes (v := ?_) rfl (fun _ _ _ h => h) (by rfl) ?_ ?_; rotate_left; (next => (intro w hSw; clear hSw; go_simp; (try with_reducible rfl))); (try simp only [Act.put, List.setIfInBounds_toArray, List.set_cons_zero, List.set_cons_succ])))
      refine wpSch2_nil ?_
      go_wp2
      go_meet
      refine ⟨_, _, rfl, new_tree _ (by simp) H2.out (World.ownsRow.kept (row_one w) (World.grownBy.of_keep ((Keep.refl (fun _ => False) _).drew.trans K2.out)) (by simp [Value.ownBlock])) (fun h => ?_), fun k hk => ?_, (((Keep.refl (fun _ => False) w).alloc _).drew.trans K2.out).alloc _⟩
      · have h' : w.heap.size = w.heap.size + 1 := h
        omega
      · rcases hk with (e | e) | e
        · omega
        · have : k = w.heap.size := e
          omega
        · have : k = w.heap.size + 1 := e
          omega
  case rest =>
    obtain ⟨g, S, rfl, h2, h3, h4⟩ := hcut
    have H2 := Lib.hid h2; have H3 := Lib.hid h3; have H4 := Lib.hid h4; clear h2 h3 h4
    go_wp2
    go_ret
    exact ⟨g, S, rfl, H2.out, H3.out, H4.out⟩
end
end Go.Proofs.Ytnljjdfajmjdjaa
namespace Go.Proofs.Ytnljjdfajmjdjaa
open Go.RowKit
set_option maxRecDepth 100000
set_option linter.unusedSimpArgs false

def insE (N : Nat) (ks : List Key) (k : Key) : Int := if k ∈ ks then 6 else if N ≤ ks.length then 5 else 0
def insK (k : Key) (ks : List Key) : List Key := ks.filter (fun x => decide (KLt x k)) ++ k :: ks.filter (fun x => decide (KLt k x))
def insS (N : Nat) (ks : List Key) (k : Key) : List Key := if k ∈ ks then ks else if N ≤ ks.length then ks else insK k ks

theorem insK_split {k : Key} {A B : List Key} (hA : ∀ x ∈ A, KLt x k) (hB : ∀ x ∈ B, KLt k x) : k ∉ A ++ B ∧ insK k (A ++ B) = A ++ k :: B := by
  constructor
  · intro h
    rcases List.mem_append.1 h with h | h
    · exact (hA k h).irr
    · exact (hB k h).irr
  · unfold insK
    rw [List.filter_append, List.filter_append]
    have h1 : A.filter (fun x => decide (KLt x k)) = A := List.filter_eq_self.2 fun x hx => by simpa using hA x hx
    have h2 : B.filter (fun x => decide (KLt x k)) = [] := List.filter_eq_nil_iff.2 fun x hx => by simpa using fun h => (hB x hx).asymm h
    have h3 : A.filter (fun x => decide (KLt k x)) = [] := List.filter_eq_nil_iff.2 fun x hx => by simpa using fun h => (hA x hx).asymm h
    have h4 : B.filter (fun x => decide (KLt k x)) = B := List.filter_eq_self.2 fun x hx => by simpa using hB x hx
    rw [h1, h2, h3, h4]
    simp

section
variable {w w' : World} {g b cap n tp : Nat} {pa : Value} {m : Nat → Nd}
theorem upd_upd (m : Nat → Nd) (i : Nat) (x y : Nd) : upd (upd m i x) i y = upd m i y := by
  funext j; unfold upd; split <;> rfl
/-- A whole node is laid. -/
theorem Tr.six (t : Tr w g b cap pa n tp m) {i : Nat} (hi : i < n) (x : Nd) :
    (w.cell? ⟨b, i * 6, none⟩ = some (.int .u64 (m i).k.a) ∧ w.frozen? ⟨b, i * 6, none⟩ = false) ∧
    ((w.setCell ⟨b, i * 6, none⟩ (.int .u64 x.k.a)).cell? ⟨b, i * 6 + 1, none⟩ = some (.int .u64 (m i).k.b) ∧ (w.setCell ⟨b, i * 6, none⟩ (.int .u64 x.k.a)).frozen? ⟨b, i * 6 + 1, none⟩ = false) ∧
    (((w.setCell ⟨b, i * 6, none⟩ (.int .u64 x.k.a)).setCell ⟨b, i * 6 + 1, none⟩ (.int .u64 x.k.b)).cell? ⟨b, i * 6 + 2, none⟩ = some (.int .i64 (m i).up) ∧ ((w.setCell ⟨b, i * 6, none⟩ (.int .u64 x.k.a)).setCell ⟨b, i * 6 + 1, none⟩ (.int .u64 x.k.b)).frozen? ⟨b, i * 6 + 2, none⟩ = false) ∧
    ((((w.setCell ⟨b, i * 6, none⟩ (.int .u64 x.k.a)).setCell ⟨b, i * 6 + 1, none⟩ (.int .u64 x.k.b)).setCell ⟨b, i * 6 + 2, none⟩ (.int .i64 x.up)).cell? ⟨b, i * 6 + 3, none⟩ = some (.int .i64 (m i).lo) ∧ (((w.setCell ⟨b, i * 6, none⟩ (.int .u64 x.k.a)).setCell ⟨b, i * 6 + 1, none⟩ (.int .u64 x.k.b)).setCell ⟨b, i * 6 + 2, none⟩ (.int .i64 x.up)).frozen? ⟨b, i * 6 + 3, none⟩ = false) ∧
    (((((w.setCell ⟨b, i * 6, none⟩ (.int .u64 x.k.a)).setCell ⟨b, i * 6 + 1, none⟩ (.int .u64 x.k.b)).setCell ⟨b, i * 6 + 2, none⟩ (.int .i64 x.up)).setCell ⟨b, i * 6 + 3, none⟩ (.int .i64 x.lo)).cell? ⟨b, i * 6 + 4, none⟩ = some (.int .i64 (m i).hi) ∧ ((((w.setCell ⟨b, i * 6, none⟩ (.int .u64 x.k.a)).setCell ⟨b, i * 6 + 1, none⟩ (.int .u64 x.k.b)).setCell ⟨b, i * 6 + 2, none⟩ (.int .i64 x.up)).setCell ⟨b, i * 6 + 3, none⟩ (.int .i64 x.lo)).frozen? ⟨b, i * 6 + 4, none⟩ = false) ∧
    ((((((w.setCell ⟨b, i * 6, none⟩ (.int .u64 x.k.a)).setCell ⟨b, i * 6 + 1, none⟩ (.int .u64 x.k.b)).setCell ⟨b, i * 6 + 2, none⟩ (.int .i64 x.up)).setCell ⟨b, i * 6 + 3, none⟩ (.int .i64 x.lo)).setCell ⟨b, i * 6 + 4, none⟩ (.int .i64 x.hi)).cell? ⟨b, i * 6 + 5, none⟩ = some (.bool (m i).red) ∧ (((((w.setCell ⟨b, i * 6, none⟩ (.int .u64 x.k.a)).setCell ⟨b, i * 6 + 1, none⟩ (.int .u64 x.k.b)).setCell ⟨b, i * 6 + 2, none⟩ (.int .i64 x.up)).setCell ⟨b, i * 6 + 3, none⟩ (.int .i64 x.lo)).setCell ⟨b, i * 6 + 4, none⟩ (.int .i64 x.hi)).frozen? ⟨b, i * 6 + 5, none⟩ = false) ∧
    Tr ((((((w.setCell ⟨b, i * 6, none⟩ (.int .u64 x.k.a)).setCell ⟨b, i * 6 + 1, none⟩ (.int .u64 x.k.b)).setCell ⟨b, i * 6 + 2, none⟩ (.int .i64 x.up)).setCell ⟨b, i * 6 + 3, none⟩ (.int .i64 x.lo)).setCell ⟨b, i * 6 + 4, none⟩ (.int .i64 x.hi)).setCell ⟨b, i * 6 + 5, none⟩ (.bool x.red)) g b cap pa n tp (upd m i x) ∧
    Keep (Mine g b) w ((((((w.setCell ⟨b, i * 6, none⟩ (.int .u64 x.k.a)).setCell ⟨b, i * 6 + 1, none⟩ (.int .u64 x.k.b)).setCell ⟨b, i * 6 + 2, none⟩ (.int .i64 x.up)).setCell ⟨b, i * 6 + 3, none⟩ (.int .i64 x.lo)).setCell ⟨b, i * 6 + 4, none⟩ (.int .i64 x.hi)).setCell ⟨b, i * 6 + 5, none⟩ (.bool x.red)) := by
  have t1 := t.put (i := i) (j := 0) (x := { m i with k := ⟨x.k.a, (m i).k.b⟩ }) (v := .int .u64 x.k.a) rfl (by decide)
  have t2 := t1.put (i := i) (j := 1) (x := { m i with k := x.k }) (v := .int .u64 x.k.b) (by rw [upd_same]; rfl) (by decide)
  have t3 := t2.put (i := i) (j := 2) (x := { m i with k := x.k, up := x.up }) (v := .int .i64 x.up) (by rw [upd_same]; rfl) (by decide)
  have t4 := t3.put (i := i) (j := 3) (x := { m i with k := x.k, up := x.up, lo := x.lo }) (v := .int .i64 x.lo) (by rw [upd_same]; rfl) (by decide)
  have t5 := t4.put (i := i) (j := 4) (x := { m i with k := x.k, up := x.up, lo := x.lo, hi := x.hi }) (v := .int .i64 x.hi) (by rw [upd_same]; rfl) (by decide)
  have t6 := t5.put (i := i) (j := 5) (x := x) (v := .bool x.red) (by rw [upd_same]; rfl) (by decide)
  rw [upd_upd, upd_upd, upd_upd, upd_upd, upd_upd] at t6
  have e1 := t1.cell hi (j := 1) (by decide); rw [upd_same] at e1
  have e2 := t2.cell hi (j := 2) (by decide); rw [upd_same] at e2
  have e3 := t3.cell hi (j := 3) (by decide); rw [upd_same] at e3
  have e4 := t4.cell hi (j := 4) (by decide); rw [upd_same] at e4
  have e5 := t5.cell hi (j := 5) (by decide); rw [upd_same] at e5
  exact ⟨⟨t.ka hi, t.free _⟩, ⟨e1, t1.free _⟩, ⟨e2, t2.free _⟩, ⟨e3, t3.free _⟩, ⟨e4, t4.free _⟩, ⟨e5, t5.free _⟩, t6, (((((((Keep.refl _ w).mine _ _).mine _ _).mine _ _).mine _ _).mine _ _).mine _ _)⟩
/-- The row has grown by one. -/
theorem Tr.grown {w1 : World} {v : Value} {x : Nd} (t : Tr w g b cap pa n tp m) (hk : Keep (fun k => (Value.slice (some ⟨b, 0, none⟩) n cap).ownBlock = some k) w w1) (hv : w1.ownsRow 0 124 6 v (n + 1) (flat m n ++ cellsN x)) (hnew : ∀ k, v.ownBlock = some k → (Value.slice (some ⟨b, 0, none⟩) n cap).ownBlock = some k ∨ w.heap.size ≤ k) :
    ∃ b' cap', v = .slice (some ⟨b', 0, none⟩) (n + 1) cap' ∧ (b' = b ∨ w.heap.size ≤ b') ∧ w1.cell? ⟨g, 1, none⟩ = some (.slice (some ⟨b, 0, none⟩) n cap) ∧ w1.frozen? ⟨g, 1, none⟩ = false ∧ Tr (w1.setCell ⟨g, 1, none⟩ v) g b' cap' pa (n + 1) tp (upd m n x) ∧ Keep (Mine g b) w (w1.setCell ⟨g, 1, none⟩ v) := by
  have hst := t.st.keep hk (by simp [Value.ownBlock]; exact t.ne.symm)
  rcases hv.2 with ⟨_, h0⟩ | ⟨b', cap', cur, rfl, _⟩
  · omega
  · have hb := hnew b' rfl
    simp only [Value.ownBlock, Option.some.injEq] at hb
    have hne : b' ≠ g := by
      rcases hb with h | h
      · rw [← h]; exact t.ne.symm
      · have := t.gLt; omega
    refine ⟨b', cap', rfl, hb.imp Eq.symm id, hst.cell 1, hst.free 1, ⟨hst.put 1 _, ?_⟩, ?_⟩
    · rw [← flat_app]
      exact ownsRow_setCell_other hv (by simp [Value.ownBlock]; exact hne) _
    · exact (hk.mono (fun k e => by simp only [Value.ownBlock, Option.some.injEq] at e; exact .inr e.symm)).setCell (p := ⟨g, 1, none⟩) (.inl (.inl rfl)) _
end

theorem ids_new {out : List Bool} (p : Nat) : (out ++ [true])[p]? = some true ↔ p = out.length ∨ out[p]? = some true := by
  by_cases h : p < out.length
  · rw [List.getElem?_append_left h]
    exact ⟨.inr, fun e => e.elim (fun e => by omega) id⟩
  · rw [List.getElem?_append_right (by omega), List.getElem?_eq_none (l := out) (by omega)]
    by_cases e : p = out.length
    · subst e; simp
    · rw [List.getElem?_eq_none (by simp; omega)]; simp [e]
theorem ids_set {out : List Bool} {i : Nat} (hi : i < out.length) (p : Nat) : (out.set i true)[p]? = some true ↔ p = i ∨ out[p]? = some true := by
  by_cases e : i = p
  · subst e; simp [hi]
  · rw [List.getElem?_set_ne e]
    exact ⟨.inr, fun h => h.elim (fun e' => absurd e'.symm e) id⟩

theorem Found.here {m : Nat → Nd} {n tp : Nat} {L : List (Nat × Key)} {k : Key} {z : Z} {i : Nat} {c : Bool} {l r : T} (h : RepB m n tp z (.nd i k c l r) L) : k ∈ L.map (·.2) := by
  rw [← h.rep.its]
  simp [T.its]
theorem Found.gone {m : Nat → Nd} {n tp : Nat} {L : List (Nat × Key)} {k : Key} {z : Z} (h : RepB m n tp z .nil L) (h1 : ∀ x ∈ z.zl, KLt x.2 k) (h2 : ∀ x ∈ z.zr, KLt k x.2) :
    k ∉ L.map (·.2) ∧ ∀ a, (z.zl ++ (a, k) :: z.zr).map (·.2) = insK k (L.map (·.2)) := by
  have e : L = z.zl ++ z.zr := by rw [← h.rep.its]; simp [T.its]
  have := insK_split (k := k) (A := z.zl.map (·.2)) (B := z.zr.map (·.2)) (fun x hx => by obtain ⟨y, hy, rfl⟩ := List.mem_map.1 hx; exact h1 y hy) (fun x hx => by obtain ⟨y, hy, rfl⟩ := List.mem_map.1 hx; exact h2 y hy)
  rw [e, List.map_append]
  refine ⟨this.1, fun a => ?_⟩
  rw [this.2]; simp
theorem sorted_in {k : Key} {a : Nat} {A B : List (Nat × Key)} (h : Sorted (A ++ B)) (h1 : ∀ x ∈ A, KLt x.2 k) (h2 : ∀ x ∈ B, KLt k x.2) : Sorted (A ++ (a, k) :: B) := by
  unfold Sorted at *
  rw [List.pairwise_append] at h ⊢
  refine ⟨h.1, List.pairwise_cons.2 ⟨h2, h.2.1⟩, fun x hx y hy => ?_⟩
  rcases List.mem_cons.1 hy with rfl | hy
  · exact h1 x hx
  · exact (h1 x hx).trans (h2 y hy)

theorem tins_nil (k : Key) (w : World) : Calls Try.prog 46 #[.pointer none, kv k] w fun e w' => e = .returned (.int .i64 2) ∧ Keep (fun _ => False) w w' := by
  unfold kv
  go_enter Try.func46, Try.ntmps46
  go_wp2
  go_ret
  exact ⟨rfl, (Keep.refl _ _).alloc _⟩
end Go.Proofs.Ytnljjdfajmjdjaa
