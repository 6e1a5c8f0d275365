/-
  A tree of package rbtree as an object: its nodes, its arena, its keys; New makes one. Conditions: none.
-/
import Derived.Test.YtfbbmpmgceghfaaRbCut
import Derived.Test.YtfbbmpmgceghfaaArena
import Derived.Test.YtfbbmpmgceghfaaOwnN
namespace Go.Proofs.Ytfbbmpmgceghfaa
open Go.RowKit
set_option maxRecDepth 100000

structure TreeIn (w : World) (S : Nat → Prop) (g ga b cap n tp : Nat) (m : Nat → Nd) (L : List (Nat × Key)) (s : St) (Sa : Nat → Prop) : Prop where
  tr : Tr w g b cap (.pointer (some ⟨ga, 0, none⟩)) n tp m
  rep : ∃ t, RepB m n tp .top t L
  sorted : Sorted L
  ar : ArenaAt 80 w Sa ga s
  len : n = s.out.length + 1
  ids : ∀ i, i ∈ L.map (·.1) ↔ ∃ p, i = p + 1 ∧ s.out[p]? = some true
  cnt : L.length = s.out.count true
  ng : ¬ Sa g
  nb : ¬ Sa b
  foot : ∀ k, S k ↔ Mine g b k ∨ Sa k
/-- The tree at g, for N keys, in which are just ks, in order; S: the blocks that are its own. -/
def TreeAt (w : World) (S : Nat → Prop) (g N : Nat) (ks : List Key) : Prop := ∃ ga b cap n tp m L s Sa, TreeIn w S g ga b cap n tp m L s Sa ∧ L.map (·.2) = ks ∧ s.N = N

section
variable {w w' : World} {S : Nat → Prop} {g N : Nat} {ks : List Key}
theorem TreeIn.n_le {ga b cap n tp : Nat} {m : Nat → Nd} {L : List (Nat × Key)} {s : St} {Sa : Nat → Prop} (h : TreeIn w S g ga b cap n tp m L s Sa) : n ≤ 4097 ∧ L.length ≤ s.N ∧ s.N ≤ 4096 := by
  have := h.ar.ok
  have h1 := this.len; have h2 := this.n; have h3 := this.cnt; have h4 := h.len; have h5 := h.cnt
  omega
theorem TreeAt.lt (h : TreeAt w S g N ks) {k : Nat} (hk : S k) : k < w.heap.size := by
  obtain ⟨ga, b, cap, n, tp, m, L, s, Sa, h, _⟩ := h
  rcases (h.foot k).1 hk with (e | e) | e
  · rw [e]; exact h.tr.gLt
  · rw [e]; exact h.tr.hLt
  · exact h.ar.lt e
theorem TreeAt.few (h : TreeAt w S g N ks) : ks.length ≤ N ∧ N ≤ 4096 := by
  obtain ⟨ga, b, cap, n, tp, m, L, s, Sa, h, e, e'⟩ := h
  have := h.n_le
  rw [← e, List.length_map, ← e']
  exact this.2
theorem TreeAt.keep {R : Nat → Prop} (h : TreeAt w S g N ks) (hk : Keep R w w') (ha : ∀ k, S k → ¬ R k) : TreeAt w' S g N ks := by
  obtain ⟨ga, b, cap, n, tp, m, L, s, Sa, h, e⟩ := h
  exact ⟨ga, b, cap, n, tp, m, L, s, Sa, ⟨h.tr.keep hk (ha g ((h.foot g).2 (.inl (.inl rfl)))) (ha b ((h.foot b).2 (.inl (.inr rfl)))), h.rep, h.sorted, h.ar.keep hk (fun k hk => ha k ((h.foot k).2 (.inr hk))), h.len, h.ids, h.cnt, h.ng, h.nb, h.foot⟩, e⟩
theorem TreeAt.kept (h : TreeAt w S g N ks) (hk : Keep (fun _ => False) w w') : TreeAt w' S g N ks := h.keep hk (fun _ _ h => h)
theorem TreeAt.drewN (h : TreeAt w S g N ks) (k : Nat) : TreeAt (w.drewN k) S g N ks := h.kept ((Keep.refl _ _).drewN k)
theorem TreeAt.mine (h : TreeAt w S g N ks) : S g := by
  obtain ⟨ga, b, cap, n, tp, m, L, s, Sa, h, _⟩ := h
  exact (h.foot g).2 (.inl (.inl rfl))
theorem TreeAt.sorted (h : TreeAt w S g N ks) : ks.Pairwise KLt := by
  obtain ⟨ga, b, cap, n, tp, m, L, s, Sa, h, e, _⟩ := h
  rw [← e, List.pairwise_map]
  exact h.sorted

theorem Try.mkNode (w : World) : (Instr.makeSlice 54 (.int .i64 1) (.int .i64 1)).run Try.prog w = .ok (.slice (some ⟨w.heap.size, 0, none⟩) 1 1) (w.alloc (.cells #[.int .u64 0, .int .u64 0, .int .i64 0, .int .i64 0, .int .i64 0, .bool false] 63)) := by kernel_rfl
theorem row_one (w : World) : (w.alloc (.cells #[.int .u64 0, .int .u64 0, .int .i64 0, .int .i64 0, .int .i64 0, .bool false] 63)).ownsRow 0 63 6 (.slice (some ⟨w.heap.size, 0, none⟩) 1 1) 1 (flat (fun _ => Nd.zero) 1) :=
  World.ownsRow_lit (base := 0) w #[.int .u64 0, .int .u64 0, .int .i64 0, .int .i64 0, .int .i64 0, .bool false] 1 (Nat.zero_le _) (by decide) (by simp)
theorem flat_one : flat (fun _ => Nd.zero) 1 = [.int .u64 0, .int .u64 0, .int .i64 0, .int .i64 0, .int .i64 0, .bool false] := rfl

theorem World.grownBy.of_keep {w w' : World} (h : Keep (fun _ => False) w w') : w.grownBy w' none := ⟨h.os, h.tape, h.output, h.size, fun k hk _ => h.block k hk (fun h => h)⟩
theorem new_tree {wx : World} {ga b cap g : Nat} {Sa : Nat → Prop} (k : Nat) (hg : wx.heap.size = g) (har : ArenaAt 80 wx Sa ga ⟨k, [], []⟩) (hrow : wx.ownsRow 0 63 6 (.slice (some ⟨b, 0, none⟩) 1 cap) 1 (flat (fun _ => Nd.zero) 1)) (hb : ¬ Sa b) :
    TreeAt (wx.alloc (.cells #[.pointer (some ⟨ga, 0, none⟩), .slice (some ⟨b, 0, none⟩) 1 cap, .int .i64 0] 56)) (fun j => Mine g b j ∨ Sa j) g k [] := by
  subst hg
  refine ⟨ga, b, cap, 1, 0, fun _ => Nd.zero, [], ⟨k, [], []⟩, Sa, ⟨⟨Whole.new _ _ _, World.ownsRow.alloc hrow _⟩, ⟨.nil, ⟨⟨rfl, trivial, rfl, rfl, by simp, by simp⟩, 0, rfl, rfl⟩⟩, List.Pairwise.nil, har.keep (R := fun _ => False) ((Keep.refl _ _).alloc _) (fun _ _ h => h), rfl, by simp, rfl, fun h => ?_, hb, fun _ => Iff.rfl⟩, rfl, rfl⟩
  have := har.lt h
  omega

set_option maxHeartbeats 1000000 in
set_option maxRecDepth 100000 in
theorem tnew_any (n : Int) (w : World) : Calls Try.prog 6 #[.int .i64 n] w fun e w' => ∃ g S, e = .returned (.pointer (some ⟨g, 0, none⟩)) ∧ TreeAt w' S g (capN n) [] ∧ (∀ k, S k → w.heap.size ≤ k) ∧ Keep (fun _ => False) w w' := by
  have hmk := Try.mkNode
  go_enter Try.func6, Try.ntmps6
  go_wp2
  go_cut [2] (fun s2 wx => ∃ g S, s2 = .pointer (some ⟨g, 0, none⟩) ∧ TreeAt wx S g (capN n) [] ∧ (∀ k, S k → w.heap.size ≤ k) ∧ Keep (fun _ => False) w wx)
  case first =>
    refine wp_region_sch2 (fun _ => True) (.yes 0 (.two 1 (.one 2 (.yes 3 (.one 4 (.yes 5 .nil)))) 2 (.one 1 (.yes 3 (.one 4 (.yes 5 .nil)))))) (by kernel_rfl) (by kernel_rfl) (by kernel_rfl) (by kernel_rfl) trivial ?_
    (repeat (refine wpSch2_yes (v := ?_) rfl (fun _ _ _ h => h) (by rfl) ?_ ?_; rotate_left; (next => (intro w hSw; clear hSw; go_simp; (try with_reducible rfl))); (try simp only [Act.put, List.setIfInBounds_toArray, List.set_cons_zero, List.set_cons_succ])))
    refine wpSch2_two ?_ ?_
    · skip
      refine wpOne_call rfl (by rfl) (fun K hK => ?_); go_simp
      refine (anew_any n w.drew).mono ?_
      rintro e w2 ⟨rfl, h2, k2⟩
      have H2 := Lib.hid h2; have K2 := Lib.hid k2; clear h2 k2
      refine hK.out _ _ trivial (fun _ => ?_)
      clear hK K
      (try simp only [Act.put, List.setIfInBounds_toArray, List.set_cons_zero, List.set_cons_succ])
      refine wpSch2_one ?_
      refine wpOne_call rfl (by rfl) (fun K hK => ?_); go_simp
      refine hK.out _ _ trivial (fun _ => ?_)
      clear hK K
      (try simp only [Act.put, List.setIfInBounds_toArray, List.set_cons_zero, List.set_cons_succ])
      (repeat (refine wpSch2_yes (v := ?_) rfl (fun _ _ _ h => h) (by rfl) ?_ ?_; rotate_left; (next => (intro w hSw; clear hSw; go_simp; (try with_reducible rfl))); (try simp only [Act.put, List.setIfInBounds_toArray, List.set_cons_zero, List.set_cons_succ])))
      refine wpSch2_one ?_
      refine wpOne_call rfl (by rfl) (fun K hK => ?_); go_simp
      refine hK.out _ _ trivial (fun _ => ?_)
      clear hK K
      (try simp only [Act.put, List.setIfInBounds_toArray, List.set_cons_zero, List.set_cons_succ])
      (repeat (refine wpSch2_yes (v := ?_) rfl (fun _ _ _ h => h) (by rfl) ?_ ?_; rotate_left; (next => (intro w hSw; clear hSw; go_simp; (try with_reducible rfl))); (try simp only [Act.put, List.setIfInBounds_toArray, List.set_cons_zero, List.set_cons_succ])))
      refine wpSch2_nil ?_
      go_wp2
      go_meet
      refine ⟨_, _, rfl, new_tree _ (by simp) (H2.out.keep ((Keep.refl (fun _ => False) _).alloc _) (fun _ _ h => h)) (row_one _) (fun h => by have := H2.out.lt h; omega), fun k hk => ?_, ((Keep.refl (fun _ => False) w).drew.trans K2.out).alloc _ |>.alloc _⟩
      have hs := K2.out.size
      (try simp only [World.size_alloc] at hk)
      rcases hk with (e | e) | e
      · have : w.heap.size ≤ w2.heap.size := hs
        omega
      · have : w.heap.size ≤ w2.heap.size := hs
        omega
      · have : k = w.heap.size := e
        omega
    · skip
      refine wpOne_call rfl (by rfl) (fun K hK => ?_); go_simp
      refine hK.out _ _ trivial (fun _ => ?_)
      clear hK K
      (try simp only [Act.put, List.setIfInBounds_toArray, List.set_cons_zero, List.set_cons_succ])
      refine wpSch2_one ?_
      refine wpOne_call rfl (by rfl) (fun K hK => ?_); go_simp
      refine (anew_any n _).mono ?_
      rintro e w2 ⟨rfl, h2, k2⟩
      have hz : (w.alloc (.cells #[.int .u64 0, .int .u64 0, .int .i64 0, .int .i64 0, .int .i64 0, .bool false] 63)).drew.heap.size = w.heap.size + 1 := World.size_alloc _ _
      rw [hz] at h2
      have hsz := k2.size
      rw [hz] at hsz
      have H2 := Lib.hid h2; have K2 := Lib.hid k2; clear h2 k2
      refine hK.out _ _ trivial (fun _ => ?_)
      clear hK K
      (try simp only [Act.put, List.setIfInBounds_toArray, List.set_cons_zero, List.set_cons_succ])
      (repeat (refine wpSch2_yes (v := ?_) rfl (fun _ _ _ h => h) (by rfl) ?_ ?_; rotate_left; (next => (intro w hSw; clear hSw; go_simp; (try with_reducible rfl))); (try simp only [Act.put, List.setIfInBounds_toArray, List.set_cons_zero, List.set_cons_succ])))
      refine wpSch2_one ?_
      refine wpOne_call rfl (by rfl) (fun K hK => ?_); go_simp
      refine hK.out _ _ trivial (fun _ => ?_)
      clear hK K
      (try simp only [Act.put, List.setIfInBounds_toArray, List.set_cons_zero, List.set_cons_succ])
      (repeat (refine wpSch2_yes (v := ?_) rfl (fun _ _ _ h => h) (by rfl) ?_ ?_; rotate_left; (next => (intro w hSw; clear hSw; go_simp; (try with_reducible rfl))); (try simp only [Act.put, List.setIfInBounds_toArray, List.set_cons_zero, List.set_cons_succ])))
      refine wpSch2_nil ?_
      go_wp2
      go_meet
      refine ⟨_, _, rfl, new_tree _ (by simp) H2.out (World.ownsRow.kept (row_one w) (World.grownBy.of_keep ((Keep.refl (fun _ => False) _).drew.trans K2.out)) (by simp [Value.ownBlock])) (fun h => ?_), fun k hk => ?_, (((Keep.refl (fun _ => False) w).alloc _).drew.trans K2.out).alloc _⟩
      · have h' : w.heap.size = w.heap.size + 1 := h
        omega
      · rcases hk with (e | e) | e
        · omega
        · have : k = w.heap.size := e
          omega
        · have : k = w.heap.size + 1 := e
          omega
  case rest =>
    obtain ⟨g, S, rfl, h2, h3, h4⟩ := hcut
    have H2 := Lib.hid h2; have H3 := Lib.hid h3; have H4 := Lib.hid h4; clear h2 h3 h4
    go_wp2
    go_ret
    exact ⟨g, S, rfl, H2.out, H3.out, H4.out⟩
end
end Go.Proofs.Ytfbbmpmgceghfaa
