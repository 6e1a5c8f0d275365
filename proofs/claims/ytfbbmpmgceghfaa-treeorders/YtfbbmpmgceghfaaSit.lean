/-
  A tree of a call's own, and what was there before it. Conditions: none.
-/
import Derived.Test.YtfbbmpmgceghfaaAwakeT
namespace Go.Proofs.Ytfbbmpmgceghfaa
open Go.RowKit
set_option maxRecDepth 100000
set_option linter.unusedSimpArgs false

/-- The tree at g is of blocks that are new behind wB; what was there at wB is as it was. -/
structure Sit (wB w : World) (S : Nat → Prop) (g N : Nat) (ks : List Key) : Prop where
  tree : TreeAt w S g N ks
  mine : ∀ k, S k → wB.heap.size ≤ k
  bel : Below wB.heap.size wB w
section
variable {wB w w' : World} {S S' : Nat → Prop} {g N : Nat} {ks ks' : List Key}
theorem Sit.step (h : Sit wB w S g N ks) (ht : TreeAt w' S' g N ks') (hs : Step S S' w w') : Sit wB w' S' g N ks' := ⟨ht, hs.mine h.mine h.bel.size, h.bel.trans (hs.below h.mine h.bel.size)⟩
theorem Sit.kept (h : Sit wB w S g N ks) (hk : Keep (fun _ => False) w w') : Sit wB w' S g N ks := ⟨h.tree.kept hk, h.mine, h.bel.trans (hk.below h.bel.size (fun _ h => h.elim))⟩
theorem Sit.alloc (h : Sit wB w S g N ks) (o : Obj) : Sit wB (w.alloc o) S g N ks := h.kept ((Keep.refl _ _).alloc o)
theorem Sit.drewN (h : Sit wB w S g N ks) (k : Nat) : Sit wB (w.drewN k) S g N ks := h.kept ((Keep.refl _ _).drewN k)
theorem Sit.cell (h : Sit wB w S g N ks) {p : Addr} (hp : p.block < wB.heap.size) : w.cell? p = wB.cell? p := h.bel.cell hp
theorem Sit.whole {b : Nat} {t : TypeId} {cs : Array Value} (h : Sit wB w S g N ks) (hw : Whole wB b t cs) : Whole w b t cs := (h.bel.block b hw.lt).trans hw
theorem Sit.new {n : Int} {N : Nat} (e : capN n = N) (w : World) : Calls Try.prog 6 #[.int .i64 n] w fun e w' => ∃ g S, e = .returned (.pointer (some ⟨g, 0, none⟩)) ∧ Sit w w' S g N [] ∧ Keep (fun _ => False) w w' :=
  (tnew_is e w).mono fun _ _ ⟨g, S, he, ht, hs, hk⟩ => ⟨g, S, he, ⟨ht, hs, hk.below (Nat.le_refl _) (fun _ h => h.elim)⟩, hk⟩
theorem Sit.ins (h : Sit wB w S g N ks) {k : Key} {c : Int} (e : insE N ks k = c ∧ insS N ks k = ks') :
    Calls Try.prog 8 #[.pointer (some ⟨g, 0, none⟩), kv k] w fun e w' => e = .returned (.int .i64 c) ∧ ∃ S', Sit wB w' S' g N ks' ∧ Step S S' w w' :=
  (insert_is e w h.tree).mono fun _ _ ⟨he, S', ht, hs⟩ => ⟨he, S', h.step ht hs, hs⟩
theorem Sit.del (h : Sit wB w S g N ks) {k : Key} {c : Int} (e : delE ks k = c ∧ delS ks k = ks') :
    Calls Try.prog 17 #[.pointer (some ⟨g, 0, none⟩), kv k] w fun e w' => e = .returned (.int .i64 c) ∧ ∃ S', Sit wB w' S' g N ks' ∧ Step S S' w w' :=
  (delete_is e w h.tree).mono fun _ _ ⟨he, S', ht, hs⟩ => ⟨he, S', h.step ht hs, hs⟩
theorem Sit.min (h : Sit wB w S g N ks) {k : Key} {c : Bool} (e : hdK ks = k ∧ hdB ks = c) :
    Calls Try.prog 12 #[.pointer (some ⟨g, 0, none⟩)] w fun e w' => e = .returned (.tuple #[kv k, .bool c]) ∧ Sit wB w' S g N ks ∧ Keep (fun _ => False) w w' := by
  have := tmin_any w h.tree
  rw [e.1, e.2] at this
  exact this.mono fun _ _ ⟨he, hk⟩ => ⟨he, h.kept hk, hk⟩
theorem Sit.next (h : Sit wB w S g N ks) {x k : Key} {c : Bool} (e : hdK (above ks x) = k ∧ hdB (above ks x) = c) :
    Calls Try.prog 14 #[.pointer (some ⟨g, 0, none⟩), kv x] w fun e w' => e = .returned (.tuple #[kv k, .bool c]) ∧ Sit wB w' S g N ks ∧ Keep (fun _ => False) w w' := by
  have := tnext_any x w h.tree
  rw [e.1, e.2] at this
  exact this.mono fun _ _ ⟨he, hk⟩ => ⟨he, h.kept hk, hk⟩
theorem Sit.has (h : Sit wB w S g N ks) {x : Key} {c : Bool} (e : decide (x ∈ ks) = c) :
    Calls Try.prog 18 #[.pointer (some ⟨g, 0, none⟩), kv x] w fun e w' => e = .returned (.bool c) ∧ Sit wB w' S g N ks ∧ Keep (fun _ => False) w w' := by
  subst e
  exact (thas_any x w h.tree).mono fun _ _ ⟨he, hk⟩ => ⟨he, h.kept hk, hk⟩
theorem Sit.len (h : Sit wB w S g N ks) {n : Nat} (e : ks.length = n) :
    Calls Try.prog 15 #[.pointer (some ⟨g, 0, none⟩)] w fun e w' => e = .returned (.int .i64 (n : Int)) ∧ Sit wB w' S g N ks ∧ Keep (fun _ => False) w w' := by
  subst e
  refine (tlen_any w h.tree).mono fun _ _ ⟨he, k, hk⟩ => ⟨he, ?_, ?_⟩
  · rw [hk]; exact h.drewN k
  · rw [hk]; exact (Keep.refl _ _).drewN k
theorem Sit.low (h : Sit wB w S g N ks) :
    Calls Try.prog 16 #[.pointer (some ⟨g, 0, none⟩)] w fun e w' => e = .returned (.bool true) ∧ Sit wB w' S g N ks ∧ Keep (fun _ => False) w w' :=
  (low_any w h.tree).mono fun _ _ ⟨he, hk⟩ => ⟨he, h.kept hk, hk⟩
theorem Sit.awake (h : Sit wB w S g N ks) : Calls Try.prog 7 #[] w fun e w' => e = .returned (.bool true) ∧ Sit wB w' S g N ks ∧ Keep (fun _ => False) w w' :=
  (awaket_any w).mono fun _ _ ⟨he, hk⟩ => ⟨he, h.kept hk, hk⟩
theorem Sit.tall (h : Sit wB w S g N ks) : Calls Try.prog 11 #[.pointer (some ⟨g, 0, none⟩)] w fun e w' => ∃ Bg, e = .returned (.func (.func 30) #[] #[.pointer (some ⟨Bg, 0, none⟩)]) ∧ Sit wB w' S g N ks ∧ Boxed w' Bg 23 (.pointer (some ⟨g, 0, none⟩)) ∧ Keep (fun _ => False) w w' :=
  (tall_any _ w).mono fun _ _ ⟨he, hw⟩ => ⟨_, he, by rw [hw]; exact h.alloc _, by rw [hw]; exact Boxed.new _ _ _, by rw [hw]; exact (Keep.refl _ _).alloc _⟩
theorem Sit.hall (h : Sit wB w S g N ks) {Bg : Nat} (hB : Boxed w Bg 23 (.pointer (some ⟨g, 0, none⟩))) {m : Int} {told : List Key} {n : Nat} (e : ks.take (max 1 m.toNat) = told ∧ told.length = n) :
    Calls Try.prog 10 #[.func (.func 30) #[] #[.pointer (some ⟨Bg, 0, none⟩)], .int .i64 m] w fun e w' =>
      ∃ a c, e = .returned (.slice a n c) ∧ RdK w' a told ∧ (∀ b off, a = some ⟨b, off, none⟩ → w.heap.size ≤ b) ∧ Sit wB w' S g N ks ∧ Keep (fun _ => False) w w' := by
  have := hallk_any Bg m w h.tree hB
  rw [e.1, e.2] at this
  exact this.mono fun _ _ ⟨a, c, he, hr, hb, hk⟩ => ⟨a, c, he, hr, hb, h.kept hk, hk⟩
end
end Go.Proofs.Ytfbbmpmgceghfaa
