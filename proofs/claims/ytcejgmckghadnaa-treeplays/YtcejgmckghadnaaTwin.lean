/-
  A tree and the reference's keys beside it, and blocks apart from both: a call on the one leaves the other. Conditions: none.
-/
import Derived.Test.YtcejgmckghadnaaSit
import Derived.Test.YtcejgmckghadnaaRefPut
namespace Go.Proofs.Ytcejgmckghadnaa
open Go.RowKit
set_option linter.unusedSimpArgs false
set_option linter.unusedVariables false

/-- The tree's keys ks, the reference's ls; X: blocks known whole, apart from both. -/
structure Twin (wB w : World) (g gr : Nat) (n : Int) (ks ls : List Key) (X : List (Nat × TypeId × Array Value)) : Prop where
  twin : ∃ S a cap, Sit wB w S g (capN n) ks ∧ KeysAt w gr n a cap ls ∧ ¬ S gr ∧ wB.heap.size ≤ gr ∧ (∀ b off, a = some ⟨b, off, none⟩ → ¬ S b ∧ b < w.heap.size) ∧ ∀ b t cs, (b, t, cs) ∈ X → Whole w b t cs ∧ ¬ S b ∧ b ≠ gr
section
variable {wB w w' : World} {g gr : Nat} {n : Int} {ks ls ks' : List Key} {X Y : List (Nat × TypeId × Array Value)}
theorem Twin.bel (h : Twin wB w g gr n ks ls X) : Below wB.heap.size wB w := by obtain ⟨S, a, cap, h1, _⟩ := h.twin; exact h1.bel
theorem Twin.sorted (h : Twin wB w g gr n ks ls X) : ks.Pairwise KLt := by obtain ⟨S, a, cap, h1, _⟩ := h.twin; exact h1.tree.sorted
theorem Twin.keys (h : Twin wB w g gr n ks ls X) : ∃ a cap, KeysAt w gr n a cap ls := by obtain ⟨S, a, cap, h1, h2, _⟩ := h.twin; exact ⟨a, cap, h2⟩
theorem Twin.get (h : Twin wB w g gr n ks ls X) {b : Nat} {t : TypeId} {cs : Array Value} (hx : (b, t, cs) ∈ X) : Whole w b t cs := by obtain ⟨S, a, cap, _, _, _, _, _, h6⟩ := h.twin; exact (h6 b t cs hx).1
theorem Twin.less (h : Twin wB w g gr n ks ls X) (hx : ∀ x, x ∈ Y → x ∈ X) : Twin wB w g gr n ks ls Y := by obtain ⟨S, a, cap, h1, h2, h3, h4, h5, h6⟩ := h.twin; exact ⟨S, a, cap, h1, h2, h3, h4, h5, fun b t cs hb => h6 b t cs (hx _ hb)⟩
theorem Twin.bare (h : Twin wB w g gr n ks ls X) : Twin wB w g gr n ks ls [] := h.less (fun _ h => by cases h)
theorem Twin.kept (h : Twin wB w g gr n ks ls X) (hk : Keep (fun _ => False) w w') : Twin wB w' g gr n ks ls X := by
  obtain ⟨S, a, cap, h1, h2, h3, h4, h5, h6⟩ := h.twin
  exact ⟨S, a, cap, h1.kept hk, h2.kept hk, h3, h4, fun b off e => ⟨(h5 b off e).1, Nat.lt_of_lt_of_le (h5 b off e).2 hk.size⟩, fun b t cs hx => ⟨(h6 b t cs hx).1.keep hk id, (h6 b t cs hx).2⟩⟩
theorem Twin.drew (h : Twin wB w g gr n ks ls X) : Twin wB w.drew g gr n ks ls X := h.kept (Keep.refl _ _).drew
theorem Twin.add (h : Twin wB w g gr n ks ls X) (t : TypeId) (cs : Array Value) : Twin wB (w.alloc (.cells cs t)) g gr n ks ls ((w.heap.size, t, cs) :: X) := by
  obtain ⟨S, a, cap, h1, h2, h3, h4, h5, h6⟩ := (h.kept ((Keep.refl _ w).alloc (.cells cs t))).twin
  obtain ⟨S0, a0, cap0, g1, g2, g3, g4, g5, g6⟩ := h.twin
  have hk : Keep (fun _ => False) w (w.alloc (.cells cs t)) := (Keep.refl _ w).alloc _
  refine ⟨S0, a0, cap0, g1.kept hk, g2.kept hk, g3, g4, fun b off e => ⟨(g5 b off e).1, Nat.lt_of_lt_of_le (g5 b off e).2 hk.size⟩, fun b t' cs' hx => ?_⟩
  rcases List.mem_cons.1 hx with hx | hx
  · cases hx
    exact ⟨Whole.new w t cs, fun hs => by have := g1.tree.lt hs; omega, by have := g2.st.lt; omega⟩
  · exact ⟨(g6 b t' cs' hx).1.keep hk id, (g6 b t' cs' hx).2⟩
theorem Twin.left {S S' : Nat → Prop} {a : Option Addr} {cap : Nat} (h1 : Sit wB w S g (capN n) ks) (h2 : KeysAt w gr n a cap ls) (h3 : ¬ S gr) (h4 : wB.heap.size ≤ gr) (h5 : ∀ b off, a = some ⟨b, off, none⟩ → ¬ S b ∧ b < w.heap.size)
    (h6 : ∀ b t cs, (b, t, cs) ∈ X → Whole w b t cs ∧ ¬ S b ∧ b ≠ gr) (h7 : Sit wB w' S' g (capN n) ks') (hs : Step S S' w w') : Twin wB w' g gr n ks' ls X :=
  ⟨S', a, cap, h7, ⟨h2.st.keep hs.1 h3, h2.rd.keep hs.1 (fun b off e => (h5 b off e).1), h2.ne, h2.le, h2.no, h2.few, h2.at0, h2.big⟩, fun hg => (hs.2 gr hg).elim h3 (fun e => by have := h2.st.lt; omega), h4,
    fun b off e => ⟨fun hb => (hs.2 b hb).elim (h5 b off e).1 (fun q => by have := (h5 b off e).2; omega), Nat.lt_of_lt_of_le (h5 b off e).2 hs.1.size⟩,
    fun b t cs hx => ⟨(h6 b t cs hx).1.keep hs.1 (h6 b t cs hx).2.1, fun hb => (hs.2 b hb).elim (h6 b t cs hx).2.1 (fun q => by have := (h6 b t cs hx).1.lt; omega), (h6 b t cs hx).2.2⟩⟩
theorem Twin.right {S : Nat → Prop} {a : Option Addr} (h1 : Sit wB w S g (capN n) ks) (h3 : ¬ S gr) (h4 : wB.heap.size ≤ gr) (h5 : ∀ b off, a = some ⟨b, off, none⟩ → ¬ S b ∧ b < w.heap.size)
    (h6 : ∀ b t cs, (b, t, cs) ∈ X → Whole w b t cs ∧ ¬ S b ∧ b ≠ gr) (h7 : KeysTo w w' gr n a ks') : Twin wB w' g gr n ks ks' X := by
  obtain ⟨a', c', q1, q2, q3⟩ := h7
  refine ⟨S, a', c', ⟨h1.tree.keep q2 (fun k hk e => h3 (e ▸ hk)), h1.mine, h1.bel.trans (q2.below h1.bel.size (fun k e => by rw [e]; exact h4))⟩, q1, h3, h4, fun b off e => ?_, fun b t cs hx => ⟨(h6 b t cs hx).1.keep q2 (h6 b t cs hx).2.2, (h6 b t cs hx).2⟩⟩
  rcases q3 b off e with e' | ⟨p1, p2⟩
  · have := h5 b off (e' ▸ e)
    exact ⟨this.1, Nat.lt_of_lt_of_le this.2 q2.size⟩
  · exact ⟨fun hS => by have := h1.tree.lt hS; omega, p2⟩
theorem Twin.ins (h : Twin wB w g gr n ks ls X) (k : Key) : Calls Try.prog 13 #[.pointer (some ⟨g, 0, none⟩), kv k] w fun e w' => e = .returned (.int .i64 (insE (capN n) ks k)) ∧ Twin wB w' g gr n (insS (capN n) ks k) ls X := by
  obtain ⟨S, a, cap, h1, h2, h3, h4, h5, h6⟩ := h.twin
  exact (h1.ins (k := k) ⟨rfl, rfl⟩).mono fun _ _ ⟨he, S', h7, h8⟩ => ⟨he, Twin.left h1 h2 h3 h4 h5 h6 h7 h8⟩
theorem Twin.del (h : Twin wB w g gr n ks ls X) (k : Key) : Calls Try.prog 11 #[.pointer (some ⟨g, 0, none⟩), kv k] w fun e w' => e = .returned (.int .i64 (delE ks k)) ∧ Twin wB w' g gr n (delS ks k) ls X := by
  obtain ⟨S, a, cap, h1, h2, h3, h4, h5, h6⟩ := h.twin
  exact (h1.del (k := k) ⟨rfl, rfl⟩).mono fun _ _ ⟨he, S', h7, h8⟩ => ⟨he, Twin.left h1 h2 h3 h4 h5 h6 h7 h8⟩
theorem Twin.kins (h : Twin wB w g gr n ks ls X) (hs : ls.Pairwise KLt) (k : Key) : Calls Try.prog 14 #[.pointer (some ⟨gr, 0, none⟩), kv k] w fun e w' => e = .returned (.int .i64 (insE (capN n) ls k)) ∧ Twin wB w' g gr n ks (insS (capN n) ls k) X := by
  obtain ⟨S, a, cap, h1, h2, h3, h4, h5, h6⟩ := h.twin
  exact (kins_any gr n a cap ls k w h2 hs).mono fun _ _ ⟨he, h7⟩ => ⟨he, Twin.right h1 h3 h4 h5 h6 h7⟩
theorem Twin.kdel (h : Twin wB w g gr n ks ls X) (hs : ls.Pairwise KLt) (k : Key) : Calls Try.prog 12 #[.pointer (some ⟨gr, 0, none⟩), kv k] w fun e w' => e = .returned (.int .i64 (delE ls k)) ∧ Twin wB w' g gr n ks (delS ls k) X := by
  obtain ⟨S, a, cap, h1, h2, h3, h4, h5, h6⟩ := h.twin
  exact (kdel_any gr n a cap ls k w h2 hs).mono fun _ _ ⟨he, h7⟩ => ⟨he, Twin.right h1 h3 h4 h5 h6 h7⟩
theorem Twin.min (h : Twin wB w g gr n ks ls X) : Calls Try.prog 15 #[.pointer (some ⟨g, 0, none⟩)] w fun e w' => e = .returned (.tuple #[kv (hdK ks), .bool (hdB ks)]) ∧ Twin wB w' g gr n ks ls X ∧ Keep (fun _ => False) w w' := by
  obtain ⟨S, a, cap, h1, _⟩ := h.twin
  exact (h1.min ⟨rfl, rfl⟩).mono fun _ _ ⟨he, _, hk⟩ => ⟨he, h.kept hk, hk⟩
theorem Twin.kmin (h : Twin wB w g gr n ks ls X) : Calls Try.prog 16 #[.pointer (some ⟨gr, 0, none⟩)] w fun e w' => e = .returned (.tuple #[kv (hdK ls), .bool (hdB ls)]) ∧ Twin wB w' g gr n ks ls X ∧ Keep (fun _ => False) w w' := by
  obtain ⟨a, cap, h2⟩ := h.keys
  exact (kmin_any gr n a cap ls w h2).mono fun _ _ ⟨he, hk⟩ => ⟨he, h.kept hk, hk⟩
theorem Twin.next (h : Twin wB w g gr n ks ls X) (x : Key) : Calls Try.prog 21 #[.pointer (some ⟨g, 0, none⟩), kv x] w fun e w' => e = .returned (.tuple #[kv (hdK (above ks x)), .bool (hdB (above ks x))]) ∧ Twin wB w' g gr n ks ls X ∧ Keep (fun _ => False) w w' := by
  obtain ⟨S, a, cap, h1, _⟩ := h.twin
  exact (h1.next (x := x) ⟨rfl, rfl⟩).mono fun _ _ ⟨he, _, hk⟩ => ⟨he, h.kept hk, hk⟩
theorem Twin.knext (h : Twin wB w g gr n ks ls X) (x : Key) : Calls Try.prog 22 #[.pointer (some ⟨gr, 0, none⟩), kv x] w fun e w' => e = .returned (.tuple #[kv (hdK (above ls x)), .bool (hdB (above ls x))]) ∧ Twin wB w' g gr n ks ls X ∧ Keep (fun _ => False) w w' := by
  obtain ⟨a, cap, h2⟩ := h.keys
  exact (knext_any gr n a cap ls x w h2).mono fun _ _ ⟨he, hk⟩ => ⟨he, h.kept hk, hk⟩
theorem Twin.has (h : Twin wB w g gr n ks ls X) (x : Key) : Calls Try.prog 19 #[.pointer (some ⟨g, 0, none⟩), kv x] w fun e w' => e = .returned (.bool (decide (x ∈ ks))) ∧ Twin wB w' g gr n ks ls X ∧ Keep (fun _ => False) w w' := by
  obtain ⟨S, a, cap, h1, _⟩ := h.twin
  exact (h1.has (x := x) rfl).mono fun _ _ ⟨he, _, hk⟩ => ⟨he, h.kept hk, hk⟩
theorem Twin.khas (h : Twin wB w g gr n ks ls X) (x : Key) : Calls Try.prog 20 #[.pointer (some ⟨gr, 0, none⟩), kv x] w fun e w' => e = .returned (.bool (decide (x ∈ ls))) ∧ Twin wB w' g gr n ks ls X ∧ Keep (fun _ => False) w w' := by
  obtain ⟨a, cap, h2⟩ := h.keys
  exact (khas_any gr n a cap ls x w h2).mono fun _ _ ⟨he, hk⟩ => ⟨he, h.kept hk, hk⟩
theorem Twin.len (h : Twin wB w g gr n ks ls X) : Calls Try.prog 17 #[.pointer (some ⟨g, 0, none⟩)] w fun e w' => e = .returned (.int .i64 (ks.length : Int)) ∧ Twin wB w' g gr n ks ls X ∧ Keep (fun _ => False) w w' := by
  obtain ⟨S, a, cap, h1, _⟩ := h.twin
  exact (h1.len rfl).mono fun _ _ ⟨he, _, hk⟩ => ⟨he, h.kept hk, hk⟩
theorem Twin.low (h : Twin wB w g gr n ks ls X) : Calls Try.prog 18 #[.pointer (some ⟨g, 0, none⟩)] w fun e w' => e = .returned (.bool true) ∧ Twin wB w' g gr n ks ls X ∧ Keep (fun _ => False) w w' := by
  obtain ⟨S, a, cap, h1, _⟩ := h.twin
  exact h1.low.mono fun _ _ ⟨he, _, hk⟩ => ⟨he, h.kept hk, hk⟩
theorem Twin.awake (h : Twin wB w g gr n ks ls X) : Calls Try.prog 10 #[] w fun e w' => e = .returned (.bool true) ∧ Twin wB w' g gr n ks ls X ∧ Keep (fun _ => False) w w' :=
  (awaket_any w).mono fun _ _ ⟨he, hk⟩ => ⟨he, h.kept hk, hk⟩
theorem Twin.tall (h : Twin wB w g gr n ks ls X) : Calls Try.prog 25 #[.pointer (some ⟨g, 0, none⟩)] w fun e w' => ∃ Bg, e = .returned (.func (.func 44) #[] #[.pointer (some ⟨Bg, 0, none⟩)]) ∧ Twin wB w' g gr n ks ls X ∧ Boxed w' Bg 26 (.pointer (some ⟨g, 0, none⟩)) ∧ Keep (fun _ => False) w w' := by
  obtain ⟨S, a, cap, h1, _⟩ := h.twin
  exact h1.tall.mono fun _ _ ⟨B, he, _, hb, hk⟩ => ⟨B, he, h.kept hk, hb, hk⟩
theorem Twin.hall (h : Twin wB w g gr n ks ls X) {Bg : Nat} (hB : Boxed w Bg 26 (.pointer (some ⟨g, 0, none⟩))) {m : Int} {told : List Key} {k : Nat} (e : ks.take (max 1 m.toNat) = told ∧ told.length = k) :
    Calls Try.prog 24 #[.func (.func 44) #[] #[.pointer (some ⟨Bg, 0, none⟩)], .int .i64 m] w fun e w' => ∃ a c, e = .returned (.slice a k c) ∧ RdK w' a told ∧ Twin wB w' g gr n ks ls X ∧ Keep (fun _ => False) w w' := by
  obtain ⟨S, a, cap, h1, _⟩ := h.twin
  exact (h1.hall hB e).mono fun _ _ ⟨a, c, he, hr, _, _, hk⟩ => ⟨a, c, he, hr, h.kept hk, hk⟩
/-- A new tree, then the struct of the reference beside it. -/
theorem Twin.new {S : Nat → Prop} (h : Sit wB w S g (capN n) []) : Twin wB (w.alloc (.cells #[.int .i64 n, .slice none 0 0] 31)) g w.heap.size n [] [] [] :=
  ⟨S, none, 0, h.alloc _, ⟨Whole.new _ _ _, fun i k hi => (by simp at hi), fun b off e => (by cases e), Nat.le_refl _, fun _ => rfl, Nat.zero_le _, fun ad e => (by cases e), Nat.zero_le _⟩, fun hS => by have := h.tree.lt hS; omega, h.bel.size, fun b off e => (by cases e), fun b t cs hx => (by cases hx)⟩
end
end Go.Proofs.Ytcejgmckghadnaa
