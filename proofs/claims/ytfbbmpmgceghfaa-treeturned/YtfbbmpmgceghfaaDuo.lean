/-
  Two trees of a call's own, side by side. Conditions: none.
-/
import Derived.Test.YtfbbmpmgceghfaaMany
namespace Go.Proofs.Ytfbbmpmgceghfaa
open Go.RowKit
set_option maxRecDepth 100000
set_option linter.unusedSimpArgs false
set_option linter.unusedVariables false

structure Duo (wB w : World) (gx N : Nat) (kx : List Key) (gy : Nat) (ky : List Key) : Prop where
  duo : ∃ Sx Sy, Sit wB w Sx gx N kx ∧ Sit wB w Sy gy N ky ∧ ∀ k, Sx k → ¬ Sy k
section
variable {wB w w' : World} {gx N : Nat} {kx : List Key} {gy : Nat} {ky : List Key} {ks' : List Key} {k : Key} {c : Int}
theorem Duo.bel (h : Duo wB w gx N kx gy ky) : Below wB.heap.size wB w := by obtain ⟨Sx, Sy, h1, _⟩ := h.duo; exact h1.bel
theorem Duo.sorted (h : Duo wB w gx N kx gy ky) : kx.Pairwise KLt ∧ ky.Pairwise KLt := by obtain ⟨Sx, Sy, h1, h2, _⟩ := h.duo; exact ⟨h1.tree.sorted, h2.tree.sorted⟩
theorem Duo.swap (h : Duo wB w gx N kx gy ky) : Duo wB w gy N ky gx kx := by obtain ⟨Sx, Sy, h1, h2, h3⟩ := h.duo; exact ⟨Sy, Sx, h2, h1, fun k hy hx => h3 k hx hy⟩
theorem Duo.kept (h : Duo wB w gx N kx gy ky) (hk : Keep (fun _ => False) w w') : Duo wB w' gx N kx gy ky := by obtain ⟨Sx, Sy, h1, h2, h3⟩ := h.duo; exact ⟨Sx, Sy, h1.kept hk, h2.kept hk, h3⟩
theorem Duo.stepX {Sx Sx' Sy : Nat → Prop} (hy : Sit wB w Sy gy N ky) (hx : Sit wB w Sx gx N kx) (hd : ∀ k, Sx k → ¬ Sy k) (hx' : Sit wB w' Sx' gx N ks') (hs : Step Sx Sx' w w') : Duo wB w' gx N ks' gy ky :=
  ⟨Sx', Sy, hx', ⟨hy.tree.keep hs.1 (fun k hk h => hd k h hk), hy.mine, hx'.bel⟩, fun k hk hk' => hs.apart (R := Sy) (fun k hk => hy.tree.lt hk) (fun k hk h => hd k h hk) k hk' hk⟩
theorem Duo.ins (h : Duo wB w gx N kx gy ky) (k : Key) : Calls Try.prog 8 #[.pointer (some ⟨gx, 0, none⟩), kv k] w fun e w' => (∃ c, e = .returned (.int .i64 c)) ∧ Duo wB w' gx N (insS N kx k) gy ky := by
  obtain ⟨Sx, Sy, h1, h2, h3⟩ := h.duo
  exact (h1.ins (k := k) ⟨rfl, rfl⟩).mono fun _ _ ⟨he, S', h4, h5⟩ => ⟨⟨_, he⟩, Duo.stepX h2 h1 h3 h4 h5⟩
theorem Duo.del (h : Duo wB w gx N kx gy ky) (k : Key) : Calls Try.prog 17 #[.pointer (some ⟨gx, 0, none⟩), kv k] w fun e w' => (∃ c, e = .returned (.int .i64 c)) ∧ Duo wB w' gx N (delS kx k) gy ky := by
  obtain ⟨Sx, Sy, h1, h2, h3⟩ := h.duo
  exact (h1.del (k := k) ⟨rfl, rfl⟩).mono fun _ _ ⟨he, S', h4, h5⟩ => ⟨⟨_, he⟩, Duo.stepX h2 h1 h3 h4 h5⟩
theorem Duo.has (h : Duo wB w gx N kx gy ky) {x : Key} {c : Bool} (e : decide (x ∈ kx) = c) : Calls Try.prog 18 #[.pointer (some ⟨gx, 0, none⟩), kv x] w fun e w' => e = .returned (.bool c) ∧ Duo wB w' gx N kx gy ky := by
  obtain ⟨Sx, Sy, h1, h2, h3⟩ := h.duo
  exact (h1.has e).mono fun _ _ ⟨he, _, hk⟩ => ⟨he, h.kept hk⟩
theorem Duo.len (h : Duo wB w gx N kx gy ky) {n : Nat} (e : kx.length = n) : Calls Try.prog 15 #[.pointer (some ⟨gx, 0, none⟩)] w fun e w' => e = .returned (.int .i64 (n : Int)) ∧ Duo wB w' gx N kx gy ky := by
  obtain ⟨Sx, Sy, h1, h2, h3⟩ := h.duo
  exact (h1.len e).mono fun _ _ ⟨he, _, hk⟩ => ⟨he, h.kept hk⟩
theorem Duo.low (h : Duo wB w gx N kx gy ky) : Calls Try.prog 16 #[.pointer (some ⟨gx, 0, none⟩)] w fun e w' => e = .returned (.bool true) ∧ Duo wB w' gx N kx gy ky := by
  obtain ⟨Sx, Sy, h1, h2, h3⟩ := h.duo
  exact h1.low.mono fun _ _ ⟨he, _, hk⟩ => ⟨he, h.kept hk⟩
theorem Duo.tall (h : Duo wB w gx N kx gy ky) : Calls Try.prog 11 #[.pointer (some ⟨gx, 0, none⟩)] w fun e w' => ∃ Bg, e = .returned (.func (.func 30) #[] #[.pointer (some ⟨Bg, 0, none⟩)]) ∧ Duo wB w' gx N kx gy ky ∧ Boxed w' Bg 23 (.pointer (some ⟨gx, 0, none⟩)) ∧ Keep (fun _ => False) w w' := by
  obtain ⟨Sx, Sy, h1, h2, h3⟩ := h.duo
  exact h1.tall.mono fun _ _ ⟨B, he, _, hb, hk⟩ => ⟨B, he, h.kept hk, hb, hk⟩
theorem Duo.hall (h : Duo wB w gx N kx gy ky) {Bg : Nat} (hB : Boxed w Bg 23 (.pointer (some ⟨gx, 0, none⟩))) {m : Int} {told : List Key} {n : Nat} (e : kx.take (max 1 m.toNat) = told ∧ told.length = n) :
    Calls Try.prog 10 #[.func (.func 30) #[] #[.pointer (some ⟨Bg, 0, none⟩)], .int .i64 m] w fun e w' => ∃ a c, e = .returned (.slice a n c) ∧ RdK w' a told ∧ Duo wB w' gx N kx gy ky ∧ Keep (fun _ => False) w w' := by
  obtain ⟨Sx, Sy, h1, h2, h3⟩ := h.duo
  exact (h1.hall hB e).mono fun _ _ ⟨a, c, he, hr, _, _, hk⟩ => ⟨a, c, he, hr, h.kept hk, hk⟩
theorem Duo.awake (h : Duo wB w gx N kx gy ky) : Calls Try.prog 7 #[] w fun e w' => e = .returned (.bool true) ∧ Duo wB w' gx N kx gy ky :=
  (awaket_any w).mono fun _ _ ⟨he, hk⟩ => ⟨he, h.kept hk⟩
theorem Duo.new {Sx : Nat → Prop} (h : Sit wB w Sx gx N []) {n : Int} (e : capN n = N) : Calls Try.prog 6 #[.int .i64 n] w fun e w' => ∃ gy, e = .returned (.pointer (some ⟨gy, 0, none⟩)) ∧ Duo wB w' gx N [] gy [] :=
  (tnew_is e w).mono fun _ _ ⟨g, S, he, ht, hs, hk⟩ => ⟨g, he, Sx, S, h.kept hk, ⟨ht, fun k hk' => Nat.le_trans h.bel.size (hs k hk'), (h.kept hk).bel⟩, fun k hx hy => by have := h.tree.lt hx; have := hs k hy; omega⟩
end

/-! ### what is left -/
def Hit (zs : List Key) (bs : List Bool) (lo hi : Nat) (x : Key) : Prop := ∃ j, lo ≤ j ∧ j < hi ∧ bs[j]? = some true ∧ zs[j]? = some x
theorem Hit.hi {zs : List Key} {bs : List Bool} {lo hi : Nat} {x : Key} (h : lo ≤ hi) : Hit zs bs lo (hi + 1) x ↔ Hit zs bs lo hi x ∨ (bs[hi]? = some true ∧ zs[hi]? = some x) := by
  constructor
  · rintro ⟨j, h1, h2, h3⟩
    by_cases e : j = hi
    · subst e; exact .inr h3
    · exact .inl ⟨j, h1, by omega, h3⟩
  · rintro (⟨j, h1, h2, h3⟩ | h3)
    · exact ⟨j, h1, by omega, h3⟩
    · exact ⟨hi, h, by omega, h3⟩
theorem Hit.lo {zs : List Key} {bs : List Bool} {lo hi : Nat} {x : Key} (h : lo < hi) : Hit zs bs lo hi x ↔ Hit zs bs (lo + 1) hi x ∨ (bs[lo]? = some true ∧ zs[lo]? = some x) := by
  constructor
  · rintro ⟨j, h1, h2, h3⟩
    by_cases e : j = lo
    · subst e; exact .inr h3
    · exact .inl ⟨j, by omega, h2, h3⟩
  · rintro (⟨j, h1, h2, h3⟩ | h3)
    · exact ⟨j, by omega, h2, h3⟩
    · exact ⟨lo, by omega, h, h3⟩
theorem Hit.none {zs : List Key} {bs : List Bool} {lo hi : Nat} {x : Key} (h : hi ≤ lo) : ¬ Hit zs bs lo hi x := fun ⟨j, h1, h2, _⟩ => by omega
theorem Hit.past {zs : List Key} {bs : List Bool} {lo hi k : Nat} {x : Key} (h : k ≤ hi) (hk : bs.length ≤ k) : Hit zs bs lo hi x ↔ Hit zs bs lo k x :=
  ⟨fun ⟨j, h1, _, h3, h4⟩ => ⟨j, h1, by have := (List.getElem?_eq_some_iff.1 h3).1; omega, h3, h4⟩, fun ⟨j, h1, h2, h3⟩ => ⟨j, h1, by omega, h3⟩⟩
theorem mem_delS {ks : List Key} {k x : Key} : x ∈ delS ks k ↔ x ∈ ks ∧ x ≠ k := by unfold delS; simp
/-- What is in a tree of which those have gone. -/
def Left (zs : List Key) (bs : List Bool) (lo hi : Nat) (ks : List Key) : Prop := ∀ x, x ∈ ks ↔ x ∈ zs ∧ ¬ Hit zs bs lo hi x
theorem Left.hi {zs : List Key} {bs : List Bool} {lo hi : Nat} {ks : List Key} {a : Key} (h : Left zs bs lo hi ks) (hl : lo ≤ hi) (ha : zs[hi]? = some a) :
    (bs[hi]? = some true → Left zs bs lo (hi + 1) (delS ks a)) ∧ (bs[hi]? ≠ some true → Left zs bs lo (hi + 1) ks) := by
  refine ⟨fun hb x => ?_, fun hb x => ?_⟩
  · rw [mem_delS, h x, Hit.hi hl, ha, hb]
    constructor
    · rintro ⟨⟨h1, h2⟩, h3⟩; exact ⟨h1, fun h => h.elim h2 (fun h => h3 (by have := h.2; simp at this; exact this.symm))⟩
    · rintro ⟨h1, h2⟩; exact ⟨⟨h1, fun h => h2 (.inl h)⟩, fun h => h2 (.inr ⟨rfl, by rw [h]⟩)⟩
  · rw [h x, Hit.hi hl]
    exact ⟨fun ⟨h1, h2⟩ => ⟨h1, fun h => h.elim h2 (fun h => hb h.1)⟩, fun ⟨h1, h2⟩ => ⟨h1, fun h => h2 (.inl h)⟩⟩
theorem Left.lo {zs : List Key} {bs : List Bool} {lo hi : Nat} {ks : List Key} {a : Key} (h : Left zs bs (lo + 1) hi ks) (hl : lo < hi) (ha : zs[lo]? = some a) :
    (bs[lo]? = some true → Left zs bs lo hi (delS ks a)) ∧ (bs[lo]? ≠ some true → Left zs bs lo hi ks) := by
  refine ⟨fun hb x => ?_, fun hb x => ?_⟩
  · rw [mem_delS, h x, Hit.lo hl, ha, hb]
    constructor
    · rintro ⟨⟨h1, h2⟩, h3⟩; exact ⟨h1, fun h => h.elim h2 (fun h => h3 (by have := h.2; simp at this; exact this.symm))⟩
    · rintro ⟨h1, h2⟩; exact ⟨⟨h1, fun h => h2 (.inl h)⟩, fun h => h2 (.inr ⟨rfl, by rw [h]⟩)⟩
  · rw [h x, Hit.lo hl]
    exact ⟨fun ⟨h1, h2⟩ => ⟨h1, fun h => h.elim h2 (fun h => hb h.1)⟩, fun ⟨h1, h2⟩ => ⟨h1, fun h => h2 (.inl h)⟩⟩
theorem sorted_ext : ∀ {A B : List Key}, A.Pairwise KLt → B.Pairwise KLt → (∀ x, x ∈ A ↔ x ∈ B) → A = B
  | [], [], _, _, _ => rfl
  | [], b :: B, _, _, h => by have := (h b).2 (by simp); simp at this
  | a :: A, [], _, _, h => by have := (h a).1 (by simp); simp at this
  | a :: A, b :: B, ha, hb, h => by
    rw [List.pairwise_cons] at ha hb
    have e : a = b := by
      rcases KLt.tri a b with h1 | h1 | h1
      · have := (h a).1 (by simp)
        rcases List.mem_cons.1 this with e | e
        · exact e
        · exact absurd h1 (fun h1 => (hb.1 a e).asymm h1)
      · exact h1
      · have := (h b).2 (by simp)
        rcases List.mem_cons.1 this with e | e
        · exact e.symm
        · exact absurd h1 (fun h1 => (ha.1 b e).asymm h1)
    subst e
    congr 1
    refine sorted_ext ha.2 hb.2 fun x => ?_
    constructor
    · intro hx
      rcases List.mem_cons.1 ((h x).1 (by simp [hx])) with e | e
      · subst e; exact (ha.1 x hx).irr.elim
      · exact e
    · intro hx
      rcases List.mem_cons.1 ((h x).2 (by simp [hx])) with e | e
      · subst e; exact (hb.1 x hx).irr.elim
      · exact e
end Go.Proofs.Ytfbbmpmgceghfaa
