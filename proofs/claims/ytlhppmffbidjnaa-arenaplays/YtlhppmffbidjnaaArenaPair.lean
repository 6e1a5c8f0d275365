/-
  An arena and the reference's beside it: a call on the one leaves the other. Conditions: each lies in memory as it is made.
-/
import Derived.Test.YtlhppmffbidjnaaAwakeA
import Derived.Test.YtlhppmffbidjnaaRefArena
namespace Go.Proofs.Ytlhppmffbidjnaa
open Go.RowKit

/-- The arena s at ga, the reference's t at gr, apart from each other, all at B or beyond. -/
def Pair (B ga gr : Nat) (w : World) (s t : St) : Prop :=
  ∃ S R, ArenaAt 45 w S ga s ∧ ArenaAt 47 w R gr t ∧ (∀ j, R j → ¬ S j) ∧ (∀ j, S j → B ≤ j) ∧ (∀ j, R j → B ≤ j)

section
variable {B ga gr : Nat} {w w' : World} {s t s' : St}
theorem Pair.base (h : Pair B ga gr w s t) : B ≤ w.heap.size := by
  obtain ⟨S, R, h1, h2, h3, h4, h5⟩ := h
  have hg : S ga := by obtain ⟨_, _, _, _, hS⟩ := h1; exact (hS ga).2 (.inl rfl)
  exact Nat.le_trans (h4 ga hg) (Nat.le_of_lt (h1.lt hg))
theorem Pair.keep (h : Pair B ga gr w s t) (hk : Keep (fun _ => False) w w') : Pair B ga gr w' s t ∧ Below B w w' := by
  have hb := hk.below h.base (fun _ h => h.elim)
  obtain ⟨S, R, h1, h2, h3, h4, h5⟩ := h
  exact ⟨⟨S, R, h1.keep hk (fun _ _ h => h), h2.keep hk (fun _ _ h => h), h3, h4, h5⟩, hb⟩
theorem Pair.drew (h : Pair B ga gr w s t) : Pair B ga gr w.drew s t := h
theorem Pair.ok (h : Pair B ga gr w s t) : s.ok := by obtain ⟨_, _, h, _⟩ := h; exact h.ok

theorem Pair.left (h : Pair B ga gr w s t) : ∃ S, ArenaAt 45 w S ga s ∧ ∀ w' S' s', ArenaAt 45 w' S' ga s' → Step S S' w w' → Pair B ga gr w' s' t ∧ Below B w w' := by
  have hb := h.base
  obtain ⟨S, R, h1, h2, h3, h4, h5⟩ := h
  exact ⟨S, h1, fun w' S' s' h' st => ⟨⟨S', R, h', h2.keep st.1 h3, st.apart (fun j hj => h2.lt hj) h3, st.mine h4 hb, h5⟩, st.below h4 hb⟩⟩
theorem Pair.right (h : Pair B ga gr w s t) : ∃ R, ArenaAt 47 w R gr t ∧ ∀ w' R' t', ArenaAt 47 w' R' gr t' → Step R R' w w' → Pair B ga gr w' s t' ∧ Below B w w' := by
  have hb := h.base
  obtain ⟨S, R, h1, h2, h3, h4, h5⟩ := h
  exact ⟨R, h2, fun w' R' t' h' st => ⟨⟨S, R', h1.keep st.1 (fun j hs hr => h3 j hr hs), h', fun j hr hs => st.apart (R := S) (fun j hj => h1.lt hj) (fun j hs hr => h3 j hr hs) j hs hr, h4, st.mine h5 hb⟩, st.below h5 hb⟩⟩

theorem pget (h : Pair B ga gr w s t) : Calls Try.prog 10 #[.pointer (some ⟨ga, 0, none⟩)] w fun e w' => e = .returned (.tuple #[.int .i64 s.getV, .int .i64 s.getE]) ∧ Pair B ga gr w' s.getS t ∧ Below B w w' := by
  obtain ⟨S, h1, h2⟩ := h.left
  refine (get_any S ga s w h1).mono ?_
  rintro e w' ⟨rfl, S', h3, h4⟩
  exact ⟨rfl, h2 w' S' _ h3 h4⟩
theorem prget (h : Pair B ga gr w s t) : Calls Try.prog 11 #[.pointer (some ⟨gr, 0, none⟩)] w fun e w' => e = .returned (.tuple #[.int .i64 t.getV, .int .i64 t.getE]) ∧ Pair B ga gr w' s t.getS ∧ Below B w w' := by
  obtain ⟨S, h1, h2⟩ := h.right
  refine (rget_any S gr t w h1).mono ?_
  rintro e w' ⟨rfl, S', h3, h4⟩
  exact ⟨rfl, h2 w' S' _ h3 h4⟩
theorem pfree (i : Int) (h : Pair B ga gr w s t) : Calls Try.prog 12 #[.pointer (some ⟨ga, 0, none⟩), .int .i64 i] w fun e w' => e = .returned (.int .i64 (s.freeE i)) ∧ Pair B ga gr w' (s.freeS i) t ∧ Below B w w' := by
  obtain ⟨S, h1, h2⟩ := h.left
  refine (free_any S ga s i w h1).mono ?_
  rintro e w' ⟨rfl, S', h3, h4⟩
  exact ⟨rfl, h2 w' S' _ h3 h4⟩
theorem prfree (i : Int) (h : Pair B ga gr w s t) : Calls Try.prog 13 #[.pointer (some ⟨gr, 0, none⟩), .int .i64 i] w fun e w' => e = .returned (.int .i64 (t.freeE i)) ∧ Pair B ga gr w' s (t.freeS i) ∧ Below B w w' := by
  obtain ⟨S, h1, h2⟩ := h.right
  refine (rfree_any S gr t i w h1).mono ?_
  rintro e w' ⟨rfl, S', h3, h4⟩
  exact ⟨rfl, h2 w' S' _ h3 h4⟩
theorem phas (i : Int) (h : Pair B ga gr w s t) : Calls Try.prog 14 #[.pointer (some ⟨ga, 0, none⟩), .int .i64 i] w fun e w' => e = .returned (.bool (s.has i)) ∧ w = w' := by
  obtain ⟨S, h1, _⟩ := h.left
  exact has_any S ga s i w h1
theorem prhas (i : Int) (h : Pair B ga gr w s t) : Calls Try.prog 15 #[.pointer (some ⟨gr, 0, none⟩), .int .i64 i] w fun e w' => e = .returned (.bool (t.has i)) ∧ w = w' := by
  obtain ⟨S, h1, _⟩ := h.right
  exact rhas_any S gr t i _ rfl w h1
theorem pused (h : Pair B ga gr w s t) : Calls Try.prog 16 #[.pointer (some ⟨ga, 0, none⟩)] w fun e w' => e = .returned (.int .i64 (s.out.count true : Nat)) ∧ Pair B ga gr w' s t ∧ Below B w w' := by
  obtain ⟨S, h1, _⟩ := h.left
  refine (used_any S ga s w h1).mono ?_
  rintro e w' ⟨rfl, n, rfl⟩
  exact ⟨rfl, h.keep ((Keep.refl _ _).drewN n)⟩
theorem len_allTo (bs : List Bool) (k : Nat) (hk : k ≤ bs.length) : (allTo bs k).length = (bs.take k).count true := by
  induction k with
  | zero => simp [allTo]
  | succ k ih =>
    have hlt : k < bs.length := by omega
    rw [List.take_succ_eq_append_getElem hlt, List.count_append, ← ih (by omega)]
    cases hb : bs[k]
    · rw [allTo_miss (by simp [hlt, hb])]; simp
    · rw [allTo_hit (by simp [hlt, hb])]; simp
theorem len_allOf (bs : List Bool) : (allOf bs).length = bs.count true := by
  have := len_allTo bs bs.length (Nat.le_refl _)
  rw [List.take_length] at this
  exact this
theorem prall (h : Pair B ga gr w s t) : Calls Try.prog 17 #[.pointer (some ⟨gr, 0, none⟩)] w fun e w' => ∃ a c, e = .returned (.slice a (t.out.count true) c) ∧ Rd .i64 w' a (nums (allOf t.out)) ∧ Keep (fun _ => False) w w' ∧ Pair B ga gr w' s t ∧ Below B w w' := by
  obtain ⟨S, h1, _⟩ := h.right
  refine (rall_any S gr t w h1).mono ?_
  rintro e w' ⟨v, rfl, ho, _, hk⟩
  obtain ⟨a, c, rfl, _⟩ := ho.shape
  exact ⟨a, c, by rw [len_ints, len_allOf], ho.rd, hk, h.keep hk⟩
theorem pall (h : Pair B ga gr w s t) : Calls Try.prog 20 #[.pointer (some ⟨ga, 0, none⟩)] w fun e w' => e = .returned (.func (.func 26) #[] #[.pointer (some ⟨w.heap.size, 0, none⟩)]) ∧ Tells w'.heap.size w' w.heap.size s.out ∧ Pair B ga gr w' s t ∧ Below B w w' := by
  obtain ⟨S, h1, _⟩ := h.left
  refine (all_any S ga s w h1).mono ?_
  rintro e w' ⟨rfl, ht, hk⟩
  exact ⟨rfl, ht, h.keep hk⟩
theorem told_most (bs : List Bool) (h : bs.length ≤ 4096) : toldOf bs 4097 = allOf bs := by
  unfold toldOf
  rw [List.take_of_length_le]
  have := allTo_len bs bs.length
  show (allTo bs bs.length).length ≤ _
  simp; omega
end
end Go.Proofs.Ytlhppmffbidjnaa
