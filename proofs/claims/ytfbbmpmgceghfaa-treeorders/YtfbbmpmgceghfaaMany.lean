/-
  Keys put in one behind the other: what is in the tree then. Conditions: none.
-/
import Derived.Test.YtfbbmpmgceghfaaSit
namespace Go.Proofs.Ytfbbmpmgceghfaa
open Go.RowKit
set_option maxRecDepth 100000
set_option linter.unusedSimpArgs false

theorem List.reverseRecOn' {α : Type} {P : List α → Prop} (l : List α) (nil : P []) (snoc : ∀ l k, P l → P (l ++ [k])) : P l := by
  have : ∀ n, ∀ l : List α, l.length = n → P l := by
    intro n
    induction n with
    | zero => intro l h; rw [List.eq_nil_of_length_eq_zero h]; exact nil
    | succ n ih =>
      intro l h
      rcases List.eq_nil_or_concat l with rfl | ⟨l', k, rfl⟩
      · simp at h
      · rw [List.concat_eq_append] at h ⊢
        exact snoc l' k (ih l' (by simpa using h))
  exact this l.length l rfl
theorem mem_insK {k x : Key} {ks : List Key} : x ∈ insK k ks ↔ x = k ∨ x ∈ ks := by
  unfold insK
  simp only [List.mem_append, List.mem_filter, List.mem_cons, decide_eq_true_eq]
  constructor
  · rintro (h | h | h)
    · exact .inr h.1
    · exact .inl h
    · exact .inr h.1
  · rintro (h | h)
    · exact .inr (.inl h)
    · rcases KLt.tri x k with h' | h' | h'
      · exact .inl ⟨h, h'⟩
      · exact .inr (.inl h')
      · exact .inr (.inr ⟨h, h'⟩)
theorem len_insK (k : Key) (ks : List Key) : (insK k ks).length ≤ ks.length + 1 := by
  unfold insK
  simp only [List.length_append, List.length_cons]
  induction ks with
  | nil => simp
  | cons a ks ih =>
    simp only [List.filter_cons]
    by_cases h1 : KLt a k
    · have h2 : ¬ KLt k a := fun h => h1.asymm h
      simp [h1, h2]; (try simp at ih); omega
    · by_cases h2 : KLt k a
      · simp [h1, h2]; (try simp at ih); omega
      · simp [h1, h2]; (try simp at ih); omega
/-- What is in a tree for N keys when those have been put in, one behind the other. -/
def ksOf (N : Nat) (l : List Key) : List Key := l.foldl (fun ks k => insS N ks k) []
theorem ksOf_snoc (N : Nat) (l : List Key) (k : Key) : ksOf N (l ++ [k]) = insS N (ksOf N l) k := by simp [ksOf]
theorem ksOf_facts (N : Nat) (l : List Key) (h : l.length ≤ N) : (ksOf N l).length ≤ l.length ∧ ∀ x, x ∈ ksOf N l ↔ x ∈ l := by
  induction l using List.reverseRecOn' with
  | nil => simp [ksOf]
  | snoc l k ih =>
    simp at h
    obtain ⟨ih1, ih2⟩ := ih (by omega)
    rw [ksOf_snoc]
    unfold insS
    by_cases hm : k ∈ ksOf N l
    · rw [if_pos hm]
      refine ⟨by simp; omega, fun x => ?_⟩
      rw [ih2, List.mem_append, List.mem_singleton]
      exact ⟨.inl, fun h => h.elim id (fun e => e ▸ (ih2 k).1 hm)⟩
    · rw [if_neg hm, if_neg (by omega)]
      refine ⟨by have := len_insK k (ksOf N l); simp; omega, fun x => ?_⟩
      rw [mem_insK, ih2, List.mem_append, List.mem_singleton]
      exact ⟨fun h => h.symm, fun h => h.symm⟩
/-- The answer to the next one. -/
theorem ksOf_next (N : Nat) (l : List Key) (k : Key) (h : l.length < N) : (k ∈ l → insE N (ksOf N l) k = 6) ∧ (k ∉ l → insE N (ksOf N l) k = 0) ∧ insS N (ksOf N l) k = ksOf N (l ++ [k]) := by
  obtain ⟨h1, h2⟩ := ksOf_facts N l (by omega)
  refine ⟨fun hm => if_pos ((h2 k).2 hm), fun hm => ?_, (ksOf_snoc N l k).symm⟩
  unfold insE
  rw [if_neg (fun h => hm ((h2 k).1 h)), if_neg (by omega)]

theorem above_drop {ks : List Key} (hs : ks.Pairwise KLt) {i : Nat} {x : Key} (hx : ks[i]? = some x) : above ks x = ks.drop (i + 1) ∧ ks.drop i = x :: ks.drop (i + 1) := by
  obtain ⟨hi, rfl⟩ := List.getElem?_eq_some_iff.1 hx
  have hd := List.drop_eq_getElem_cons hi
  refine ⟨?_, hd⟩
  have e : ks = (ks.take i ++ [ks[i]]) ++ ks.drop (i + 1) := by
    rw [← List.take_succ_eq_append_getElem hi, List.take_append_drop]
  rw [e, List.pairwise_append] at hs
  obtain ⟨h1, h2, h3⟩ := hs
  rw [List.pairwise_append] at h1
  have := above_split (k := ks[i]) (A := ks.take i ++ [ks[i]]) (B := ks.drop (i + 1)) (fun y hy => by
    rcases List.mem_append.1 hy with hy | hy
    · exact fun h => (h1.2.2 y hy _ (by simp)).asymm h
    · simp at hy; rw [hy]; exact fun h => h.irr) (fun y hy => h3 _ (List.mem_append.2 (.inr (by simp))) y hy)
  rwa [← e] at this
theorem less_prev {ks : List Key} (hs : ks.Pairwise KLt) {i : Nat} {x y : Key} (hx : ks[i + 1]? = some x) (hy : ks[i]? = some y) : KLt y x := by
  obtain ⟨hi, rfl⟩ := List.getElem?_eq_some_iff.1 hx
  obtain ⟨hj, rfl⟩ := List.getElem?_eq_some_iff.1 hy
  exact List.pairwise_iff_getElem.1 hs i (i + 1) hj hi (by omega)
theorem Sit.below {wB w w' : World} {S : Nat → Prop} {g N : Nat} {ks : List Key} (h : Sit wB w S g N ks) (hb : Below w.heap.size w w') : Sit wB w' S g N ks :=
  ⟨h.tree.keep (keep_of_below hb) (fun k hk h' => by have := h.tree.lt hk; omega), h.mine, h.bel.trans (hb.mono h.bel.size)⟩
theorem RdK.take {w : World} {a : Option Addr} {ks : List Key} (h : RdK w a ks) (n : Nat) : RdK w a (ks.take n) := fun i k hi => h i k (by
  rw [List.getElem?_take] at hi
  split at hi
  · exact hi
  · cases hi)
theorem in_key' (a : Option Addr) (ca n : Nat) (ks : List Key) (x : Key) (c : Bool) (w : World) (hn : n = ks.length) (hc : decide (x ∈ ks) = c) (hlen : ks.length ≤ 100000) (ha : RdK w a ks) :
    Calls Try.prog 9 #[.slice a n ca, kv x] w fun e w' => e = .returned (.bool c) ∧ Keep (fun _ => False) w w' := by
  subst hn hc; exact in_key a ca ks x w hlen ha
end Go.Proofs.Ytfbbmpmgceghfaa
