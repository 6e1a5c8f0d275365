/-
  Those that wait, woken by rising keys: the same as the document's. No program is spoken of. Conditions: none.
-/
import Derived.Test.YtoekmdidonnamaaFqSt
namespace Go.Proofs.Ytoekmdidonnamaa
open Go.RowKit
set_option maxRecDepth 100000

def wakeL (x : Qm) (l : List Key) : Qm := l.foldl (fun x k => putQ x k.b.toNat 2) x
theorem wakeL_snoc (x : Qm) (l : List Key) (k : Key) : wakeL x (l ++ [k]) = putQ (wakeL x l) k.b.toNat 2 := by simp [wakeL]
theorem keyF_put (x : Qm) (i j : Nat) (p : Int) : keyF (putQ x i p) j = keyF x j := by
  unfold keyF timeF
  by_cases e : j = i
  · subst e; rw [putQ_F]
  · rw [putQ_ne x p e]
/-- The first of those that wait goes behind the old ones. -/
theorem wake_one {x : Qm} {k : Key} {r : List Key} (hx : x.Ok) (hk : KsOf x (k :: r)) (hs : (k :: r).Pairwise KLt) :
    ∃ i : Nat, i < 8 ∧ k = keyF x i ∧ x.T i = true ∧ (x.F i).p = 3 ∧ (putQ x i 2).Ok ∧ KsOf (putQ x i 2) r ∧ (i : Int) ∉ x.N ∧ (i : Int) ∉ x.O := by
  obtain ⟨i, hi, ht, hp, e⟩ := (hk k).1 (List.mem_cons_self ..)
  have hN : (i : Int) ∉ x.N := fun h => by have := ((hx.new i hi).1 h).2; omega
  have hO : (i : Int) ∉ x.O := fun h => by have := ((hx.old i hi).1 h).2; omega
  have hf := hx.is i hi ht
  refine ⟨i, hi, e, ht, hp, ?_, ?_, hN, hO⟩
  · refine hx.put hi (fun j hj => putQ_ne x 2 hj) (fun _ => rfl) rfl ht ?_ ?_ ?_ ?_
    · rw [putQ_F]
      exact ⟨hf.hs, hf.hc, by dsimp only; omega, hf.hn, hf.hu, fun _ => hf.no (by omega), fun e => (by cases e), fun e => (by cases e), hf.hq⟩
    · rw [putQ_F]; rfl
    · rw [putQ_F]; rfl
    · rw [putQ_F]; exact Nat.le_refl _
  · have hne : ∀ u ∈ r, u ≠ k := fun u hu => by
      have := (List.pairwise_cons.1 hs).1 u hu
      intro e'; subst e'
      unfold KLt at this; omega
    intro u
    constructor
    · intro hu
      obtain ⟨j, hj, h1, h2, h3⟩ := (hk u).1 (List.mem_cons_of_mem _ hu)
      have hji : j ≠ i := fun e' => by subst e'; exact hne u hu (h3.trans e.symm)
      exact ⟨j, hj, h1, by rw [putQ_ne x 2 hji]; exact h2, by rw [keyF_put]; exact h3⟩
    · rintro ⟨j, hj, h1, h2, h3⟩
      rw [keyF_put] at h3
      have hji : j ≠ i := fun e' => by subst e'; rw [putQ_F] at h2; cases h2
      rw [putQ_ne x 2 hji] at h2
      rcases List.mem_cons.1 ((hk u).2 ⟨j, hj, h1, h2, h3⟩) with h4 | h4
      · exfalso
        have : (j : Int) = (i : Int) := by have := h3.symm.trans (h4.trans e); exact congrArg Key.b this
        omega
      · exact h4
theorem wakes_none {x : Qm} : ∀ (k : Nat), (∀ i : Nat, i < k → ¬ (x.T i = true ∧ (x.F i).p = 3)) → firstN x k = none
  | 0, _ => rfl
  | k + 1, h => by
    unfold firstN
    rw [wakes_none k (fun i hi => h i (by omega))]
    simp only
    rw [if_neg (h k (by omega))]
theorem wake_keys {now : Int} : ∀ (m : Nat) {x : Qm} {ks : List Key}, x.Ok → KsOf x ks → ks.Pairwise KLt → ks.length ≤ m → wakeN now m x = wakeL x (ks.takeWhile fun k => decide (k.a ≤ now))
  | 0, x, ks, _, _, _, hl => by
    obtain rfl : ks = [] := List.eq_nil_of_length_eq_zero (by omega)
    rfl
  | m + 1, x, [], _, hk, _, _ => by
    have h0 : firstQ x = none := wakes_none 8 fun i hi h => by
      have := (hk (keyF x i)).2 ⟨i, hi, h.1, h.2, rfl⟩
      cases this
    unfold wakeN
    rw [h0]; rfl
  | m + 1, x, k :: r, hx, hk, hs, hl => by
    obtain ⟨i, hi, e, ht, hp, hok, hkr, _, _⟩ := wake_one hx hk hs
    cases hf : firstQ x with
    | none => exact absurd ⟨ht, hp⟩ (firstN_none hf i hi)
    | some b =>
      obtain ⟨hb, tb, pb⟩ := firstN_some hf
      have hle := firstN_least hf i hi ht hp
      obtain rfl : b = i := by
        have hm := (hk (keyF x b)).2 ⟨b, hb, tb, pb, rfl⟩
        rcases List.mem_cons.1 hm with h | h
        · have : (b : Int) = (i : Int) := by have := h.trans e; exact congrArg Key.b this
          omega
        · have h2 := (List.pairwise_cons.1 hs).1 _ h
          rw [e] at h2
          unfold KLt keyF at h2
          dsimp only at h2
          have h3 := hle.1
          rcases h2 with h2 | ⟨h2, h4⟩
          · omega
          · have := hle.2 h2; omega
      unfold wakeN
      rw [hf]
      dsimp only
      have hka : k.a = timeF (x.F b) := by rw [e]; rfl
      have hkb : k.b.toNat = b := by rw [e]; exact Int.toNat_natCast b
      by_cases hn : timeF (x.F b) ≤ now
      · rw [if_pos hn, List.takeWhile_cons_of_pos (by rw [hka]; simpa using hn)]
        rw [wake_keys m hok hkr (List.pairwise_cons.1 hs).2 (by simp at hl; omega)]
        show _ = wakeL (putQ x k.b.toNat 2) _
        rw [hkb]
      · rw [if_neg hn, List.takeWhile_cons_of_neg (by rw [hka]; simpa using hn)]
        rfl
/-- Some steps of it. -/
theorem wake_some {x : Qm} {ks : List Key} (hx : x.Ok) (hk : KsOf x ks) (hs : ks.Pairwise KLt) : ∀ (j : Nat), j ≤ ks.length → (wakeL x (ks.take j)).Ok ∧ KsOf (wakeL x (ks.take j)) (ks.drop j)
  | 0, _ => ⟨hx, hk⟩
  | j + 1, hj => by
    obtain ⟨h1, h2⟩ := wake_some hx hk hs j (by omega)
    have hd : ks.drop j = ks[j] :: ks.drop (j + 1) := List.drop_eq_getElem_cons (by omega)
    rw [hd] at h2
    have hs2 : (ks[j] :: ks.drop (j + 1)).Pairwise KLt := by rw [← hd]; exact hs.sublist (List.drop_sublist _ _)
    obtain ⟨i, hi, e, _, _, h3, h4, _, _⟩ := wake_one h1 h2 hs2
    rw [List.take_succ_eq_append_getElem (by omega), wakeL_snoc]
    have : (ks[j]).b.toNat = i := by rw [e]; exact Int.toNat_natCast i
    rw [this]
    exact ⟨h3, h4⟩
theorem pushV_no {N O : List Int} {i : Nat} (hi : i < 8) (hN : (i : Int) ∉ N) (hO : (i : Int) ∉ O) : pushV N O (i : Int) = 0 := by
  unfold pushV
  rw [if_neg (by omega), if_neg (fun h => h.elim hN hO)]
theorem seen_put (x : Qm) {i : Nat} (p : Int) {N O : List Int} (hN : (putQ x i p).N = N) (hO : (putQ x i p).O = O) : Seen { x with N := N, O := O } (putQ x i p) where
  c := rfl
  N := hN
  O := hO
  T := fun _ _ => rfl
  k := fun j _ => by
    by_cases e : j = i
    · subst e; rw [putQ_F]
    · rw [putQ_ne x p e]
  n := fun j _ => by
    by_cases e : j = i
    · subst e; rw [putQ_F]
    · rw [putQ_ne x p e]
  u := fun j _ => by
    by_cases e : j = i
    · subst e; rw [putQ_F]
    · rw [putQ_ne x p e]
  q := fun j _ => by
    by_cases e : j = i
    · subst e; rw [putQ_F]
    · rw [putQ_ne x p e]
/-- One that waits pushed behind the old ones. -/
theorem seen_wake {x : Qm} {i : Nat} (hi : i < 8) (hN : (i : Int) ∉ x.N) (hO : (i : Int) ∉ x.O) : Seen { x with N := pushN x.N x.O (i : Int) false, O := pushO x.N x.O (i : Int) false } (putQ x i 2) := by
  refine seen_put x 2 ?_ ?_
  · show x.N.erase (i : Int) = _
    unfold pushN
    rw [List.erase_of_not_mem hN]; simp
  · show x.O.erase (i : Int) ++ [(i : Int)] = _
    unfold pushO
    rw [List.erase_of_not_mem hO, pushV_no hi hN hO]; simp
theorem del_head {k : Key} {r : List Key} (hs : (k :: r).Pairwise KLt) : delS (k :: r) k = r := by
  have := del_split (A := []) (k := k) (B := r) hs
  simpa using this
end Go.Proofs.Ytoekmdidonnamaa
