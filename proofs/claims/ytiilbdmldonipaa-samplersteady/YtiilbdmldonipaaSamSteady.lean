/-
  Sending at a steady pace, each one acknowledged a round trip later: the plain mathematics. No program is spoken of. Conditions: none.
-/
import Derived.Test.YtiilbdmldonipaaSamSt
namespace Go.Proofs.Ytiilbdmldonipaa
open Go.RowKit

/-- What stands with the j-th, at a gap G, of size Z, T under way. -/
def sJ (T G Z j : Nat) : Snt := ⟨((j * G : Nat) : Int), (((j + 1 - T) * Z : Nat) : Int), ((if j < T then 0 else j * G : Nat) : Int), ((if T = 1 then j * G else (j - T) * G : Nat) : Int), false⟩
/-- What the sampler is ahead of the k-th. -/
structure Std (T G Z k : Nat) (x : Smp) : Prop where
  d : x.d = (((k - T) * Z : Nat) : Int)
  u : x.u = (sJ T G Z (k - 1)).u
  f : x.f = (sJ T G Z (k - 1)).f
  m : x.m = 0
  a : x.a = 0
  s : x.s = false
theorem std_new {T G Z : Nat} (hT : 1 ≤ T) : Std T G Z 0 newS := by
  refine ⟨?_, ?_, ?_, rfl, rfl, rfl⟩
  · show (0 : Int) = _; rw [Nat.zero_sub, Nat.zero_mul]; rfl
  · show (0 : Int) = ((if 0 < T then 0 else 0 * G : Nat) : Int); rw [if_pos (by omega)]; rfl
  · show (0 : Int) = ((if T = 1 then 0 * G else (0 - T) * G : Nat) : Int); rw [Nat.zero_sub, Nat.zero_mul]; simp
theorem std_low {T G Z k : Nat} {x : Smp} (h : Std T G Z k x) (hZ : 1 ≤ Z) (hk : k < T) :
    sentV x ((k * G : Nat) : Int) ((k * Z : Nat) : Int) = sJ T G Z k ∧ Std T G Z (k + 1) (sentS x ((k * G : Nat) : Int) ((k * Z : Nat) : Int)) := by
  have e1 : (k - T) * Z = 0 := by rw [show k - T = 0 by omega, Nat.zero_mul]
  have e2 : (k + 1 - T) * Z = 0 := by rw [show k + 1 - T = 0 by omega, Nat.zero_mul]
  have e3 : (k - T) * G = 0 := by rw [show k - T = 0 by omega, Nat.zero_mul]
  have e4 : (k - 1 - T) * G = 0 := by rw [show k - 1 - T = 0 by omega, Nat.zero_mul]
  have hd : x.d = 0 := by rw [h.d, e1]; rfl
  have hu : x.u = 0 := by rw [h.u]; show ((if k - 1 < T then 0 else (k - 1) * G : Nat) : Int) = 0; rw [if_pos (by omega)]; rfl
  have hf : x.f = 0 := by
    rw [h.f]; show ((if T = 1 then (k - 1) * G else (k - 1 - T) * G : Nat) : Int) = 0
    split
    · rw [show k - 1 = 0 by omega, Nat.zero_mul]; rfl
    · rw [e4]; rfl
  have hsu : (sJ T G Z k).u = 0 := by show ((if k < T then 0 else k * G : Nat) : Int) = 0; rw [if_pos hk]; rfl
  have hsf : (sJ T G Z k).f = 0 := by
    show ((if T = 1 then k * G else (k - T) * G : Nat) : Int) = 0
    split
    · rw [show k = 0 by omega, Nat.zero_mul]; rfl
    · rw [e3]; rfl
  have hsj : sJ T G Z k = ⟨((k * G : Nat) : Int), 0, 0, 0, false⟩ := by
    have h1 : (sJ T G Z k).d = 0 := by show (((k + 1 - T) * Z : Nat) : Int) = 0; rw [e2]; rfl
    have h0 : sJ T G Z k = ⟨(sJ T G Z k).t, (sJ T G Z k).d, (sJ T G Z k).u, (sJ T G Z k).f, (sJ T G Z k).l⟩ := rfl
    rw [h1, hsu, hsf] at h0
    exact h0
  have hm : (x.m != 0) = false := by rw [h.m]; rfl
  have hstd : ∀ u f, u = 0 → f = 0 → Std T G Z (k + 1) ⟨x.d, u, f, x.m, x.a, x.s, x.p, x.q, x.l, x.e, x.r⟩ := fun u f hu hf => by
    refine ⟨?_, ?_, ?_, h.m, h.a, h.s⟩
    · show x.d = _; rw [hd, show k + 1 - T = 0 by omega, Nat.zero_mul]; rfl
    · show u = _; rw [Nat.add_sub_cancel, hsu, hu]
    · show f = _; rw [Nat.add_sub_cancel, hsf, hf]
  by_cases hk0 : k = 0
  · have hz : ((k * Z : Nat) : Int) = 0 := by rw [hk0, Nat.zero_mul]; rfl
    have hg : ((k * G : Nat) : Int) = 0 := by rw [hk0, Nat.zero_mul]; rfl
    rw [hsj, hz, hg]
    refine ⟨?_, ?_⟩
    · refine (if_pos rfl).trans ?_
      rw [hm, hd]
    · rw [show sentS x 0 0 = ⟨x.d, 0, 0, x.m, x.a, x.s, x.p, x.q, x.l, x.e, x.r⟩ from if_pos rfl]
      exact hstd _ _ rfl rfl
  · have hz : ¬ ((k * Z : Nat) : Int) = 0 := by
      have : 0 < k * Z := Nat.mul_pos (by omega) hZ
      omega
    rw [hsj]
    refine ⟨?_, ?_⟩
    · refine (if_neg hz).trans ?_
      rw [hm, hd, hu, hf]
    · rw [show sentS x ((k * G : Nat) : Int) ((k * Z : Nat) : Int) = x from if_neg hz]
      exact hstd _ _ hu hf
/-- The k-th behind the first T: what is told when the one T ahead of it is acknowledged, and what is sent then. -/
theorem std_high {T G Z j : Nat} {x : Smp} (h : Std T G Z (T + j) x) (hT : 1 ≤ T) (hZ : 1 ≤ Z) (hG : 1 ≤ G) (hZ1 : Z ≤ 100000) (hG1 : G ≤ 1000000) (hk : T + j ≤ 40) :
    ∃ (p I : Nat), (∀ F : Int, takeV (ackS x (((T + j) * G : Nat) : Int) Z (sJ T G Z j)) (((T + j) * G : Nat) : Int) 0 F = ⟨(((T + j) * G : Nat) : Int), (((j + 1) * Z : Nat) : Int), (p : Int), (I : Int), ((G * T : Nat) : Int), (Z : Int), 0, F, false⟩) ∧ p ≤ (j + 1) * Z ∧ 1 ≤ I ∧ I ≤ 40000000 ∧
      (T ≤ j → ((j + 1) * Z - p) * G = Z * I) ∧
      sentV (takeS (ackS x (((T + j) * G : Nat) : Int) Z (sJ T G Z j))) (((T + j) * G : Nat) : Int) (((T - 1) * Z : Nat) : Int) = sJ T G Z (T + j) ∧
      Std T G Z (T + j + 1) (sentS (takeS (ackS x (((T + j) * G : Nat) : Int) Z (sJ T G Z j))) (((T + j) * G : Nat) : Int) (((T - 1) * Z : Nat) : Int)) := by
  have n1 : (T + j) * G = T * G + j * G := Nat.add_mul _ _ _
  have n2 : (j + 1) * Z = j * Z + Z := Nat.succ_mul _ _
  have b1 : (T + j) * G ≤ 40 * 1000000 := Nat.mul_le_mul hk hG1
  have b2 : (j + 1) * Z ≤ 40 * 100000 := Nat.mul_le_mul (by omega) hZ1
  have b3 : G ≤ T * G := Nat.le_mul_of_pos_left _ hT
  have n3 : T + j - T = j := by omega
  have hxd : x.d = ((j * Z : Nat) : Int) := by rw [h.d, n3]
  have hD : satAdd x.d (Z : Int) = (((j + 1) * Z : Nat) : Int) := by rw [hxd, satAdd_le (by omega)]; omega
  have hA : satAdd x.a (Z : Int) = (Z : Int) := by rw [h.a, satAdd_le (by omega)]; omega
  have hM : markS x (Z : Int) = 0 := by unfold markS; rw [h.m]; split <;> rfl
  have hR : satSub (((T + j) * G : Nat) : Int) ((j * G : Nat) : Int) = ((G * T : Nat) : Int) := by
    rw [satSub_ge (by omega), Nat.mul_comm G T]; omega
  obtain ⟨u, hu⟩ : ∃ u : Nat, u = if j < T then 0 else j * G := ⟨_, rfl⟩
  obtain ⟨f, hf⟩ : ∃ f : Nat, f = if T = 1 then j * G else (j - T) * G := ⟨_, rfl⟩
  have hfj : f ≤ j * G := by
    subst hf; split
    · exact Nat.le_refl _
    · exact Nat.mul_le_mul_right _ (by omega)
  have huj : u ≤ j * G := by subst hu; split <;> omega
  have hS : satSub ((j * G : Nat) : Int) (f : Int) = ((j * G - f : Nat) : Int) := by rw [satSub_ge (by omega)]; omega
  have hsj : sJ T G Z j = ⟨((j * G : Nat) : Int), (((j + 1 - T) * Z : Nat) : Int), (u : Int), (f : Int), false⟩ := by subst hu hf; rfl
  have hack : ackS x (((T + j) * G : Nat) : Int) Z (sJ T G Z j) = ⟨(((j + 1) * Z : Nat) : Int), (((T + j) * G : Nat) : Int), ((j * G : Nat) : Int), 0, (Z : Int), true, (((j + 1 - T) * Z : Nat) : Int), (u : Int), false, ((j * G - f : Nat) : Int), ((G * T : Nat) : Int)⟩ := by
    rw [hsj]
    refine (if_pos (.inl h.s)).trans ?_
    rw [hD, hA, hM, hR]
    show (⟨_, _, _, _, _, _, _, _, _, satSub ((j * G : Nat) : Int) (f : Int), _⟩ : Smp) = _
    rw [hS]
  have hU : satSub (((T + j) * G : Nat) : Int) (u : Int) = (((T + j) * G - u : Nat) : Int) := by rw [satSub_ge (by omega)]; omega
  obtain ⟨I, hI⟩ : ∃ I : Nat, I = (T + j) * G - u := ⟨_, rfl⟩
  have hle : j * G - f ≤ I := by
    subst hI hu
    split
    · omega
    · have : j * G - f ≤ T * G := by
        subst hf
        split
        · omega
        · rename_i hj ht
          have := Nat.add_mul (j - T) T G
          rw [show j - T + T = j by omega] at this
          omega
      omega
  have hI1 : 1 ≤ I := by subst hI hu; split <;> omega
  rw [hack]
  refine ⟨(j + 1 - T) * Z, I, fun F => ?_, Nat.mul_le_mul_right _ (by omega), hI1, by omega, fun hTj => ?_, ?_, ?_⟩
  · refine (if_pos rfl).trans ?_
    show (⟨_, _, _, topI ((j * G - f : Nat) : Int) (satSub (((T + j) * G : Nat) : Int) (u : Int)), _, _, _, _, _⟩ : Spl) = _
    rw [hU, ← hI, show topI ((j * G - f : Nat) : Int) (I : Int) = (I : Int) from if_pos (by omega)]
  · obtain ⟨l, rfl⟩ : ∃ l, j = T + l := ⟨j - T, by omega⟩
    have hI2 : I = T * G := by subst hI hu; rw [if_neg (by omega)]; omega
    rw [hI2, show T + l + 1 - T = l + 1 by omega, show T + l + 1 = T + (l + 1) by omega, Nat.add_mul T (l + 1) Z, Nat.add_sub_cancel]
    rw [Nat.mul_comm T Z, Nat.mul_assoc]
  · show sentV ⟨(((j + 1) * Z : Nat) : Int), (((T + j) * G : Nat) : Int), ((j * G : Nat) : Int), 0, 0, false, _, _, _, _, _⟩ _ _ = _
    have hk1 : (sJ T G Z (T + j)) = ⟨(((T + j) * G : Nat) : Int), (((j + 1) * Z : Nat) : Int), (((T + j) * G : Nat) : Int), ((if T = 1 then (T + j) * G else j * G : Nat) : Int), false⟩ := by
      unfold sJ
      rw [if_neg (by omega), n3, show T + j + 1 - T = j + 1 by omega]
    rw [hk1]
    by_cases hT1 : T = 1
    · have hz : (((T - 1) * Z : Nat) : Int) = 0 := by rw [hT1, Nat.sub_self, Nat.zero_mul]; rfl
      rw [hz, if_pos hT1]
      exact if_pos rfl
    · have hz : ¬ (((T - 1) * Z : Nat) : Int) = 0 := by
        have : 0 < (T - 1) * Z := Nat.mul_pos (by omega) hZ
        omega
      rw [if_neg hT1]
      exact if_neg hz
  · have hstd : ∀ (u f : Int), u = (((T + j) * G : Nat) : Int) → f = ((if T = 1 then (T + j) * G else j * G : Nat) : Int) → Std T G Z (T + j + 1) ⟨(((j + 1) * Z : Nat) : Int), u, f, 0, 0, false, (((j + 1 - T) * Z : Nat) : Int), (↑(if j < T then 0 else j * G : Nat)), false, ((j * G - f.toNat : Nat) : Int), ((G * T : Nat) : Int)⟩ := fun u' f' hu' hf' => by
      refine ⟨?_, ?_, ?_, rfl, rfl, rfl⟩
      · show (((j + 1) * Z : Nat) : Int) = _; rw [show T + j + 1 - T = j + 1 by omega]
      · show u' = _
        rw [Nat.add_sub_cancel, hu']
        show _ = ((if T + j < T then 0 else (T + j) * G : Nat) : Int)
        rw [if_neg (by omega)]
      · show f' = _
        rw [Nat.add_sub_cancel, hf']
        show _ = ((if T = 1 then (T + j) * G else (T + j - T) * G : Nat) : Int)
        rw [n3]
    by_cases hT1 : T = 1
    · have hz : (((T - 1) * Z : Nat) : Int) = 0 := by rw [hT1, Nat.sub_self, Nat.zero_mul]; rfl
      have h0 := hstd _ _ rfl rfl
      have hs : ∀ y : Smp, sentS y (((T + j) * G : Nat) : Int) 0 = ⟨y.d, (((T + j) * G : Nat) : Int), (((T + j) * G : Nat) : Int), y.m, y.a, y.s, y.p, y.q, y.l, y.e, y.r⟩ := fun y => if_pos rfl
      rw [hz, hs]
      exact ⟨h0.d, h0.u, by have := h0.f; rw [if_pos hT1] at this; exact this, rfl, rfl, rfl⟩
    · have hz : ¬ (((T - 1) * Z : Nat) : Int) = 0 := by
        have : 0 < (T - 1) * Z := Nat.mul_pos (by omega) hZ
        omega
      have h0 := hstd _ _ rfl rfl
      have hs : ∀ y : Smp, sentS y (((T + j) * G : Nat) : Int) (((T - 1) * Z : Nat) : Int) = y := fun y => if_neg hz
      rw [hs]
      exact ⟨h0.d, h0.u, by have := h0.f; rw [if_neg hT1] at this; exact this, rfl, rfl, rfl⟩
end Go.Proofs.Ytiilbdmldonipaa
