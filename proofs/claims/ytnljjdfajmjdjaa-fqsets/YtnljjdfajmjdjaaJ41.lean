/-
  canterlaw20.FqSets, walked. Conditions: numbers are of their kind.
-/
import Derived.Test.YtnljjdfajmjdjaaJ34
import Derived.Test.YtnljjdfajmjdjaaJ40
import Derived.Test.YtnljjdfajmjdjaaJ21
import Derived.LoopTactic
namespace Go.Proofs.Ytnljjdfajmjdjaa
open Go.RowKit
set_option maxRecDepth 100000
set_option linter.unusedSimpArgs false
set_option linter.unusedVariables false

def Nine (W : World) (B : Nat) (c : Cf) : Prop := W.cell? ⟨B, 0, none⟩ = some (.int .i64 c.q) ∧ W.cell? ⟨B, 1, none⟩ = some (.int .i64 c.f) ∧ W.cell? ⟨B, 2, none⟩ = some (.int .i64 c.l) ∧ W.cell? ⟨B, 3, none⟩ = some (.int .i64 c.w) ∧ W.cell? ⟨B, 4, none⟩ = some (.int .u64 c.h) ∧ W.cell? ⟨B, 5, none⟩ = some (.int .u64 c.r) ∧ W.cell? ⟨B, 6, none⟩ = some (.bool c.d) ∧ W.cell? ⟨B, 7, none⟩ = some (.int .i64 c.k) ∧ W.cell? ⟨B, 8, none⟩ = some (.int .i64 c.m)
theorem nine_of {W : World} {B : Nat} {c : Cf} (h : Whole W B 24 (confL c).toArray) : Nine W B c := by
  have e : ∀ j, j < 9 → W.cell? ⟨B, j, none⟩ = some (cfV c j) := fun j hj => (h.cell j).trans (by rw [List.getElem?_toArray]; exact conf_get c hj)
  exact ⟨e 0 (by omega), e 1 (by omega), e 2 (by omega), e 3 (by omega), e 4 (by omega), e 5 (by omega), e 6 (by omega), e 7 (by omega), e 8 (by omega)⟩
theorem there_conf {W : World} {B : Nat} {c : Cf} (h : Whole W B 24 (confL c).toArray) : W.there B 0 9 := fun j hj => by
  rw [Nat.zero_add]
  exact ⟨by rw [h.cell, List.getElem?_toArray, conf_get c hj]; rfl, h.free j⟩
theorem whole_conf {W : World} {B : Nat} {c p : Cf} (h : Whole W B 24 (confL c).toArray) : Whole (W.setCells B 0 (confL p)) B 24 (confL p).toArray := by
  have h1 := h.puts (confL p) 0
  rwa [show Lib.lay (confL c).toArray 0 (confL p) = (confL p).toArray from lay_full (confL c).toArray (confL p).toArray rfl] at h1
theorem one_conf (p : Cf) : (confL p).toArray.all (·.oneCell') = true := all_oneCell_toArray (fun u hu => by
  simp only [confL, List.mem_cons, List.not_mem_nil, or_false] at hu
  rcases hu with rfl | rfl | rfl | rfl | rfl | rfl | rfl | rfl | rfl <;> rfl)
def confT (B : Nat) (c : Cf) : Thing := blkT B 24 (confL c).toArray
set_option maxRecDepth 100000 in
set_option maxHeartbeats 2000000 in
theorem sets_walk (a0 : Int) (c d : Cf) (hc : U64 c.h ∧ U64 c.r) (hd : U64 d.h ∧ U64 d.r) (w : World) :
    Calls Try.prog 13 #[.int .i64 a0, c.v, d.v] w fun e w' => e = .returned (.bool true) ∧ Below w.heap.size w w' := by
  have HC := Lib.hid hc; have HD := Lib.hid hd
  obtain ⟨n0, s1, m1, m2, m3, m4, m5, m6⟩ := mod_num a0 20 (by decide) (by decide)
  obtain ⟨n, rfl⟩ : ∃ n : Nat, n0 = (n : Int) := ⟨n0.toNat, by omega⟩
  have hn20 : n < 20 := by omega
  obtain ⟨w1, hw1⟩ : ∃ w1, w1 = (w.alloc (.cells (confL c).toArray 24)).alloc (.cells (confL d).toArray 24) := ⟨_, rfl⟩
  have R1 : Hid (Room w w1 (confT (w.heap.size + 1) d :: confT w.heap.size c :: [])) := Lib.hid (by
    rw [hw1]
    have h := ((Room.begin w).box 24 (confL c).toArray).box 24 (confL d).toArray
    rwa [World.size_alloc] at h)
  unfold confL at hw1
  clear hc hd m3 m4 m5 m6
  dsimp only [Cf.v]
  go_enter Try.func13, Try.ntmps13
  go_upto_region 1 with fail
  rw [← hw1]
  clear hw1
  refine wp_region_late (fun W => Nine W w.heap.size c ∧ Nine W (w.heap.size + 1) d) [4, 5] (.yes 0 (.yes 2 (.one 1 (.one 3 (.one 4 (.one 5 .nil)))))) (by kernel_rfl) (by kernel_rfl) (by kernel_rfl) (by kernel_rfl) ⟨nine_of R1.out.get1, nine_of R1.out.get0⟩ ?_
  have R2 := Lib.hid R1.out.drew
  clear R1
  generalize World.drew w1 = w2 at *
  (repeat (refine wpSchL_yes (v := ?_) rfl (fun _ _ _ h => h) (by rfl) ?_ ?_; rotate_left; (next => (intro w hSw; (try dsimp only at hSw); obtain ⟨⟨a0, a1, a2, a3, a4, a5, a6, a7, a8⟩, b0, b1, b2, b3, b4, b5, b6, b7, b8⟩ := hSw; go_simp; (try with_reducible rfl))); (try simp only [Act.put, List.setIfInBounds_toArray, List.set_cons_zero, List.set_cons_succ])))
  refine wpSchL_one (wpOneL_call rfl (by rfl) (fun K hK => ?_))
  go_simp
  refine (playc_any c HC.out.2 HC.out.1 w2).mono ?_
  rintro e w3 ⟨p, rfl, hp, k3⟩
  have R3 := Lib.hid (R2.out.kept k3); have HP := Lib.hid hp
  clear R2 k3 hp
  refine hK.out _ _ (fun _ => ⟨nine_of R3.out.get1, nine_of R3.out.get0⟩) (fun hHeld => ?_)
  clear hK K hHeld
  (try simp only [Act.put, List.setIfInBounds_toArray, List.set_cons_zero, List.set_cons_succ])
  refine wpSchL_one (wpOneL_call rfl (by rfl) (fun K hK => ?_))
  go_simp
  refine (playc_any d HD.out.2 HD.out.1 w3).mono ?_
  rintro e w4 ⟨p2, rfl, hp2, k4⟩
  have R4 := Lib.hid (R3.out.kept k4); have HP2 := Lib.hid hp2
  clear R3 k4 hp2
  refine hK.out _ _ (fun _ => ⟨nine_of R4.out.get1, nine_of R4.out.get0⟩) (fun hHeld => ?_)
  clear hK K hHeld
  (try simp only [Act.put, List.setIfInBounds_toArray, List.set_cons_zero, List.set_cons_succ])
  refine wpSchL_one (wpOneL_call rfl (by rfl) (fun K hK => ?_))
  refine wp_store_mid 24 (.tmp 4) (.tmp 17) rfl w.heap.size 0 (confL p).toArray rfl rfl (there_conf R4.out.get1) Try.size24 (one_conf p) ?_
  have R5 := Lib.hid (R4.out.step1 (t' := confT w.heap.size p) (whole_conf R4.out.get1) (Keep.setCells (S := fun k => k = w.heap.size) rfl (confL p) 0 (Keep.refl _ w4)) (fun k e => .inl e))
  refine hK.out _ _ (fun h => absurd h (by decide)) (fun hHeld => ?_)
  clear hK K hHeld R4
  rw [show (confL p).toArray.toList = confL p from rfl]
  generalize World.setCells w4 _ _ _ = w5 at *
  (try simp only [Act.put, List.setIfInBounds_toArray, List.set_cons_zero, List.set_cons_succ])
  refine wpSchL_one (wpOneL_call rfl (by rfl) (fun K hK => ?_))
  refine wp_store_mid 24 (.tmp 5) (.tmp 19) rfl (w.heap.size + 1) 0 (confL p2).toArray rfl rfl (there_conf R5.out.get0) Try.size24 (one_conf p2) ?_
  have R6 := Lib.hid (R5.out.step0 (t' := confT (w.heap.size + 1) p2) (whole_conf R5.out.get0) (Keep.setCells (S := fun k => k = w.heap.size + 1) rfl (confL p2) 0 (Keep.refl _ w5)) (fun k e => .inl e))
  refine hK.out _ _ (fun h => absurd h (by decide)) (fun hHeld => ?_)
  clear hK K hHeld R5
  rw [show (confL p2).toArray.toList = confL p2 from rfl]
  generalize World.setCells w5 _ _ _ = w6 at *
  (try simp only [Act.put, List.setIfInBounds_toArray, List.set_cons_zero, List.set_cons_succ])
  refine wpSchL_nil ?_
  go_upto_region 3 with fail
  try simp only [m1, m2]
  clear m1 m2
  obtain ⟨b0, b1, b2, b3, b4, b5, b6, b7, b8⟩ := nine_of R6.out.get1
  go_wp2_with fail
  refine (R6.out.fqnew p HP.out).mono ?_
  rintro e w7 ⟨g, own, rfl, hr7⟩
  have R7 := Lib.hid hr7
  clear hr7 R6 b0 b1 b2 b3 b4 b5 b6 b7 b8
  go_wp2_with fail
  refine (awakef_any w7).mono ?_
  rintro e w8 ⟨rfl, k8⟩
  have R8 := Lib.hid (R7.out.kept k8)
  clear k8 R7
  go_upto_region 7 with fail
  go_loopw [9] (fun i wr => ∃ (j : Nat) (own' : Nat → Prop) (x : Qm), j ≤ n ∧ i = .int .i64 j ∧ OneI x p 1 j ∧ Room w wr (fqT g own' x :: confT (w.heap.size + 1) p2 :: confT w.heap.size p :: [])) (fun i _ => 20 - (intOf i).toNat)
  case atStart => exact ⟨0, own, _, by omega, rfl, one_new HP.out 1, R8.out⟩
  case round =>
    obtain ⟨j, own', x, hj, rfl, hl, hr⟩ := hrel
    have HL := Lib.hid hl; have R := Lib.hid hr
    clear hl hr R8
    by_cases hlt : j < n
    · have hi1 : (j : Int) < (n : Int) := by omega
      have HL' := Lib.hid (HL.out.step (k := 1) (by decide) (s := ⟨1, 0, 10, 0, false⟩) u0 rfl ⟨by decide, by decide⟩ u0 rfl)
      go_wp2_with fail
      refine (R.out.fqenq ⟨1, 0, 10, 0, false⟩ 0 u0 u0 u0).mono ?_
      rintro e w9 ⟨rfl, own9, hr9⟩
      have R9 := Lib.hid hr9
      clear hr9 R
      go_wp2
      go_roundw
      case rel => exact ⟨j + 1, own9, _, by omega, by go_num, HL'.out, R9.out⟩
      case measure => simp [intOf]; omega
    · obtain rfl : j = n := by omega
      clear hlt hj
      go_wp2_with fail
      refine R.out.fqlen.mono ?_
      rintro e w9 ⟨rfl, hr9⟩
      have R9 := Lib.hid hr9
      clear hr9 R
      have hx := HL.out.ok
      obtain ⟨LQ, hLQ⟩ : ∃ n : Nat, lenQ x = n := ⟨_, rfl⟩
      have hlen := HL.out.len
      have HF : Hid (enqE ⟨1, 0, 10, 0, false⟩ = 0 ∧ enqV { x with c := p2 } ⟨1, 0, 10, 0, false⟩ 0 = if p2.l ≤ (LQ : Int) then 2 else if p2.w ≤ (LQ : Int) then 3 else 0) := Lib.hid (by
        have he : enqE ⟨1, 0, 10, 0, false⟩ = 0 := by decide
        refine ⟨he, ?_⟩
        rw [enq_v (set_ok hx HP2.out) he, one_fate (set_ok hx HP2.out) (k := 1) (Int.le_refl 0) rfl HL.out.lk rfl]
        rw [← hLQ]
        rfl)
      rw [hLQ] at hlen ⊢
      have HLEN := Lib.hid hlen
      clear hx hlen
      obtain ⟨b0, b1, b2, b3, b4, b5, b6, b7, b8⟩ := nine_of R9.out.get1
      go_wp2_with fail
      refine (R9.out.fqset p2 HP2.out.hr ⟨HP2.out.hh.1, by have := HP2.out.hh.2; omega⟩).mono ?_
      rintro e wa ⟨rfl, hra⟩
      rw [show setV p2 = 0 from if_pos HP2.out]
      rw [show setX x p2 = { x with c := p2 } from if_pos HP2.out] at hra
      have RA := Lib.hid hra
      clear hra R9 b0 b1 b2 b3 b4 b5 b6 b7 b8
      go_wp2_with fail
      have hz : ¬ (⟨0, 0, 0, 0, 0, 0, false, 0, 0⟩ : Cf).Ok := by decide
      refine (RA.out.fqset ⟨0, 0, 0, 0, 0, 0, false, 0, 0⟩ u0 u0).mono ?_
      rintro e wb ⟨rfl, hrb⟩
      rw [show setV ⟨0, 0, 0, 0, 0, 0, false, 0, 0⟩ = 13 from if_neg hz]
      rw [show setX { x with c := p2 } ⟨0, 0, 0, 0, 0, 0, false, 0, 0⟩ = { x with c := p2 } from if_neg hz] at hrb
      have RB := Lib.hid hrb
      clear hrb RA hz
      go_wp2_with fail
      refine (RB.out.fqenq ⟨1, 0, 10, 0, false⟩ 0 u0 u0 u0).mono ?_
      rintro e wc ⟨rfl, ownc, hrc⟩
      obtain ⟨F, hF⟩ : ∃ F, enqV { x with c := p2 } ⟨1, 0, 10, 0, false⟩ 0 = F := ⟨_, rfl⟩
      have hff := HF.out.2
      rw [hF] at hff
      rw [HF.out.1, hF]
      have RC := Lib.hid hrc
      have q2 : wc.cell? ⟨w.heap.size + 1, 2, none⟩ = some (.int .i64 p2.l) := (nine_of RC.out.get1).2.2.1
      have q3 : wc.cell? ⟨w.heap.size + 1, 3, none⟩ = some (.int .i64 p2.w) := (nine_of RC.out.get1).2.2.2.1
      have r2 : wc.cell? ⟨w.heap.size, 2, none⟩ = some (.int .i64 p.l) := (nine_of RC.out.get2).2.2.1
      have r3 : wc.cell? ⟨w.heap.size, 3, none⟩ = some (.int .i64 p.w) := (nine_of RC.out.get2).2.2.2.1
      generalize p2.l = L2 at *
      generalize p2.w = W2 at *
      generalize p.l = L1 at *
      generalize p.w = W1 at *
      clear hrc RB hF HF hLQ
      have hlen := HLEN.out
      by_cases h1 : L2 ≤ (LQ : Int)
      · rw [if_pos h1] at hff
        subst hff
        by_cases hA : L1 < (j : Int)
        · by_cases hB : W1 < L1
          · have hq : ((LQ : Int) == W1) = true := by simp; omega
            clear hlen
            go_wp2
            go_ret
            exact ⟨rfl, RC.out.bel⟩
          · have hq : ((LQ : Int) == L1) = true := by simp; omega
            clear hlen
            go_wp2
            go_ret
            exact ⟨rfl, RC.out.bel⟩
        · by_cases hB : W1 < (j : Int)
          · have hq : ((LQ : Int) == W1) = true := by simp; omega
            clear hlen
            go_wp2
            go_ret
            exact ⟨rfl, RC.out.bel⟩
          · have hq : ((LQ : Int) == (j : Int)) = true := by simp; omega
            clear hlen
            go_wp2
            go_ret
            exact ⟨rfl, RC.out.bel⟩
      · rw [if_neg h1] at hff
        by_cases h2 : W2 ≤ (LQ : Int)
        · rw [if_pos h2] at hff
          subst hff
          by_cases hA : L1 < (j : Int)
          · by_cases hB : W1 < L1
            · have hq : ((LQ : Int) == W1) = true := by simp; omega
              clear hlen
              go_wp2
              go_ret
              exact ⟨rfl, RC.out.bel⟩
            · have hq : ((LQ : Int) == L1) = true := by simp; omega
              clear hlen
              go_wp2
              go_ret
              exact ⟨rfl, RC.out.bel⟩
          · by_cases hB : W1 < (j : Int)
            · have hq : ((LQ : Int) == W1) = true := by simp; omega
              clear hlen
              go_wp2
              go_ret
              exact ⟨rfl, RC.out.bel⟩
            · have hq : ((LQ : Int) == (j : Int)) = true := by simp; omega
              clear hlen
              go_wp2
              go_ret
              exact ⟨rfl, RC.out.bel⟩
        · rw [if_neg h2] at hff
          subst hff
          by_cases hA : L1 < (j : Int)
          · by_cases hB : W1 < L1
            · have hq : ((LQ : Int) == W1) = true := by simp; omega
              clear hlen
              go_wp2
              go_ret
              exact ⟨rfl, RC.out.bel⟩
            · have hq : ((LQ : Int) == L1) = true := by simp; omega
              clear hlen
              go_wp2
              go_ret
              exact ⟨rfl, RC.out.bel⟩
          · by_cases hB : W1 < (j : Int)
            · have hq : ((LQ : Int) == W1) = true := by simp; omega
              clear hlen
              go_wp2
              go_ret
              exact ⟨rfl, RC.out.bel⟩
            · have hq : ((LQ : Int) == (j : Int)) = true := by simp; omega
              clear hlen
              go_wp2
              go_ret
              exact ⟨rfl, RC.out.bel⟩
end Go.Proofs.Ytnljjdfajmjdjaa
