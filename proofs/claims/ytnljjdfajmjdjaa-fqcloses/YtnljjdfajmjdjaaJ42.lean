/-
  canterlaw20.FqCloses, walked. Conditions: numbers are of their kind.
-/
import Derived.Test.YtnljjdfajmjdjaaJ31
import Derived.Test.YtnljjdfajmjdjaaJ36
import Derived.LoopTactic
namespace Go.Proofs.Ytnljjdfajmjdjaa
open Go.RowKit
set_option maxRecDepth 100000
set_option linter.unusedSimpArgs false
set_option linter.unusedVariables false

def rs8 : List Int := [1, 1, 1, 1, 1, 1, 1, 1]
theorem rs8_dly : ∀ k : Nat, k < 8 → dlyQ rs8 0 9 (k : Int) = 1000000000 := by decide
theorem rs8_bd : ∀ r ∈ rs8, U64 r := fun r hr => by
  have : r = 1 := by
    unfold rs8 at hr
    simp only [List.mem_cons, List.not_mem_nil, or_false, or_self] at hr
    exact hr
  subst this
  exact ⟨by decide, by decide⟩
theorem rd_eight {w : World} {B : Nat} (h : Whole w B 22 #[.int .u64 1, .int .u64 1, .int .u64 1, .int .u64 1, .int .u64 1, .int .u64 1, .int .u64 1, .int .u64 1]) : Rd .u64 w (some ⟨B, 0, none⟩) rs8 := fun i hi => by
  have h0 : i = 0 ∨ i = 1 ∨ i = 2 ∨ i = 3 ∨ i = 4 ∨ i = 5 ∨ i = 6 ∨ i = 7 := by have : i < 8 := hi; omega
  refine ⟨B, 0, rfl, h.lt, ?_⟩
  rw [Nat.zero_add, h.cell]
  rcases h0 with rfl | rfl | rfl | rfl | rfl | rfl | rfl | rfl <;> rfl
theorem apart_blk {wB w : World} {L : List Thing} {g B : Nat} {own : Nat → Prop} {x : Qm} {t : TypeId} {cs : Array Value} (h : Room wB w (fqT g own x :: blkT B t cs :: L)) : ∀ b off, (some ⟨B, 0, none⟩ : Option Addr) = some ⟨b, off, none⟩ → ¬ own b := fun b off e e2 => by
  cases e
  exact h.ne01 (a := fqT g own x) (b := blkT B t cs) (g := B) (k := B) e2 rfl rfl
/-- A socket's flow closed, be it there or not. -/
theorem Room.fqclose {wB w : World} {L : List Thing} {g : Nat} {own : Nat → Prop} {x : Qm} (h : Room wB w (fqT g own x :: L)) {i : Nat} (hi : i < 8) : Calls Try.prog 30 #[.pointer (some ⟨g, 0, none⟩), .int .i64 (i : Int)] w fun e w' => ∃ V own', e = .returned V ∧ Room wB w' (fqT g own' (clsQ x (i : Int)) :: sgsT 34 V (clsV x (i : Int)) :: L) := by
  cases ht : x.T i with
  | true =>
    have e : clsV x (i : Int) = (x.F i).q := by unfold clsV; rw [if_pos ⟨⟨by omega, by omega⟩, ht⟩]; rfl
    rw [e]
    refine (h.fqclose_yes hi ht).mono ?_
    rintro e w' ⟨V, own', rfl, hr⟩
    exact ⟨V, own', rfl, hr.perm (List.Perm.swap _ _ _)⟩
  | false =>
    have hn : ¬ ((0 ≤ (i : Int) ∧ (i : Int) < 8) ∧ x.T ((i : Int)).toNat = true) := fun e => by
      have h1 := e.2
      rw [show ((i : Int)).toNat = i from rfl, ht] at h1
      cases h1
    have e1 : clsV x (i : Int) = [] := by unfold clsV; rw [if_neg hn]
    have e2 : clsQ x (i : Int) = x := by unfold clsQ; rw [if_neg hn]
    rw [e1, e2]
    refine (h.fqclose_no (i : Int) hn).mono ?_
    rintro e w' ⟨rfl, hr⟩
    exact ⟨_, own, rfl, (hr.add (t := sgsT 34 (.slice none 0 0) []) (sgs_nil w' 34) (Keep.refl _ w') (fun k e => by cases e)).perm (List.Perm.swap _ _ _)⟩
theorem Bare.off {x : Qm} (h : Bare x) (z : Int) : ¬ ((0 ≤ z ∧ z < 8) ∧ x.T z.toNat = true) := fun e => by
  have h1 := e.2
  rw [h.T _ (by omega)] at h1
  cases h1
set_option maxRecDepth 100000 in
set_option maxHeartbeats 1000000 in
theorem closes_walk (w : World) (a : Option Addr) (cap : Nat) (zs : List Int) (a1 : Int) (hzl : zs.length ≤ 9223372036854775807) (hrd : Rd .i64 w a zs) :
    Calls Try.prog 11 #[.slice a zs.length cap, .int .i64 a1] w fun e w' => e = .returned (.bool true) ∧ Below w.heap.size w w' := by
  obtain ⟨n1, s1, m1, m2, m3, m4, m5, m6⟩ := mod_num a1 8 (by decide) (by decide)
  obtain ⟨k, rfl⟩ : ∃ k : Nat, n1 = (k : Int) := ⟨n1.toNat, by omega⟩
  have hk : k < 8 := by omega
  have HK := Lib.hid hk; have HRD := Lib.hid hrd
  have hd8 := fun l z => (dlyQ_bd rs8_bd (r := 0) ⟨by decide, by decide⟩ l z).1
  obtain ⟨x0, e0, hc0⟩ := cls_begin (d := dlyQ rs8 0) hk hd8 (rs8_dly k hk)
  have HE0 := Lib.hid e0; have HC0 := Lib.hid hc0
  have HSZ := Lib.hid hzl
  clear m3 m4 m5 m6 hk hrd hd8 e0 hc0 hzl
  go_enter Try.func11, Try.ntmps11
  go_wp2_with fail
  refine (plain_any w).mono ?_
  rintro e w1 ⟨rfl, k1⟩
  have R1 := Lib.hid (((Room.begin w).kept k1).box 24 #[.int .i64 3000, .int .i64 15000, .int .i64 100, .int .i64 50, .int .u64 10000000000, .int .u64 0, .bool false, .int .i64 100000, .int .i64 1000])
  clear k1
  go_upto_region 3 with fail
  simp only [m1, m2]
  clear m1 m2
  go_wp2_with fail
  refine (R1.out.fqnew plainC plain_ok).mono ?_
  rintro e w2 ⟨g, own, rfl, hr2⟩
  have R2 := Lib.hid hr2
  clear hr2 R1
  go_wp2_with fail
  refine (awakef_any w2).mono ?_
  rintro e w3 ⟨rfl, k3⟩
  have R3 := Lib.hid ((R2.out.kept k3).box1 22 #[.int .u64 1, .int .u64 1, .int .u64 1, .int .u64 1, .int .u64 1, .int .u64 1, .int .u64 1, .int .u64 1])
  clear k3 R2
  go_wp2_with fail
  have hn8 : (8 : Nat) = rs8.length := rfl
  refine (R3.out.fqenq ⟨(k : Int), 0, 9, 0, false⟩ 0 u0 u0 u0).mono ?_
  rintro e w4 ⟨rfl, own4, hr4⟩
  have R4 := Lib.hid hr4
  clear hr4 R3
  go_wp2_with fail
  refine (R4.out.fqdeq (y := x0) (o := some ⟨(k : Int), 0, 9, 0, false⟩) 0 u0 (some ⟨w3.heap.size, 0, none⟩) 8 rs8 (rd_eight R4.out.get1) rs8_bd (apart_blk R4.out) (by rw [enq_c]; exact HE0.out)).mono ?_
  rintro e w5 ⟨rfl, own5, hr5⟩
  have R5 := Lib.hid hr5
  clear hr5 R4
  dsimp only [Option.getD, Option.isSome, Sg.v]
  go_upto_region 10 with fail
  obtain ⟨N, hN⟩ : ∃ N : Nat, N = min zs.length 20 := ⟨_, rfl⟩
  rw [show (if (20 : Int) < (zs.length : Int) then (20 : Int) else (zs.length : Int)) = (N : Int) by split <;> omega]
  have hN20 : N ≤ 20 := by omega
  have HNL : Hid (N ≤ zs.length) := Lib.hid (by omega)
  clear hN
  go_upto_region 11 with fail
  go_loopw [10] (fun i wr => ∃ (j : Nat) (own' : Nat → Prop) (x : Qm) (l : List Sg), j ≤ N ∧ i = .int .i64 j ∧ l.length = j ∧ (∀ (t : Nat) (s : Sg), l[t]? = some s → s.f = (t : Int)) ∧ Cls x k l ∧ Room w wr (fqT g own' x :: blkT w3.heap.size 22 #[.int .u64 1, .int .u64 1, .int .u64 1, .int .u64 1, .int .u64 1, .int .u64 1, .int .u64 1, .int .u64 1] :: blkT w1.heap.size 24 #[.int .i64 3000, .int .i64 15000, .int .i64 100, .int .i64 50, .int .u64 10000000000, .int .u64 0, .bool false, .int .i64 100000, .int .i64 1000] :: [])) (fun i _ => 20 - (intOf i).toNat)
  case atStart => exact ⟨0, own5, x0, [], by omega, rfl, rfl, fun t s h => (by simp at h), HC0.out, R5.out⟩
  case round =>
    obtain ⟨j, own', x, l, hj, rfl, hll, hlf, hcl, hr⟩ := hrel
    have HLL := Lib.hid hll; have HLF := Lib.hid hlf; have HCL := Lib.hid hcl; have R := Lib.hid hr
    clear hll hlf hcl hr
    by_cases hlt : j < N
    · have hi1 : (j : Int) < (N : Int) := by omega
      have hi2 : (j : Int) < (zs.length : Int) := by have := HNL.out; omega
      obtain ⟨b, off, ea, hbl, cz⟩ := (HRD.out.below R.out.bel) j (by have := HNL.out; omega)
      subst ea
      obtain ⟨v, hv⟩ : ∃ v, zs.getD j 0 = v := ⟨_, rfl⟩
      rw [hv] at cz
      obtain ⟨n2, s2, q1, q2, q3, q4, q5, q6⟩ := mod_num v 1000 (by decide) (by decide)
      have hwj : IntKind.u64.wrap (j : Int) = (j : Int) := by rw [IntKind.wrap_u64]; omega
      have HS2 : Hid (1 ≤ s2 ∧ s2 ≤ 65536) := Lib.hid ⟨by omega, by omega⟩
      clear hv hbl q4 q5 q6 R5 HC0
      go_wp2_with fail
      try simp only [q1, q2, q3]
      refine (R.out.fqenq ⟨(k : Int), (j : Int), s2, 0, false⟩ 0 u0 ⟨by dsimp only; omega, by dsimp only; omega⟩ u0).mono ?_
      rintro e w6 ⟨rfl, own6, hr6⟩
      have R6 := Lib.hid hr6
      have HCL6 := Lib.hid (HCL.out.enq (s := ⟨(k : Int), (j : Int), s2, 0, false⟩) (by have := HLL.out; omega) rfl HS2.out ⟨by dsimp only; omega, by dsimp only; omega⟩ rfl)
      clear hr6 R cz q1 q2 q3
      go_wp2
      go_roundw
      case rel =>
        refine ⟨j + 1, own6, _, _, by omega, by go_num, by rw [List.length_append, List.length_singleton, HLL.out], fun t s hs => ?_, HCL6.out, R6.out⟩
        by_cases ht : t < l.length
        · rw [List.getElem?_append_left ht] at hs
          exact HLF.out t s hs
        · rw [List.getElem?_append_right (by omega)] at hs
          have h0 : t - l.length = 0 := by
            have := (List.getElem?_eq_some_iff.1 hs).1
            simp at this
            exact this
          rw [h0] at hs
          simp at hs
          rw [← hs]
          have := HLL.out
          show (j : Int) = (t : Int)
          omega
      case measure => simp [intOf]; omega
    · obtain rfl : j = N := by omega
      clear hlt hj R5 HC0
      have hd8 := fun l z => (dlyQ_bd rs8_bd (r := 0) ⟨by decide, by decide⟩ l z).1
      obtain ⟨y, ey, oky, vy, by_, cy⟩ := HCL.out.end_ (d := dlyQ rs8 0) hd8
      have HEY : Hid (deqQ (dlyQ rs8 x.c.r) x 0 = (y, none)) := Lib.hid (by rw [HCL.out.c]; exact ey)
      have HOKY := Lib.hid oky; have HVY := Lib.hid vy; have HBY := Lib.hid by_; have HCY := Lib.hid cy
      clear hd8 ey oky vy by_ cy
      go_wp2_with fail
      refine (R.out.fqdeq (y := y) (o := none) 0 u0 (some ⟨w3.heap.size, 0, none⟩) 8 rs8 (rd_eight R.out.get1) rs8_bd (apart_blk R.out) HEY.out).mono ?_
      rintro e w7 ⟨rfl, own7, hr7⟩
      have R7 := Lib.hid hr7
      clear hr7 R
      dsimp only [Option.getD, Option.isSome, Sg.zero, Sg.v]
      go_wp2_with fail
      refine (R7.out.fqclose HK.out).mono ?_
      rintro e w8 ⟨V, own8, rfl, hr8⟩
      rw [HVY.out] at hr8
      obtain ⟨va, vc, rfl⟩ := sgs_shape hr8.get1
      rw [HLL.out] at hr8 ⊢
      have R8 := Lib.hid hr8
      clear hr8 R7
      go_wp2_with fail
      refine (R8.out.fqflow_no (k : Int) (HBY.out.off _)).mono ?_
      rintro e w9 ⟨rfl, hr9⟩
      have R9 := Lib.hid (hr9.box1 44 #[.int .i64 0, .int .i64 0, .int .i64 0, .int .u64 0, .int .u64 0, .slice none 0 0])
      clear hr9 R8
      dsimp only [Fl.v, Fl.zero]
      go_wp2_with fail
      refine R9.out.fqdog.mono ?_
      rintro e wa ⟨rfl, hra⟩
      rw [(dog_opt _).1, (dog_opt _).2, HBY.out.dog]
      dsimp only [Option.getD, Option.isSome]
      have RA := Lib.hid hra
      clear hra R9
      have hjj : ((j : Int) != (j : Int)) = false := by simp
      go_wp2_with fail
      refine RA.out.fqlen.mono ?_
      rintro e wb ⟨rfl, hrb⟩
      rw [HBY.out.len]
      have RB := Lib.hid hrb
      clear hrb RA
      go_wp2_with fail
      refine (RB.out.fqclose_no (k : Int) (HBY.out.off _)).mono ?_
      rintro e wc ⟨rfl, hrc⟩
      have RC := Lib.hid hrc
      clear hrc RB
      go_wp2_with fail
      refine (RC.out.fqclose_no (-1) (HBY.out.off _)).mono ?_
      rintro e wd ⟨rfl, hrd⟩
      have RD := Lib.hid hrd
      clear hrd RC
      go_upto_region 21 with fail
      go_loopw [16] (fun i wr => ∃ t : Nat, t ≤ j ∧ i = .int .i64 t ∧ wr = wd) (fun i _ => 20 - (intOf i).toNat)
      case atStart => exact ⟨0, by omega, rfl, rfl⟩
      case round =>
        obtain ⟨t, ht, rfl, rfl⟩ := hrel
        by_cases hlt : t < j
        · have hi1 : (t : Int) < (j : Int) := by omega
          obtain ⟨sg, hsg⟩ : ∃ sg, l[t]? = some sg := ⟨_, List.getElem?_eq_getElem (by have := HLL.out; omega)⟩
          have hf := HLF.out t sg hsg
          obtain ⟨r, er, _, c1, _, _, _⟩ := sgs_get (show (sgsT 34 (.slice va j vc) l).at_ _ from RD.out.get2) HLL.out.symm hsg
          subst er
          rw [hf] at c1
          have hwt : IntKind.u64.wrap (t : Int) = (t : Int) := by rw [IntKind.wrap_u64]; omega
          clear hsg hf
          go_wp2
          go_roundw
          case rel => exact ⟨t + 1, by omega, by go_num, by first | rfl | trivial⟩
          case measure => simp [intOf]; omega
        · obtain rfl : t = j := by omega
          clear hlt ht
          obtain ⟨f1, f2, f3, f4⟩ := HBY.out.again (d := dlyQ [] 0) HK.out (fun l z => (dlyQ_bd (rs := []) (fun _ h => by cases h) (r := 0) ⟨by decide, by decide⟩ l z).1)
          rw [HCY.out] at f3
          have F1 := Lib.hid f1; have F3 := Lib.hid f3
          obtain ⟨yy, hyy⟩ : ∃ yy, (deqQ (dlyQ [] 0) (enqQ (clsQ y (k : Int)) ⟨(k : Int), 0, 3, 0, false⟩ 0) 0).1 = yy := ⟨_, rfl⟩
          have F4 : Hid (deqQ (dlyQ [] (enqQ (clsQ y (k : Int)) ⟨(k : Int), 0, 3, 0, false⟩ 0).c.r) (enqQ (clsQ y (k : Int)) ⟨(k : Int), 0, 3, 0, false⟩ 0) 0 = (yy, some ⟨(k : Int), 0, 3, 0, false⟩)) := Lib.hid (by
            rw [enq_c, HCY.out]
            show deqQ (dlyQ [] 0) (enqQ (clsQ y (k : Int)) ⟨(k : Int), 0, 3, 0, false⟩ 0) 0 = _
            rw [← hyy, ← f4])
          clear f1 f2 f3 f4 hyy
          go_wp2_with fail
          refine (RD.out.fqenq ⟨(k : Int), 0, 3, 0, false⟩ 0 u0 u0 u0).mono ?_
          rintro e we ⟨rfl, owne, hre⟩
          have RE := Lib.hid hre
          clear hre RD
          go_wp2_with fail
          refine (RE.out.fqflow_yes HK.out F3.out.T).mono ?_
          rintro e wf ⟨V, rfl, hrf⟩
          obtain ⟨vb, vd, rfl⟩ := sgs_shape hrf.get1
          rw [F3.out.F] at hrf ⊢
          have RF := Lib.hid (hrf.box1 44 #[.int .i64 (k : Int), .int .i64 15000, .int .i64 1, .int .u64 0, .int .u64 0, .slice vb 1 vd])
          clear hrf RE
          dsimp only [Fl.v, List.length_cons, List.length_nil, plainC]
          go_wp2_with fail
          refine (RF.out.fqdeq0 (y := yy) (o := some ⟨(k : Int), 0, 3, 0, false⟩) 0 u0 F4.out).mono ?_
          rintro e wg ⟨rfl, owng, hrg⟩
          have RG := Lib.hid (hrg.box1 34 #[.int .i64 (k : Int), .int .u64 0, .int .i64 3, .int .u64 0, .bool false])
          clear hrg RF
          dsimp only [Option.getD, Option.isSome, Sg.v]
          go_upto_region 28 with fail
          generalize World.alloc wg _ = wh at *
          have d3 : wh.cell? ⟨wf.heap.size, 3, none⟩ = some (.int .u64 0) := Whole.cell RG.out.get2 3
          have d1 : wh.cell? ⟨wf.heap.size, 1, none⟩ = some (.int .i64 15000) := Whole.cell RG.out.get2 1
          have d5 : wh.cell? ⟨w1.heap.size, 1, none⟩ = some (.int .i64 15000) := Whole.cell (RG.out.nth 7 (t := blkT w1.heap.size 24 plainV) rfl) 1
          go_wp2
          go_ret
          exact ⟨rfl, RG.out.bel⟩
end Go.Proofs.Ytnljjdfajmjdjaa
