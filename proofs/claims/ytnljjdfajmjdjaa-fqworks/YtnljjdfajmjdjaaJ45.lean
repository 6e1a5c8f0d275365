/-
  canterlaw20.FqWorks, walked. Conditions: numbers are of their kind.
-/
import Derived.Test.YtnljjdfajmjdjaaJ34
import Derived.Test.YtnljjdfajmjdjaaJ43
import Derived.Test.YtnljjdfajmjdjaaJ44
import Derived.LoopTactic
namespace Go.Proofs.Ytnljjdfajmjdjaa
open Go.RowKit
set_option maxRecDepth 100000
set_option linter.unusedSimpArgs false
set_option linter.unusedVariables false

set_option maxRecDepth 100000 in
set_option maxHeartbeats 600000 in
theorem works_walk (c : Cf) (a : Option Addr) (cap : Nat) (hc : U64 c.h ∧ U64 c.r) (w : World) (zs : List (FOp w)) (hzl : zs.length ≤ 9223372036854775807) (hrd : RdL 18 cells18 w a zs) :
    Calls Try.prog 4 #[c.v, .slice a zs.length cap] w fun e w' => e = .returned (.bool true) ∧ Below w.heap.size w w' := by
  have HC := Lib.hid hc; have HRD := Lib.hid hrd; have HZL := Lib.hid hzl
  have R0 := Lib.hid ((Room.begin w).box 24 (confL c).toArray)
  obtain ⟨w1, hw1⟩ : ∃ w1, w1 = w.alloc (.cells (confL c).toArray 24) := ⟨_, rfl⟩
  rw [← hw1] at R0
  unfold confL at hw1
  clear hc hrd hzl
  dsimp only [Cf.v]
  go_enter Try.func4, Try.ntmps4
  go_wp2_with fail
  rw [← hw1]
  clear hw1
  refine (playc_any c HC.out.2 HC.out.1 w1).mono ?_
  rintro e w2 ⟨p, rfl, hp, k2⟩
  have R2 := Lib.hid (R0.out.kept k2); have HP := Lib.hid hp
  clear k2 hp R0
  have HT := Lib.hid (there_conf (show Whole w2 w.heap.size 24 (confL c).toArray from R2.out.get0))
  go_upto_region 2 with (refine wpList_store_mid rfl 24 (.tmp 2) (.tmp 21) rfl w.heap.size 0 (confL p).toArray rfl rfl HT.out Try.size24 (one_conf p) ?_)
  have R3 := Lib.hid (R2.out.step0 (t' := confT w.heap.size p) (whole_conf R2.out.get0) (Keep.setCells (S := fun k => k = w.heap.size) rfl (confL p) 0 (Keep.refl _ w2)) (fun k e => .inl e))
  try rw [show (confL p).toArray.toList = confL p from rfl]
  clear HT R2
  generalize World.setCells w2 _ _ _ = w3 at *
  obtain ⟨b0, b1, b2, b3, b4, b5, b6, b7, b8⟩ := nine_of (show Whole w3 w.heap.size 24 (confL p).toArray from R3.out.get0)
  go_wp2_with fail
  refine (R3.out.fqnew p HP.out).mono ?_
  rintro e w4 ⟨g, own, rfl, hr4⟩
  have R4 := Lib.hid hr4
  clear hr4 R3 b0 b1 b2 b3 b4 b5 b6 b7 b8
  go_wp2_with fail
  refine (awakef_any w4).mono ?_
  rintro e w5 ⟨rfl, k5⟩
  have R5 := Lib.hid ((R4.out.kept k5).less (M := [fqT g own (newQ p)]) (by simp))
  clear k5 R4
  go_upto_region 7 with fail
  go_loopw [7, 8] (fun nv i wr => ∃ (j : Nat) (nw : Int) (own' : Nat → Prop) (x : Qm), j ≤ zs.length ∧ j ≤ 80 ∧ i = .int .i64 j ∧ nv = .int .u64 nw ∧ (0 ≤ nw ∧ nw ≤ 4611686018427387904) ∧ x.c = p ∧ Room w wr [fqT g own' x]) (fun _ i _ => 80 - (intOf i).toNat)
  case atStart => exact ⟨0, 0, own, _, by omega, by omega, rfl, rfl, by omega, rfl, R5.out⟩
  case round =>
    obtain ⟨j, nw, own', x, hj1, hj2, rfl, rfl, hnw, hxc, hr⟩ := hrel
    have R := Lib.hid hr; have HXC := Lib.hid hxc; have HNW := Lib.hid hnw
    clear hr hxc hnw R5
    by_cases hlt : j < zs.length ∧ j < 80
    · have hi1 : (j : Int) < (zs.length : Int) := by omega
      have hi2 : (j : Int) < 80 := by omega
      obtain ⟨o, ho⟩ : ∃ o, zs[j]? = some o := ⟨_, List.getElem?_eq_getElem hlt.1⟩
      obtain ⟨b, off, ea, hbl, hcl⟩ := (HRD.out.below R.out.bel) j o ho
      subst ea
      obtain ⟨V, hV⟩ : ∃ V : Array Value, V = (cells18 o).toArray := ⟨_, rfl⟩
      have HV : Hid (V.toList = cells18 o) := Lib.hid (by rw [hV])
      have HRV := Lib.hid (show wr.rangeAt b (off + j * 18) V.toList from fun t u hu => by rw [hV] at hu; exact hcl t u (by simpa using hu))
      have HSZ : Hid ((Try.prog.info? 37).map (·.size) = some V.toList.length) := Lib.hid (by rw [HV.out]; exact Try.size37)
      have HSZ' : Hid ((Try.prog.info? 37).map (·.size) = some V.size) := Lib.hid (by rw [hV]; exact Try.size37)
      have HONE : Hid (V.all (·.oneCell') = true) := Lib.hid (by rw [hV]; exact one_op o)
      clear hcl hV
      go_upto_region 9 with fail
      obtain ⟨Z, hZ⟩ : ∃ Z : Array Value, Z = #[.int .i64 0, .int .u64 0, .int .i64 0, .int .u64 0, .int .i64 0, .int .u64 0, .bool false, .slice none 0 0, .int .i64 0, .int .i64 0, .int .i64 0, .int .i64 0, .int .u64 0, .int .u64 0, .bool false, .int .i64 0, .int .i64 0, .bool false] := ⟨_, rfl⟩
      have hzw := Whole.new wr 37 Z
      have HT := Lib.hid (show (wr.alloc (.cells Z 37)).there wr.heap.size 0 V.size from fun t ht => by
        rw [Nat.zero_add]
        have h18 : t < 18 := by rw [← Array.length_toList (xs := V), HV.out] at ht; exact ht
        exact ⟨by rw [hzw.cell, Array.getElem?_eq_getElem (by rw [hZ]; simpa using h18)]; rfl, hzw.free t⟩)
      have HW := Lib.hid (hzw.puts V.toList 0)
      have R9 := Lib.hid (R.out.box1 37 Z)
      have HZS : Hid (V.size = Z.size) := Lib.hid (by rw [hZ, ← Array.length_toList (xs := V), HV.out]; rfl)
      clear hzw
      rw [hZ] at HT HW R9
      go_upto_region 10 with (first
        | (refine wpList_load_mid rfl 37 (.tmp 49) rfl b (off + j * 18) rfl V.toList _ HRV.out Try.underlying37 rfl HSZ.out ?_)
        | (refine wpList_store_mid rfl 37 (.tmp 9) (.tmp 50) rfl wr.heap.size 0 V rfl rfl HT.out HSZ'.out HONE.out ?_))
      have R10 := Lib.hid (R9.out.step1 (t' := blkT wr.heap.size 37 V) (show Whole _ wr.heap.size 37 V from (by have h := HW.out; rwa [lay_full _ V (by rw [HZS.out, hZ])] at h)) (Keep.setCells (S := fun k => k = wr.heap.size) rfl V.toList 0 (Keep.refl _ _)) (fun k e => .inl e))
      clear hZ HT HW R9 HZS HSZ HSZ' HONE HRV hbl R
      generalize hB : wr.heap.size = B at *
      generalize World.setCells _ _ _ _ = w6 at *
      clear hB
      have HCL := Lib.hid (show ∀ t u, (cells18 o)[t]? = some u → w6.cell? ⟨B, t, none⟩ = some u from fun t u hu => by
        have h1 := Whole.cell (show Whole w6 B 37 V from R10.out.get1) t
        rw [h1, ← hu, ← HV.out]
        simp)
      have d0 := HCL.out 0 _ rfl; have d1 := HCL.out 1 _ rfl
      obtain ⟨gp, hgp⟩ : ∃ gp, o.g % 2000000000 = gp := ⟨_, rfl⟩
      have hgt : o.g.tmod 2000000000 = gp := by rw [Int.tmod_eq_emod_of_nonneg o.hg.1]; exact hgp
      have HGP : Hid (0 ≤ gp ∧ gp < 2000000000) := Lib.hid (by omega)
      go_wp2_with fail
      try simp only [hgp, hgt]
      refine (radd_any nw gp HNW.out.1 (by have := HNW.out; omega) HGP.out.1 (by have := HGP.out; omega) _).mono ?_
      rintro e w7 ⟨rfl, rfl⟩
      clear hgp hgt
      go_upto_region 11 with fail
      obtain ⟨n2, hn2⟩ : ∃ n2, (if (4611686018427387904 : Int) < satAdd nw gp then (4611686018427387904 : Int) else satAdd nw gp) = n2 := ⟨_, rfl⟩
      rw [hn2]
      have HN2 : Hid (0 ≤ n2 ∧ n2 ≤ 4611686018427387904) := Lib.hid (by
        have h0 : 0 ≤ satAdd nw gp := by unfold satAdd; have := HNW.out; have := HGP.out; split <;> omega
        rw [← hn2]
        split <;> omega)
      clear hn2 HGP HNW
      by_cases hk : o.k = 2 ∨ o.k = 3
      · have hxo : x.Ok := FQ.ok (show FQ w6 g own' x from R10.out.get0)
        have HXO := Lib.hid hxo
        have hkk : (o.k != 2) = false ∨ ((o.k != 2) = true ∧ (o.k != 3) = false) := by
          by_cases h2 : o.k = 2
          · left; simp [h2]
          · right; exact ⟨by simp [h2], by simp; omega⟩
        clear hxo hk
        rcases hkk with h1 | ⟨h1, h2⟩
        · go_upto_region 15 with fail
          clear d0 d1
          go_loopw [10, 11, 12] (fun lv av iv wr2 => ∃ k : Nat, k ≤ 8 ∧ iv = .int .i64 k ∧ lv = .int .u64 ((leastN x k).getD 0) ∧ av = .bool (leastN x k).isSome ∧ Room w wr2 [fqT g own' x, blkT B 37 V]) (fun _ _ iv _ => 8 - (intOf iv).toNat)
          case atStart => exact ⟨0, by omega, rfl, rfl, rfl, R10.out⟩
          case round =>
            obtain ⟨k, hk8, rfl, rfl, rfl, hr⟩ := hrel
            have RI := Lib.hid hr
            clear hr R10
            by_cases hlk : k < 8
            · have hik : (k : Int) < 8 := by omega
              have HK8 := Lib.hid hlk
              cases ht : x.T k with
              | false =>
                have HN : Hid (leastN x (k + 1) = leastN x k) := Lib.hid (by
                  show (if x.T k = true ∧ (x.F k).q ≠ [] then _ else _) = _
                  rw [if_neg (fun e => by rw [ht] at e; cases e.1)])
                have HOFF : Hid (¬ ((0 ≤ (k : Int) ∧ (k : Int) < 8) ∧ x.T ((k : Int)).toNat = true)) := Lib.hid (fun e => by
                  have h1 := e.2
                  rw [show ((k : Int)).toNat = k from rfl, ht] at h1
                  cases h1)
                clear ht hlk
                go_wp2_with fail
                refine (RI.out.fqflow_no (k : Int) HOFF.out).mono ?_
                rintro e w8 ⟨rfl, hr8⟩
                have R8 := Lib.hid hr8
                clear hr8 RI
                dsimp only [Fl.v, Fl.zero]
                go_wp2
                go_roundw
                case rel => exact ⟨k + 1, by omega, by go_num, by rw [HN.out], by rw [HN.out], R8.out.alloc _⟩
                case measure => simp [intOf]; omega
              | true =>
                have HTT := Lib.hid ht
                clear ht hlk
                go_wp2_with fail
                refine (RI.out.fqflow_yes HK8.out HTT.out).mono ?_
                rintro e w8 ⟨VV, rfl, hr8⟩
                obtain ⟨va, vc, rfl⟩ := sgs_shape hr8.get1
                have R8 := Lib.hid (hr8.box1 44 #[.int .i64 (x.F k).s, .int .i64 (x.F k).c, .int .i64 (x.F k).p, .int .u64 (x.F k).n, .int .u64 (x.F k).u, .slice va (x.F k).q.length vc])
                clear hr8 RI
                dsimp only [Fl.v]
                have R8' := Lib.hid (R8.out.less (M := [fqT g own' x, blkT B 37 V]) (((List.Sublist.slnil.cons_cons _).cons _ |>.cons _).cons_cons _))
                have hcase : (x.F k).q = [] ∨ ∃ s r, (x.F k).q = s :: r := by
                  cases (x.F k).q with
                  | nil => exact .inl rfl
                  | cons s r => exact .inr ⟨s, r, rfl⟩
                rcases hcase with hq | ⟨s, r, hq⟩
                · have HN : Hid (leastN x (k + 1) = leastN x k) := Lib.hid (by
                    show (if x.T k = true ∧ (x.F k).q ≠ [] then _ else _) = _
                    rw [if_neg (fun e => e.2 hq)])
                  rw [hq] at R8' ⊢
                  clear hq R8
                  simp only [List.length_nil] at R8' ⊢
                  go_wp2
                  go_roundw
                  case rel => exact ⟨k + 1, by omega, by go_num, by rw [HN.out], by rw [HN.out], R8'.out⟩
                  case measure => simp [intOf]; omega
                · have HQ := Lib.hid hq
                  have hm0 : (0 : Int) < ((x.F k).q.length : Int) := by rw [hq]; simp only [List.length_cons]; omega
                  have HNN : Hid (leastN x (k + 1) = match leastN x k with | none => some (timeF (x.F k)) | some t => if timeF (x.F k) < t then some (timeF (x.F k)) else some t) := Lib.hid (by
                    show (if x.T k = true ∧ (x.F k).q ≠ [] then _ else _) = _
                    rw [if_pos ⟨HTT.out, by rw [hq]; exact List.cons_ne_nil _ _⟩]
                    cases leastN x k <;> rfl)
                  clear hq
                  cases hl : leastN x k with
                  | none =>
                    rw [hl] at HNN
                    clear hl
                    dsimp only [Option.getD, Option.isSome]
                    go_wp2_with fail
                    have hVV := R8.out.get2
                    refine (rtime_any (.slice va (x.F k).q.length vc) (x.F k) s r _ HQ.out hVV).mono ?_
                    rintro e w9 ⟨rfl, k9⟩
                    have R9 := Lib.hid (R8'.out.kept k9)
                    clear k9 hVV R8 R8'
                    go_wp2
                    go_roundw
                    case rel => exact ⟨k + 1, by omega, by go_num, by rw [HNN.out]; rfl, by rw [HNN.out]; rfl, R9.out⟩
                    case measure => simp [intOf]; omega
                  | some t =>
                    rw [hl] at HNN
                    clear hl
                    dsimp only [Option.getD, Option.isSome]
                    have hVV := R8.out.get2
                    go_wp2_with fail
                    refine (rtime_any (.slice va (x.F k).q.length vc) (x.F k) s r _ HQ.out hVV).mono ?_
                    rintro e w9 ⟨rfl, k9⟩
                    have R9 := Lib.hid (R8.out.kept k9); have R9' := Lib.hid (R8'.out.kept k9)
                    clear k9 hVV R8 R8'
                    have b0 : w9.cell? ⟨w8.heap.size, 0, none⟩ = some (.int .i64 (x.F k).s) := Whole.cell R9.out.get1 0
                    have b1 : w9.cell? ⟨w8.heap.size, 1, none⟩ = some (.int .i64 (x.F k).c) := Whole.cell R9.out.get1 1
                    have b2 : w9.cell? ⟨w8.heap.size, 2, none⟩ = some (.int .i64 (x.F k).p) := Whole.cell R9.out.get1 2
                    have b3 : w9.cell? ⟨w8.heap.size, 3, none⟩ = some (.int .u64 (x.F k).n) := Whole.cell R9.out.get1 3
                    have b4 : w9.cell? ⟨w8.heap.size, 4, none⟩ = some (.int .u64 (x.F k).u) := Whole.cell R9.out.get1 4
                    have b5 : w9.cell? ⟨w8.heap.size, 5, none⟩ = some (.slice va (x.F k).q.length vc) := Whole.cell R9.out.get1 5
                    by_cases hlt2 : timeF (x.F k) < t
                    · have hVV := R9.out.get2
                      go_wp2_with fail
                      refine (rtime_any (.slice va (x.F k).q.length vc) (x.F k) s r _ HQ.out hVV).mono ?_
                      rintro e wa ⟨rfl, ka⟩
                      have RA := Lib.hid (R9'.out.kept ka)
                      have HNX : Hid (leastN x (k + 1) = some (timeF (x.F k))) := Lib.hid (by rw [HNN.out]; exact if_pos hlt2)
                      clear ka hVV R9 R9' b0 b1 b2 b3 b4 b5
                      go_wp2
                      go_roundw
                      case rel => exact ⟨k + 1, by omega, by go_num, by rw [HNX.out]; rfl, by rw [HNX.out]; rfl, RA.out⟩
                      case measure => simp [intOf]; omega
                    · have HNX : Hid (leastN x (k + 1) = some t) := Lib.hid (by rw [HNN.out]; exact if_neg hlt2)
                      clear R9 b0 b1 b2 b3 b4 b5
                      go_wp2
                      go_roundw
                      case rel => exact ⟨k + 1, by omega, by go_num, by rw [HNX.out]; rfl, by rw [HNX.out]; rfl, R9'.out⟩
                      case measure => simp [intOf]; omega
            · obtain rfl : k = 8 := by omega
              clear hlk hk8
              go_wp2_with fail
              refine RI.out.fqlen.mono ?_
              rintro e w8 ⟨rfl, hr8⟩
              have R8 := Lib.hid hr8
              have d7 : w8.cell? ⟨B, 7, none⟩ = some (.slice o.a o.rs.length o.cap) := by
                have h1 := Whole.cell (show Whole w8 B 37 V from hr8.get1) 7
                rw [h1, ← Array.getElem?_toList, HV.out]
                rfl
              obtain ⟨y, so, hys⟩ : ∃ y so, deqQ (dlyQ o.rs x.c.r) x n2 = (y, so) := ⟨_, _, rfl⟩
              have HYS := Lib.hid hys
              have HE : Hid (Ends (dlyQ o.rs x.c.r) x n2 y so) := Lib.hid (by
                have h1 := deq_ends (d := dlyQ o.rs x.c.r) (now := n2) HXO.out ⟨HN2.out.1, by have := HN2.out; omega⟩ (fun l z => (dlyQ_bd o.hb (r := x.c.r) (by rw [HXC.out]; exact HP.out.hr) l z).1)
                rw [hys] at h1
                exact h1)
              clear hys hr8 RI
              go_wp2_with fail
              refine (R8.out.fqdeqr n2 ⟨HN2.out.1, by have := HN2.out; omega⟩ o.a o.cap o.rs (o.hr.below R8.out.bel) o.hb (R8.out.apart_rs o.hr) HYS.out).mono ?_
              rintro e w9 ⟨rfl, own9, hr9⟩
              have hyo : y.Ok := FQ.ok (show FQ w9 g own9 y from hr9.get0)
              obtain ⟨l1, l2, l3⟩ := ends_least hyo HE.out
              have hm0 := hyo.len
              have R9 := Lib.hid (hr9.less (M := [fqT g own9 y]) (by simp))
              have HCY := Lib.hid (deq_c HYS.out)
              obtain ⟨m, hm⟩ : ∃ m : Nat, lenQ y = m := ⟨_, rfl⟩
              rw [hm] at hm0 l2 l3
              have HM := Lib.hid hm
              clear hr9 R8 d7 HYS HE hyo hm
              cases so with
              | some s9 =>
                obtain ⟨t, hlt8, htn⟩ := l1.1 rfl
                have hl := l3 rfl
                rw [hlt8, show ((lenQ x : Nat) : Int) = (m : Int) + 1 by omega]
                clear l1 l2 l3 hlt8 hl
                dsimp only [Option.getD, Option.isSome, Sg.v]
                have hw1 : wrap64 ((m : Int) + 1 - 1) = (m : Int) := by unfold wrap64; omega
                have RB9 := Lib.hid (R9.out.box1 34 #[.int .i64 s9.s, .int .u64 s9.f, .int .i64 s9.l, .int .u64 s9.t, .bool s9.a])
                go_wp2_with fail
                refine RB9.out.fqlen.mono ?_
                rintro e wa ⟨rfl, hra⟩
                rw [HM.out]
                have RA := Lib.hid hra
                clear hra R9 RB9
                go_upto_region 24 with fail
                clear hw1 htn
                go_wp2_with fail
                refine RA.out.fqdog.mono ?_
                rintro e wb ⟨rfl, hrb⟩
                have RB := Lib.hid (hrb.less (M := [fqT g own9 y]) (by simp))
                clear hrb RA
                go_wp2
                go_roundw
                case rel => exact ⟨j + 1, n2, own9, y, by omega, by omega, by go_num, rfl, HN2.out, HCY.out.trans HXC.out, RB.out⟩
                case measure => simp [intOf]; omega
              | none =>
                obtain ⟨hl, hdog⟩ := l2 rfl
                have hnt : ∀ t, leastN x 8 = some t → ¬ t ≤ n2 := fun t ht hle => by have := l1.2 ⟨t, ht, hle⟩; cases this
                rw [show ((lenQ x : Nat) : Int) = (m : Int) by omega]
                have HDOG := Lib.hid hdog
                clear l1 l2 l3 hl hdog
                dsimp only [Option.getD, Option.isSome, Sg.zero, Sg.v]
                have RB9 := Lib.hid (R9.out.box1 34 #[.int .i64 0, .int .u64 0, .int .i64 0, .int .u64 0, .bool false])
                cases hlo : leastN x 8 with
                | none =>
                  rw [hlo] at HDOG
                  clear hlo hnt
                  dsimp only [Option.getD, Option.isSome]
                  go_wp2_with fail
                  refine RB9.out.fqlen.mono ?_
                  rintro e wa ⟨rfl, hra⟩
                  rw [HM.out]
                  have RA := Lib.hid hra
                  clear hra R9 RB9
                  go_upto_region 24 with fail
                  go_wp2_with fail
                  refine RA.out.fqdog.mono ?_
                  rintro e wb ⟨rfl, hrb⟩
                  rw [(dog_opt _).1, (dog_opt _).2, HDOG.out]
                  dsimp only [Option.getD, Option.isSome]
                  have RB := Lib.hid (hrb.less (M := [fqT g own9 y]) (by simp))
                  clear hrb RA
                  go_wp2
                  go_roundw
                  case rel => exact ⟨j + 1, n2, own9, y, by omega, by omega, by go_num, rfl, HN2.out, HCY.out.trans HXC.out, RB.out⟩
                  case measure => simp [intOf]; omega
                | some t =>
                  have htn := hnt t hlo
                  rw [hlo] at HDOG
                  clear hlo hnt
                  dsimp only [Option.getD, Option.isSome]
                  go_wp2_with fail
                  refine RB9.out.fqlen.mono ?_
                  rintro e wa ⟨rfl, hra⟩
                  rw [HM.out]
                  have RA := Lib.hid hra
                  clear hra R9 RB9
                  go_upto_region 24 with fail
                  go_wp2_with fail
                  refine RA.out.fqdog.mono ?_
                  rintro e wb ⟨rfl, hrb⟩
                  rw [(dog_opt _).1, (dog_opt _).2, HDOG.out]
                  dsimp only [Option.getD, Option.isSome]
                  have RB := Lib.hid (hrb.less (M := [fqT g own9 y]) (by simp))
                  clear hrb RA
                  go_wp2
                  go_roundw
                  case rel => exact ⟨j + 1, n2, own9, y, by omega, by omega, by go_num, rfl, HN2.out, HCY.out.trans HXC.out, RB.out⟩
                  case measure => simp [intOf]; omega
        · go_upto_region 15 with fail
          clear d0 d1
          go_loopw [10, 11, 12] (fun lv av iv wr2 => ∃ k : Nat, k ≤ 8 ∧ iv = .int .i64 k ∧ lv = .int .u64 ((leastN x k).getD 0) ∧ av = .bool (leastN x k).isSome ∧ Room w wr2 [fqT g own' x, blkT B 37 V]) (fun _ _ iv _ => 8 - (intOf iv).toNat)
          case atStart => exact ⟨0, by omega, rfl, rfl, rfl, R10.out⟩
          case round =>
            obtain ⟨k, hk8, rfl, rfl, rfl, hr⟩ := hrel
            have RI := Lib.hid hr
            clear hr R10
            by_cases hlk : k < 8
            · have hik : (k : Int) < 8 := by omega
              have HK8 := Lib.hid hlk
              cases ht : x.T k with
              | false =>
                have HN : Hid (leastN x (k + 1) = leastN x k) := Lib.hid (by
                  show (if x.T k = true ∧ (x.F k).q ≠ [] then _ else _) = _
                  rw [if_neg (fun e => by rw [ht] at e; cases e.1)])
                have HOFF : Hid (¬ ((0 ≤ (k : Int) ∧ (k : Int) < 8) ∧ x.T ((k : Int)).toNat = true)) := Lib.hid (fun e => by
                  have h1 := e.2
                  rw [show ((k : Int)).toNat = k from rfl, ht] at h1
                  cases h1)
                clear ht hlk
                go_wp2_with fail
                refine (RI.out.fqflow_no (k : Int) HOFF.out).mono ?_
                rintro e w8 ⟨rfl, hr8⟩
                have R8 := Lib.hid hr8
                clear hr8 RI
                dsimp only [Fl.v, Fl.zero]
                go_wp2
                go_roundw
                case rel => exact ⟨k + 1, by omega, by go_num, by rw [HN.out], by rw [HN.out], R8.out.alloc _⟩
                case measure => simp [intOf]; omega
              | true =>
                have HTT := Lib.hid ht
                clear ht hlk
                go_wp2_with fail
                refine (RI.out.fqflow_yes HK8.out HTT.out).mono ?_
                rintro e w8 ⟨VV, rfl, hr8⟩
                obtain ⟨va, vc, rfl⟩ := sgs_shape hr8.get1
                have R8 := Lib.hid (hr8.box1 44 #[.int .i64 (x.F k).s, .int .i64 (x.F k).c, .int .i64 (x.F k).p, .int .u64 (x.F k).n, .int .u64 (x.F k).u, .slice va (x.F k).q.length vc])
                clear hr8 RI
                dsimp only [Fl.v]
                have R8' := Lib.hid (R8.out.less (M := [fqT g own' x, blkT B 37 V]) (((List.Sublist.slnil.cons_cons _).cons _ |>.cons _).cons_cons _))
                have hcase : (x.F k).q = [] ∨ ∃ s r, (x.F k).q = s :: r := by
                  cases (x.F k).q with
                  | nil => exact .inl rfl
                  | cons s r => exact .inr ⟨s, r, rfl⟩
                rcases hcase with hq | ⟨s, r, hq⟩
                · have HN : Hid (leastN x (k + 1) = leastN x k) := Lib.hid (by
                    show (if x.T k = true ∧ (x.F k).q ≠ [] then _ else _) = _
                    rw [if_neg (fun e => e.2 hq)])
                  rw [hq] at R8' ⊢
                  clear hq R8
                  simp only [List.length_nil] at R8' ⊢
                  go_wp2
                  go_roundw
                  case rel => exact ⟨k + 1, by omega, by go_num, by rw [HN.out], by rw [HN.out], R8'.out⟩
                  case measure => simp [intOf]; omega
                · have HQ := Lib.hid hq
                  have hm0 : (0 : Int) < ((x.F k).q.length : Int) := by rw [hq]; simp only [List.length_cons]; omega
                  have HNN : Hid (leastN x (k + 1) = match leastN x k with | none => some (timeF (x.F k)) | some t => if timeF (x.F k) < t then some (timeF (x.F k)) else some t) := Lib.hid (by
                    show (if x.T k = true ∧ (x.F k).q ≠ [] then _ else _) = _
                    rw [if_pos ⟨HTT.out, by rw [hq]; exact List.cons_ne_nil _ _⟩]
                    cases leastN x k <;> rfl)
                  clear hq
                  cases hl : leastN x k with
                  | none =>
                    rw [hl] at HNN
                    clear hl
                    dsimp only [Option.getD, Option.isSome]
                    go_wp2_with fail
                    have hVV := R8.out.get2
                    refine (rtime_any (.slice va (x.F k).q.length vc) (x.F k) s r _ HQ.out hVV).mono ?_
                    rintro e w9 ⟨rfl, k9⟩
                    have R9 := Lib.hid (R8'.out.kept k9)
                    clear k9 hVV R8 R8'
                    go_wp2
                    go_roundw
                    case rel => exact ⟨k + 1, by omega, by go_num, by rw [HNN.out]; rfl, by rw [HNN.out]; rfl, R9.out⟩
                    case measure => simp [intOf]; omega
                  | some t =>
                    rw [hl] at HNN
                    clear hl
                    dsimp only [Option.getD, Option.isSome]
                    have hVV := R8.out.get2
                    go_wp2_with fail
                    refine (rtime_any (.slice va (x.F k).q.length vc) (x.F k) s r _ HQ.out hVV).mono ?_
                    rintro e w9 ⟨rfl, k9⟩
                    have R9 := Lib.hid (R8.out.kept k9); have R9' := Lib.hid (R8'.out.kept k9)
                    clear k9 hVV R8 R8'
                    have b0 : w9.cell? ⟨w8.heap.size, 0, none⟩ = some (.int .i64 (x.F k).s) := Whole.cell R9.out.get1 0
                    have b1 : w9.cell? ⟨w8.heap.size, 1, none⟩ = some (.int .i64 (x.F k).c) := Whole.cell R9.out.get1 1
                    have b2 : w9.cell? ⟨w8.heap.size, 2, none⟩ = some (.int .i64 (x.F k).p) := Whole.cell R9.out.get1 2
                    have b3 : w9.cell? ⟨w8.heap.size, 3, none⟩ = some (.int .u64 (x.F k).n) := Whole.cell R9.out.get1 3
                    have b4 : w9.cell? ⟨w8.heap.size, 4, none⟩ = some (.int .u64 (x.F k).u) := Whole.cell R9.out.get1 4
                    have b5 : w9.cell? ⟨w8.heap.size, 5, none⟩ = some (.slice va (x.F k).q.length vc) := Whole.cell R9.out.get1 5
                    by_cases hlt2 : timeF (x.F k) < t
                    · have hVV := R9.out.get2
                      go_wp2_with fail
                      refine (rtime_any (.slice va (x.F k).q.length vc) (x.F k) s r _ HQ.out hVV).mono ?_
                      rintro e wa ⟨rfl, ka⟩
                      have RA := Lib.hid (R9'.out.kept ka)
                      have HNX : Hid (leastN x (k + 1) = some (timeF (x.F k))) := Lib.hid (by rw [HNN.out]; exact if_pos hlt2)
                      clear ka hVV R9 R9' b0 b1 b2 b3 b4 b5
                      go_wp2
                      go_roundw
                      case rel => exact ⟨k + 1, by omega, by go_num, by rw [HNX.out]; rfl, by rw [HNX.out]; rfl, RA.out⟩
                      case measure => simp [intOf]; omega
                    · have HNX : Hid (leastN x (k + 1) = some t) := Lib.hid (by rw [HNN.out]; exact if_neg hlt2)
                      clear R9 b0 b1 b2 b3 b4 b5
                      go_wp2
                      go_roundw
                      case rel => exact ⟨k + 1, by omega, by go_num, by rw [HNX.out]; rfl, by rw [HNX.out]; rfl, R9'.out⟩
                      case measure => simp [intOf]; omega
            · obtain rfl : k = 8 := by omega
              clear hlk hk8
              go_wp2_with fail
              refine RI.out.fqlen.mono ?_
              rintro e w8 ⟨rfl, hr8⟩
              have R8 := Lib.hid hr8
              have d7 : w8.cell? ⟨B, 7, none⟩ = some (.slice o.a o.rs.length o.cap) := by
                have h1 := Whole.cell (show Whole w8 B 37 V from hr8.get1) 7
                rw [h1, ← Array.getElem?_toList, HV.out]
                rfl
              obtain ⟨y, so, hys⟩ : ∃ y so, deqQ (dlyQ o.rs x.c.r) x n2 = (y, so) := ⟨_, _, rfl⟩
              have HYS := Lib.hid hys
              have HE : Hid (Ends (dlyQ o.rs x.c.r) x n2 y so) := Lib.hid (by
                have h1 := deq_ends (d := dlyQ o.rs x.c.r) (now := n2) HXO.out ⟨HN2.out.1, by have := HN2.out; omega⟩ (fun l z => (dlyQ_bd o.hb (r := x.c.r) (by rw [HXC.out]; exact HP.out.hr) l z).1)
                rw [hys] at h1
                exact h1)
              clear hys hr8 RI
              go_wp2_with fail
              refine (R8.out.fqdeqr n2 ⟨HN2.out.1, by have := HN2.out; omega⟩ o.a o.cap o.rs (o.hr.below R8.out.bel) o.hb (R8.out.apart_rs o.hr) HYS.out).mono ?_
              rintro e w9 ⟨rfl, own9, hr9⟩
              have hyo : y.Ok := FQ.ok (show FQ w9 g own9 y from hr9.get0)
              obtain ⟨l1, l2, l3⟩ := ends_least hyo HE.out
              have hm0 := hyo.len
              have R9 := Lib.hid (hr9.less (M := [fqT g own9 y]) (by simp))
              have HCY := Lib.hid (deq_c HYS.out)
              obtain ⟨m, hm⟩ : ∃ m : Nat, lenQ y = m := ⟨_, rfl⟩
              rw [hm] at hm0 l2 l3
              have HM := Lib.hid hm
              clear hr9 R8 d7 HYS HE hyo hm
              cases so with
              | some s9 =>
                obtain ⟨t, hlt8, htn⟩ := l1.1 rfl
                have hl := l3 rfl
                rw [hlt8, show ((lenQ x : Nat) : Int) = (m : Int) + 1 by omega]
                clear l1 l2 l3 hlt8 hl
                dsimp only [Option.getD, Option.isSome, Sg.v]
                have hw1 : wrap64 ((m : Int) + 1 - 1) = (m : Int) := by unfold wrap64; omega
                have RB9 := Lib.hid (R9.out.box1 34 #[.int .i64 s9.s, .int .u64 s9.f, .int .i64 s9.l, .int .u64 s9.t, .bool s9.a])
                go_wp2_with fail
                refine RB9.out.fqlen.mono ?_
                rintro e wa ⟨rfl, hra⟩
                rw [HM.out]
                have RA := Lib.hid hra
                clear hra R9 RB9
                go_upto_region 24 with fail
                clear hw1 htn
                go_wp2_with fail
                refine RA.out.fqdog.mono ?_
                rintro e wb ⟨rfl, hrb⟩
                have RB := Lib.hid (hrb.less (M := [fqT g own9 y]) (by simp))
                clear hrb RA
                go_wp2
                go_roundw
                case rel => exact ⟨j + 1, n2, own9, y, by omega, by omega, by go_num, rfl, HN2.out, HCY.out.trans HXC.out, RB.out⟩
                case measure => simp [intOf]; omega
              | none =>
                obtain ⟨hl, hdog⟩ := l2 rfl
                have hnt : ∀ t, leastN x 8 = some t → ¬ t ≤ n2 := fun t ht hle => by have := l1.2 ⟨t, ht, hle⟩; cases this
                rw [show ((lenQ x : Nat) : Int) = (m : Int) by omega]
                have HDOG := Lib.hid hdog
                clear l1 l2 l3 hl hdog
                dsimp only [Option.getD, Option.isSome, Sg.zero, Sg.v]
                have RB9 := Lib.hid (R9.out.box1 34 #[.int .i64 0, .int .u64 0, .int .i64 0, .int .u64 0, .bool false])
                cases hlo : leastN x 8 with
                | none =>
                  rw [hlo] at HDOG
                  clear hlo hnt
                  dsimp only [Option.getD, Option.isSome]
                  go_wp2_with fail
                  refine RB9.out.fqlen.mono ?_
                  rintro e wa ⟨rfl, hra⟩
                  rw [HM.out]
                  have RA := Lib.hid hra
                  clear hra R9 RB9
                  go_upto_region 24 with fail
                  go_wp2_with fail
                  refine RA.out.fqdog.mono ?_
                  rintro e wb ⟨rfl, hrb⟩
                  rw [(dog_opt _).1, (dog_opt _).2, HDOG.out]
                  dsimp only [Option.getD, Option.isSome]
                  have RB := Lib.hid (hrb.less (M := [fqT g own9 y]) (by simp))
                  clear hrb RA
                  go_wp2
                  go_roundw
                  case rel => exact ⟨j + 1, n2, own9, y, by omega, by omega, by go_num, rfl, HN2.out, HCY.out.trans HXC.out, RB.out⟩
                  case measure => simp [intOf]; omega
                | some t =>
                  have htn := hnt t hlo
                  rw [hlo] at HDOG
                  clear hlo hnt
                  dsimp only [Option.getD, Option.isSome]
                  go_wp2_with fail
                  refine RB9.out.fqlen.mono ?_
                  rintro e wa ⟨rfl, hra⟩
                  rw [HM.out]
                  have RA := Lib.hid hra
                  clear hra R9 RB9
                  go_upto_region 24 with fail
                  go_wp2_with fail
                  refine RA.out.fqdog.mono ?_
                  rintro e wb ⟨rfl, hrb⟩
                  rw [(dog_opt _).1, (dog_opt _).2, HDOG.out]
                  dsimp only [Option.getD, Option.isSome]
                  have RB := Lib.hid (hrb.less (M := [fqT g own9 y]) (by simp))
                  clear hrb RA
                  go_wp2
                  go_roundw
                  case rel => exact ⟨j + 1, n2, own9, y, by omega, by omega, by go_num, rfl, HN2.out, HCY.out.trans HXC.out, RB.out⟩
                  case measure => simp [intOf]; omega
      · have hb2 : (o.k != 2) = true := by simp; omega
        have hb3 : (o.k != 3) = true := by simp; omega
        have d2 := HCL.out 2 _ rfl; have d3 := HCL.out 3 _ rfl; have d4 := HCL.out 4 _ rfl; have d5 := HCL.out 5 _ rfl; have d6 := HCL.out 6 _ rfl
        clear hk
        go_wp2_with fail
        refine (plays_any o.s w6).mono ?_
        rintro e w7 ⟨z, l, rfl, hz, hl, k7⟩
        have R11 := Lib.hid (R10.out.kept k7)
        have HS := Lib.hid (⟨hz, hl⟩ : (0 ≤ z ∧ z < 8) ∧ 1 ≤ l ∧ l ≤ 65536)
        clear k7 hz hl R10 d0 d1 d2 d3 d4 d5 d6 HCL
        dsimp only [Sg.v]
        go_wp2_with fail
        refine (R11.out.fqenq ⟨z, o.s.f, l, o.s.t, o.s.a⟩ n2 ⟨HN2.out.1, by have := HN2.out; omega⟩ o.hs.1 o.hs.2).mono ?_
        rintro e w8 ⟨rfl, own8, hr8⟩
        have R12 := Lib.hid (hr8.less (M := [fqT g own8 (enqQ x ⟨z, o.s.f, l, o.s.t, o.s.a⟩ n2)]) (by simp))
        clear hr8 R11
        go_wp2
        go_roundw
        case rel => exact ⟨j + 1, n2, own8, _, by omega, by omega, by go_num, rfl, HN2.out, (enq_c _ _ _).trans HXC.out, R12.out⟩
        case measure => simp [intOf]; omega
    · have hlt2 : ¬ (j : Int) < (zs.length : Int) ∨ ¬ (j : Int) < 80 := by omega
      clear hlt
      rcases hlt2 with h | h
      · go_wp2
        go_ret
        exact ⟨rfl, R.out.bel⟩
      · by_cases h2 : (j : Int) < (zs.length : Int)
        · go_wp2
          go_ret
          exact ⟨rfl, R.out.bel⟩
        · go_wp2
          go_ret
          exact ⟨rfl, R.out.bel⟩
end Go.Proofs.Ytnljjdfajmjdjaa
