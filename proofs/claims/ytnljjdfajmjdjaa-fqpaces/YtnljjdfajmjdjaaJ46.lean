/-
  canterlaw20.FqPaces, walked. Conditions: numbers are of their kind.
-/
import Derived.Test.YtnljjdfajmjdjaaJ34
import Derived.Test.YtnljjdfajmjdjaaJ43
import Derived.LoopTactic
namespace Go.Proofs.Ytnljjdfajmjdjaa
open Go.RowKit
set_option maxRecDepth 100000
set_option linter.unusedSimpArgs false
set_option linter.unusedVariables false

/-- Eight numbers. -/
def nxC (nx : Nat → Int) : Array Value := #[.int .u64 (nx 0), .int .u64 (nx 1), .int .u64 (nx 2), .int .u64 (nx 3), .int .u64 (nx 4), .int .u64 (nx 5), .int .u64 (nx 6), .int .u64 (nx 7)]
theorem nxC_get (nx : Nat → Int) {k : Nat} (hk : k < 8) : (nxC nx)[k]? = some (.int .u64 (nx k)) := by
  match k, hk with
  | 0, _ => rfl
  | 1, _ => rfl
  | 2, _ => rfl
  | 3, _ => rfl
  | 4, _ => rfl
  | 5, _ => rfl
  | 6, _ => rfl
  | 7, _ => rfl
theorem nxC_set (nx : Nat → Int) {k : Nat} {v : Int} (hk : k < 8) : (nxC nx).setIfInBounds k (.int .u64 v) = nxC (upF nx k v) := by
  match k, hk with
  | 0, _ => rfl
  | 1, _ => rfl
  | 2, _ => rfl
  | 3, _ => rfl
  | 4, _ => rfl
  | 5, _ => rfl
  | 6, _ => rfl
  | 7, _ => rfl
set_option maxRecDepth 100000 in
set_option maxHeartbeats 4000000 in
theorem paces_walk (c : Cf) (a : Option Addr) (cap : Nat) (hc : U64 c.h ∧ U64 c.r) (w : World) (zs : List (FOp w)) (hzl : zs.length ≤ 9223372036854775807) (hrd : RdL 18 cells18 w a zs) :
    Calls Try.prog 3 #[c.v, .slice a zs.length cap] w fun e w' => e = .returned (.bool true) ∧ Below w.heap.size w w' := by
  have HC := Lib.hid hc; have HRD := Lib.hid hrd; have HZL := Lib.hid hzl
  have R0 := Lib.hid ((Room.begin w).box 24 (confL c).toArray)
  obtain ⟨w1, hw1⟩ : ∃ w1, w1 = w.alloc (.cells (confL c).toArray 24) := ⟨_, rfl⟩
  rw [← hw1] at R0
  unfold confL at hw1
  clear hc hrd hzl
  dsimp only [Cf.v]
  go_enter Try.func3, Try.ntmps3
  go_wp2_with fail
  rw [← hw1]
  clear hw1
  refine (playc_any c HC.out.2 HC.out.1 w1).mono ?_
  rintro e w2 ⟨p, rfl, hp, k2⟩
  have R2 := Lib.hid (R0.out.kept k2); have HP := Lib.hid hp
  clear k2 hp R0
  have HT := Lib.hid (there_conf (show Whole w2 w.heap.size 24 (confL c).toArray from R2.out.get0))
  go_upto_region 2 with (refine wpList_store_mid rfl 24 (.tmp 2) (.tmp 18) rfl w.heap.size 0 (confL p).toArray rfl rfl HT.out Try.size24 (one_conf p) ?_)
  have R3 := Lib.hid (R2.out.step0 (t' := confT w.heap.size p) (whole_conf R2.out.get0) (Keep.setCells (S := fun k => k = w.heap.size) rfl (confL p) 0 (Keep.refl _ w2)) (fun k e => .inl e))
  try rw [show (confL p).toArray.toList = confL p from rfl]
  clear HT R2
  generalize World.setCells w2 _ _ _ = w3 at *
  obtain ⟨b0, b1, b2, b3, b4, b5, b6, b7, b8⟩ := nine_of (show Whole w3 w.heap.size 24 (confL p).toArray from R3.out.get0)
  go_wp2_with fail
  refine (R3.out.fqnew p HP.out).mono ?_
  rintro e w4 ⟨g, own, rfl, hr4⟩
  have R4 := Lib.hid hr4
  clear hr4 R3 b0 b1 b2 b3 b4 b5 b6 b7 b8
  go_wp2_with fail
  refine (awakef_any w4).mono ?_
  rintro e w5 ⟨rfl, k5⟩
  have R5 := Lib.hid ((R4.out.kept k5).box1 32 (nxC fun _ => 0))
  clear k5 R4
  go_upto_region 8 with fail
  rw [show #[Value.int .u64 0, .int .u64 0, .int .u64 0, .int .u64 0, .int .u64 0, .int .u64 0, .int .u64 0, .int .u64 0] = nxC fun _ => 0 from rfl]
  generalize hNB : w5.heap.size = NB at *
  generalize World.alloc w5 _ = w6 at *
  clear hNB
  go_loopw [7, 9] (fun nv i wr => ∃ (j : Nat) (nw : Int) (own' : Nat → Prop) (x : Qm) (nx : Nat → Int), j ≤ zs.length ∧ j ≤ 100 ∧ i = .int .i64 j ∧ nv = .int .u64 nw ∧ (0 ≤ nw ∧ nw ≤ 4611686018427387904) ∧ x.c = p ∧ Pace x nx nw ∧ Near x nw ∧ Room w wr [fqT g own' x, blkT NB 32 (nxC nx), confT w.heap.size p]) (fun _ i _ => 100 - (intOf i).toNat)
  case atStart => exact ⟨0, 0, own, _, _, by omega, by omega, rfl, rfl, by omega, rfl, fun k hk => .inl (Int.le_refl 0), fun i hi ht => (by cases ht), R5.out⟩
  case round =>
    obtain ⟨j, nw, own', x, nx, hj1, hj2, rfl, rfl, hnw, hxc, hpc, hnr, hr⟩ := hrel
    have R := Lib.hid hr; have HXC := Lib.hid hxc; have HNW := Lib.hid hnw; have HPC := Lib.hid hpc; have HNR := Lib.hid hnr
    clear hr hxc hnw R5 hpc hnr
    by_cases hlt : j < zs.length ∧ j < 100
    · have hi1 : (j : Int) < (zs.length : Int) := by omega
      have hi2 : (j : Int) < 100 := by omega
      obtain ⟨o, ho⟩ : ∃ o, zs[j]? = some o := ⟨_, List.getElem?_eq_getElem hlt.1⟩
      obtain ⟨b, off, ea, hbl, hcl⟩ := (HRD.out.below R.out.bel) j o ho
      subst ea
      obtain ⟨V, hV⟩ : ∃ V : Array Value, V = (cells18 o).toArray := ⟨_, rfl⟩
      have HV : Hid (V.toList = cells18 o) := Lib.hid (by rw [hV])
      have HRV := Lib.hid (show wr.rangeAt b (off + j * 18) V.toList from fun t u hu => by rw [hV] at hu; exact hcl t u (by simpa using hu))
      have HSZ : Hid ((Try.prog.info? 37).map (·.size) = some V.toList.length) := Lib.hid (by rw [HV.out]; exact Try.size37)
      have HSZ' : Hid ((Try.prog.info? 37).map (·.size) = some V.size) := Lib.hid (by rw [hV]; exact Try.size37)
      have HONE : Hid (V.all (·.oneCell') = true) := Lib.hid (by rw [hV]; exact one_op o)
      clear hcl hV
      go_upto_region 10 with fail
      obtain ⟨Z, hZ⟩ : ∃ Z : Array Value, Z = #[.int .i64 0, .int .u64 0, .int .i64 0, .int .u64 0, .int .i64 0, .int .u64 0, .bool false, .slice none 0 0, .int .i64 0, .int .i64 0, .int .i64 0, .int .i64 0, .int .u64 0, .int .u64 0, .bool false, .int .i64 0, .int .i64 0, .bool false] := ⟨_, rfl⟩
      have hzw := Whole.new wr 37 Z
      have HT := Lib.hid (show (wr.alloc (.cells Z 37)).there wr.heap.size 0 V.size from fun t ht => by
        rw [Nat.zero_add]
        have h18 : t < 18 := by rw [← Array.length_toList (xs := V), HV.out] at ht; exact ht
        exact ⟨by rw [hzw.cell, Array.getElem?_eq_getElem (by rw [hZ]; simpa using h18)]; rfl, hzw.free t⟩)
      have HW := Lib.hid (hzw.puts V.toList 0)
      have R9 := Lib.hid (R.out.box1 37 Z)
      have HZS : Hid (V.size = Z.size) := Lib.hid (by rw [hZ, ← Array.length_toList (xs := V), HV.out]; rfl)
      clear hzw
      rw [hZ] at HT HW R9
      go_upto_region 11 with (first
        | (refine wpList_load_mid rfl 37 (.tmp 46) rfl b (off + j * 18) rfl V.toList _ HRV.out Try.underlying37 rfl HSZ.out ?_)
        | (refine wpList_store_mid rfl 37 (.tmp 10) (.tmp 47) rfl wr.heap.size 0 V rfl rfl HT.out HSZ'.out HONE.out ?_))
      have R10 := Lib.hid (R9.out.step1 (t' := blkT wr.heap.size 37 V) (show Whole _ wr.heap.size 37 V from (by have h := HW.out; rwa [lay_full _ V (by rw [HZS.out, hZ])] at h)) (Keep.setCells (S := fun k => k = wr.heap.size) rfl V.toList 0 (Keep.refl _ _)) (fun k e => .inl e))
      clear hZ HT HW R9 HZS HSZ HSZ' HONE HRV hbl R
      generalize hB : wr.heap.size = B at *
      generalize World.setCells _ _ _ _ = w7 at *
      clear hB
      have HCL := Lib.hid (show ∀ t u, (cells18 o)[t]? = some u → w7.cell? ⟨B, t, none⟩ = some u from fun t u hu => by
        have h1 := Whole.cell (show Whole w7 B 37 V from R10.out.get1) t
        rw [h1, ← hu, ← HV.out]
        simp)
      have d0 := HCL.out 0 _ rfl; have d1 := HCL.out 1 _ rfl
      obtain ⟨gp, hgp⟩ : ∃ gp, o.g % 2000000000 = gp := ⟨_, rfl⟩
      have hgt : o.g.tmod 2000000000 = gp := by rw [Int.tmod_eq_emod_of_nonneg o.hg.1]; exact hgp
      have HGP : Hid (0 ≤ gp ∧ gp < 2000000000) := Lib.hid (by omega)
      go_wp2_with fail
      try simp only [hgp, hgt]
      refine (radd_any nw gp HNW.out.1 (by have := HNW.out; omega) HGP.out.1 (by have := HGP.out; omega) _).mono ?_
      rintro e w8 ⟨rfl, rfl⟩
      clear hgp hgt
      go_upto_region 12 with fail
      obtain ⟨n2, hn2⟩ : ∃ n2, (if (4611686018427387904 : Int) < satAdd nw gp then (4611686018427387904 : Int) else satAdd nw gp) = n2 := ⟨_, rfl⟩
      rw [hn2]
      have HN2 : Hid ((0 ≤ n2 ∧ n2 ≤ 4611686018427387904) ∧ nw ≤ n2) := Lib.hid (by
        have h0 : nw ≤ satAdd nw gp := by unfold satAdd; have := HNW.out; have := HGP.out; split <;> omega
        have h1 := HNW.out
        rw [← hn2]
        split <;> omega)
      clear hn2 HGP HNW
      have HPC2 := Lib.hid (HPC.out.more HN2.out.2); have HNR2 := Lib.hid (HNR.out.more HN2.out.2)
      have HU2 : Hid (U64 n2) := Lib.hid ⟨HN2.out.1.1, by have := HN2.out.1.2; omega⟩
      clear HPC HNR
      by_cases hk : o.k = 2 ∨ o.k = 3
      · have hxo : x.Ok := FQ.ok (show FQ w7 g own' x from R10.out.get0)
        have HXO := Lib.hid hxo
        have hkk : (o.k != 2) = false ∨ ((o.k != 2) = true ∧ (o.k != 3) = false) := by
          by_cases h2 : o.k = 2
          · left; simp [h2]
          · right; exact ⟨by simp [h2], by simp; omega⟩
        clear hxo hk
        rcases hkk with h1 | ⟨h1, h2⟩
        · go_upto_region 20 with fail
          clear d0 d1
          have d7 : w7.cell? ⟨B, 7, none⟩ = some (.slice o.a o.rs.length o.cap) := HCL.out 7 _ rfl
          obtain ⟨y, so, hys⟩ : ∃ y so, deqQ (dlyQ o.rs x.c.r) x n2 = (y, so) := ⟨_, _, rfl⟩
          have HYS := Lib.hid hys
          have HD := Lib.hid (fun l z => dlyQ_bd o.hb (r := x.c.r) (by rw [HXC.out]; exact HP.out.hr) l z)
          have HE : Hid (Ends (dlyQ o.rs x.c.r) x n2 y so) := Lib.hid (by
            have h1 := deq_ends (d := dlyQ o.rs x.c.r) (now := n2) HXO.out HU2.out (fun l z => (HD.out l z).1)
            rw [hys] at h1
            exact h1)
          have HNY : Hid (Near y n2) := Lib.hid (by
            have h1 := near_deq (d := dlyQ o.rs x.c.r) (now := n2) HXO.out HU2.out HD.out HNR2.out
            rw [hys] at h1
            exact h1)
          clear hys
          go_wp2_with fail
          refine (R10.out.fqdeqr n2 HU2.out o.a o.cap o.rs (o.hr.below R10.out.bel) o.hb (R10.out.apart_rs o.hr) HYS.out).mono ?_
          rintro e w8 ⟨rfl, own9, hr9⟩
          have HCY := Lib.hid ((deq_c HYS.out).trans HXC.out)
          clear d7 HYS HD
          cases so with
          | none =>
            have R9 := Lib.hid ((hr9.alloc (.cells #[.int .i64 0, .int .u64 0, .int .i64 0, .int .u64 0, .bool false] 34)).less (M := [fqT g own9 y, blkT NB 32 (nxC nx), confT w.heap.size p]) ((List.Sublist.refl _).cons _ |>.cons_cons _))
            clear hr9 R10
            dsimp only [Option.getD, Option.isSome, Sg.zero, Sg.v]
            go_wp2
            go_roundw
            case rel => exact ⟨j + 1, n2, own9, y, nx, by omega, by omega, by go_num, rfl, HN2.out.1, HCY.out, HPC2.out.none HE.out, HNY.out, R9.out⟩
            case measure => simp [intOf]; omega
          | some s9 =>
            have HSL : Hid (s9.l ≤ 9223372036854775807) := Lib.hid (by
              have h1 := HE.out
              cases h1 with
              | some a =>
                have h2 := ((HXO.out.is _ a.hi a.hT).hq s9 (by rw [a.hq]; exact List.mem_cons_self ..)).hl.2
                omega)
            obtain ⟨hs1, hs2, hs3, hs4⟩ := HPC2.out.some HE.out
            obtain ⟨ss, sf, sl, st, sa⟩ := s9
            obtain ⟨i, rfl⟩ : ∃ i : Nat, ss = (i : Int) := ⟨ss.toNat, by dsimp only at hs1; omega⟩
            dsimp only at hs1 hs2 hs3 hs4 HSL
            rw [show ((i : Int)).toNat = i from rfl] at hs2 hs4
            have hi8 : (i : Int) < 8 := hs1.2
            have HI : Hid (i < 8) := Lib.hid (by omega)
            have HPY := Lib.hid hs4
            have R9 := Lib.hid (hr9.box3 34 #[.int .i64 (i : Int), .int .u64 sf, .int .i64 sl, .int .u64 st, .bool sa])
            clear hr9 R10 hs1 hs4 HE HPC2
            dsimp only [Option.getD, Option.isSome, Sg.v]
            go_upto_region 22 with fail
            generalize hSB : w8.heap.size = SB at *
            generalize World.alloc w8 _ = w9 at *
            clear hSB
            have c0 : w9.cell? ⟨SB, 0, none⟩ = some (.int .i64 (i : Int)) := Whole.cell (R9.out.get3) 0
            have c3 : w9.cell? ⟨SB, 3, none⟩ = some (.int .u64 st) := Whole.cell (R9.out.get3) 3
            have cn : w9.cell? ⟨NB, i, none⟩ = some (.int .u64 (nx i)) := (Whole.cell (show Whole w9 NB 32 _ from R9.out.get2) i).trans (nxC_get _ HI.out)
            have hn1 : ¬ n2 < nx i := by omega
            have hn2' : ¬ n2 < st := by omega
            go_upto_region 25 with fail
            have d7 : w9.cell? ⟨B, 7, none⟩ = some (.slice o.a o.rs.length o.cap) := by
              have h1 := Whole.cell (show Whole w9 B 37 V from R9.out.get1) 7
              rw [h1, ← Array.getElem?_toList, HV.out]
              rfl
            obtain ⟨r, hr⟩ : ∃ r, rateAt o.rs i = r := ⟨_, rfl⟩
            have HRF : Hid (U64 r) := Lib.hid (hr ▸ rateAt_fit o.hb i)
            have HDL : Hid (dlyQ o.rs x.c.r sl (i : Int) = delV sl (lesV r p.r)) := Lib.hid (by rw [← hr, HXC.out]; rfl)
            clear c3 cn hn1 hn2'
            by_cases hir : i < o.rs.length
            · have hir2 : (i : Int) < (o.rs.length : Int) := by omega
              obtain ⟨rb, ro, ea, hlt, rc⟩ := (o.hr.below R9.out.bel) i hir
              rw [show o.rs.getD i 0 = r by rw [← hr]; unfold rateAt; rw [List.getD_eq_getElem?_getD, List.getD_eq_getElem?_getD, List.getElem?_eq_getElem hir]; rfl] at rc
              rw [ea] at d7
              clear hr ea hlt
              go_upto_region 27 with fail
              clear rc hir2 d7 c0 hir
              have c0 : w9.cell? ⟨SB, 0, none⟩ = some (.int .i64 (i : Int)) := Whole.cell (R9.out.get3) 0
              have c2 : w9.cell? ⟨SB, 2, none⟩ = some (.int .i64 sl) := Whole.cell (R9.out.get3) 2
              have c5 : w9.cell? ⟨w.heap.size, 5, none⟩ = some (.int .u64 p.r) := Whole.cell (R9.out.nth 4 (t := confT w.heap.size p) rfl) 5
              refine wp_region_sch (fun W => W.cell? ⟨SB, 0, none⟩ = some (.int .i64 (i : Int)) ∧ W.cell? ⟨SB, 2, none⟩ = some (.int .i64 sl) ∧ W.cell? ⟨w.heap.size, 5, none⟩ = some (.int .u64 p.r)) [(true, 0), (true, 1), (true, 2), (true, 3), (true, 4), (true, 5), (true, 6), (true, 7), (false, 8), (false, 9), (false, 10), (true, 11), (false, 12)] (by kernel_rfl) (by kernel_rfl) (by kernel_rfl) (by kernel_rfl) ⟨c0, c2, c5⟩ ?_
              have RD := Lib.hid R9.out.drew
              clear c0 c2 c5 R9
              generalize w9.drew = wd at *
              have HSC := Lib.hid (show wd.cell? ⟨SB, 0, none⟩ = some (.int .i64 (i : Int)) ∧ wd.cell? ⟨SB, 2, none⟩ = some (.int .i64 sl) ∧ wd.cell? ⟨w.heap.size, 5, none⟩ = some (.int .u64 p.r) from ⟨Whole.cell (RD.out.get3) 0, Whole.cell (RD.out.get3) 2, Whole.cell (RD.out.nth 4 (t := confT w.heap.size p) rfl) 5⟩)
              (repeat (refine wpSch_yes (v := ?_) rfl (fun _ _ _ h => h) (by rfl) ?_ ?_; rotate_left; (next => (intro w hSw; (try dsimp only at hSw); obtain ⟨hS1, hS2, hS3⟩ := hSw; go_simp; (try with_reducible rfl))); (try simp only [Act.put, List.setIfInBounds_toArray, List.set_cons_zero, List.set_cons_succ])))
              refine wpSch_call rfl (by rfl) (fun K hK => ?_); go_simp
              refine (rles_any r p.r HRF.out.1 HRF.out.2 HP.out.hr.1 HP.out.hr.2 wd).mono ?_
              rintro e we ⟨rfl, rfl⟩
              refine hK.out _ _ HSC.out (fun hHeld => ?_)
              clear hK K hHeld
              (try simp only [Act.put, List.setIfInBounds_toArray, List.set_cons_zero, List.set_cons_succ])
              refine wpSch_call rfl (by rfl) (fun K hK => ?_); go_simp
              have hlb := lesV_bd HRF.out.1 HRF.out.2 HP.out.hr.1 HP.out.hr.2
              refine (rdel_any sl (lesV r p.r) HSL.out (by omega) hlb.2 wd).mono ?_
              rintro e we ⟨rfl, rfl⟩
              have HDB := Lib.hid (delV_bd sl (r := lesV r p.r) (by omega))
              rw [← HDL.out]
              rw [← HDL.out] at HDB
              clear hlb
              refine hK.out _ _ HSC.out (fun hHeld => ?_)
              clear hK K hHeld
              (try simp only [Act.put, List.setIfInBounds_toArray, List.set_cons_zero, List.set_cons_succ])
              refine wpSch_call rfl (by rfl) (fun K hK => ?_); go_simp
              refine (radd_any n2 (dlyQ o.rs x.c.r sl (i : Int)) HU2.out.1 HU2.out.2 HDB.out.1 (by have := HDB.out.2; omega) wd).mono ?_
              rintro e we ⟨rfl, rfl⟩
              rw [show satAdd n2 (dlyQ o.rs x.c.r sl (i : Int)) = addS n2 (dlyQ o.rs x.c.r sl (i : Int)) from rfl]
              obtain ⟨nv, hnv⟩ : ∃ nv, addS n2 (dlyQ o.rs x.c.r sl (i : Int)) = nv := ⟨_, rfl⟩
              rw [hnv] at HPY ⊢
              clear hnv
              refine hK.out _ _ HSC.out (fun hHeld => ?_)
              clear hK K hHeld
              (try simp only [Act.put, List.setIfInBounds_toArray, List.set_cons_zero, List.set_cons_succ])
              (repeat (refine wpSch_yes (v := ?_) rfl (fun _ _ _ h => h) (by rfl) ?_ ?_; rotate_left; (next => (intro w hSw; (try dsimp only at hSw); obtain ⟨hS1, hS2, hS3⟩ := hSw; go_simp; (try with_reducible rfl))); (try simp only [Act.put, List.setIfInBounds_toArray, List.set_cons_zero, List.set_cons_succ])))
              have cn : wd.cell? ⟨NB, i, none⟩ = some (.int .u64 (nx i)) := (Whole.cell (show Whole wd NB 32 _ from RD.out.get2) i).trans (nxC_get _ HI.out)
              have fn : wd.frozen? ⟨NB, i, none⟩ = false := Whole.free (show Whole wd NB 32 _ from RD.out.get2) i
              have hw := Whole.put (show Whole wd NB 32 _ from RD.out.get2) i (.int .u64 nv)
              rw [nxC_set _ HI.out] at hw
              have RE := Lib.hid (RD.out.step2 (t' := blkT NB 32 (nxC (upF nx i nv))) hw ((Keep.refl (fun k => k = NB) wd).setCell (p := ⟨NB, i, none⟩) (.inl rfl) _) (fun k e => .inl e))
              clear hw RD HSC
              refine wpSch_call rfl (by rfl) (fun K hK => ?_); go_simp
              refine hK.out _ _ ⟨Whole.cell (RE.out.get3) 0, Whole.cell (RE.out.get3) 2, Whole.cell (RE.out.nth 4 (t := confT w.heap.size p) rfl) 5⟩ (fun hHeld => ?_)
              clear hK K hHeld cn fn
              generalize World.setCell wd _ _ = wf at *
              (try simp only [Act.put, List.setIfInBounds_toArray, List.set_cons_zero, List.set_cons_succ])
              refine wpSch_nil ?_
              have RF := Lib.hid (RE.out.less (M := [fqT g own9 y, blkT NB 32 (nxC (upF nx i nv)), confT w.heap.size p]) (((List.Sublist.refl _).cons _ |>.cons_cons _).cons _ |>.cons_cons _))
              clear RE
              go_wp2
              go_roundw
              case rel => exact ⟨j + 1, n2, own9, y, _, by omega, by omega, by go_num, rfl, HN2.out.1, HCY.out, HPY.out, HNY.out, RF.out⟩
              case measure => simp [intOf]; omega
            · have hir2 : ¬ (i : Int) < (o.rs.length : Int) := by omega
              rw [show r = 18446744073709551615 by rw [← hr]; unfold rateAt; rw [List.getD_eq_getElem?_getD, List.getElem?_eq_none (by omega)]; rfl] at HRF HDL
              clear hr
              go_upto_region 27 with fail
              clear hir2 d7 c0 hir
              obtain ⟨r, hr⟩ : ∃ r : Int, r = 18446744073709551615 := ⟨_, rfl⟩
              rw [← hr] at HRF HDL ⊢
              clear hr
              have c0 : w9.cell? ⟨SB, 0, none⟩ = some (.int .i64 (i : Int)) := Whole.cell (R9.out.get3) 0
              have c2 : w9.cell? ⟨SB, 2, none⟩ = some (.int .i64 sl) := Whole.cell (R9.out.get3) 2
              have c5 : w9.cell? ⟨w.heap.size, 5, none⟩ = some (.int .u64 p.r) := Whole.cell (R9.out.nth 4 (t := confT w.heap.size p) rfl) 5
              refine wp_region_sch (fun W => W.cell? ⟨SB, 0, none⟩ = some (.int .i64 (i : Int)) ∧ W.cell? ⟨SB, 2, none⟩ = some (.int .i64 sl) ∧ W.cell? ⟨w.heap.size, 5, none⟩ = some (.int .u64 p.r)) [(true, 0), (true, 1), (true, 2), (true, 3), (true, 4), (true, 5), (true, 6), (true, 7), (false, 8), (false, 9), (false, 10), (true, 11), (false, 12)] (by kernel_rfl) (by kernel_rfl) (by kernel_rfl) (by kernel_rfl) ⟨c0, c2, c5⟩ ?_
              have RD := Lib.hid R9.out.drew
              clear c0 c2 c5 R9
              generalize w9.drew = wd at *
              have HSC := Lib.hid (show wd.cell? ⟨SB, 0, none⟩ = some (.int .i64 (i : Int)) ∧ wd.cell? ⟨SB, 2, none⟩ = some (.int .i64 sl) ∧ wd.cell? ⟨w.heap.size, 5, none⟩ = some (.int .u64 p.r) from ⟨Whole.cell (RD.out.get3) 0, Whole.cell (RD.out.get3) 2, Whole.cell (RD.out.nth 4 (t := confT w.heap.size p) rfl) 5⟩)
              (repeat (refine wpSch_yes (v := ?_) rfl (fun _ _ _ h => h) (by rfl) ?_ ?_; rotate_left; (next => (intro w hSw; (try dsimp only at hSw); obtain ⟨hS1, hS2, hS3⟩ := hSw; go_simp; (try with_reducible rfl))); (try simp only [Act.put, List.setIfInBounds_toArray, List.set_cons_zero, List.set_cons_succ])))
              refine wpSch_call rfl (by rfl) (fun K hK => ?_); go_simp
              refine (rles_any r p.r HRF.out.1 HRF.out.2 HP.out.hr.1 HP.out.hr.2 wd).mono ?_
              rintro e we ⟨rfl, rfl⟩
              refine hK.out _ _ HSC.out (fun hHeld => ?_)
              clear hK K hHeld
              (try simp only [Act.put, List.setIfInBounds_toArray, List.set_cons_zero, List.set_cons_succ])
              refine wpSch_call rfl (by rfl) (fun K hK => ?_); go_simp
              have hlb := lesV_bd HRF.out.1 HRF.out.2 HP.out.hr.1 HP.out.hr.2
              refine (rdel_any sl (lesV r p.r) HSL.out (by omega) hlb.2 wd).mono ?_
              rintro e we ⟨rfl, rfl⟩
              have HDB := Lib.hid (delV_bd sl (r := lesV r p.r) (by omega))
              rw [← HDL.out]
              rw [← HDL.out] at HDB
              clear hlb
              refine hK.out _ _ HSC.out (fun hHeld => ?_)
              clear hK K hHeld
              (try simp only [Act.put, List.setIfInBounds_toArray, List.set_cons_zero, List.set_cons_succ])
              refine wpSch_call rfl (by rfl) (fun K hK => ?_); go_simp
              refine (radd_any n2 (dlyQ o.rs x.c.r sl (i : Int)) HU2.out.1 HU2.out.2 HDB.out.1 (by have := HDB.out.2; omega) wd).mono ?_
              rintro e we ⟨rfl, rfl⟩
              rw [show satAdd n2 (dlyQ o.rs x.c.r sl (i : Int)) = addS n2 (dlyQ o.rs x.c.r sl (i : Int)) from rfl]
              obtain ⟨nv, hnv⟩ : ∃ nv, addS n2 (dlyQ o.rs x.c.r sl (i : Int)) = nv := ⟨_, rfl⟩
              rw [hnv] at HPY ⊢
              clear hnv
              refine hK.out _ _ HSC.out (fun hHeld => ?_)
              clear hK K hHeld
              (try simp only [Act.put, List.setIfInBounds_toArray, List.set_cons_zero, List.set_cons_succ])
              (repeat (refine wpSch_yes (v := ?_) rfl (fun _ _ _ h => h) (by rfl) ?_ ?_; rotate_left; (next => (intro w hSw; (try dsimp only at hSw); obtain ⟨hS1, hS2, hS3⟩ := hSw; go_simp; (try with_reducible rfl))); (try simp only [Act.put, List.setIfInBounds_toArray, List.set_cons_zero, List.set_cons_succ])))
              have cn : wd.cell? ⟨NB, i, none⟩ = some (.int .u64 (nx i)) := (Whole.cell (show Whole wd NB 32 _ from RD.out.get2) i).trans (nxC_get _ HI.out)
              have fn : wd.frozen? ⟨NB, i, none⟩ = false := Whole.free (show Whole wd NB 32 _ from RD.out.get2) i
              have hw := Whole.put (show Whole wd NB 32 _ from RD.out.get2) i (.int .u64 nv)
              rw [nxC_set _ HI.out] at hw
              have RE := Lib.hid (RD.out.step2 (t' := blkT NB 32 (nxC (upF nx i nv))) hw ((Keep.refl (fun k => k = NB) wd).setCell (p := ⟨NB, i, none⟩) (.inl rfl) _) (fun k e => .inl e))
              clear hw RD HSC
              refine wpSch_call rfl (by rfl) (fun K hK => ?_); go_simp
              refine hK.out _ _ ⟨Whole.cell (RE.out.get3) 0, Whole.cell (RE.out.get3) 2, Whole.cell (RE.out.nth 4 (t := confT w.heap.size p) rfl) 5⟩ (fun hHeld => ?_)
              clear hK K hHeld cn fn
              generalize World.setCell wd _ _ = wf at *
              (try simp only [Act.put, List.setIfInBounds_toArray, List.set_cons_zero, List.set_cons_succ])
              refine wpSch_nil ?_
              have RF := Lib.hid (RE.out.less (M := [fqT g own9 y, blkT NB 32 (nxC (upF nx i nv)), confT w.heap.size p]) (((List.Sublist.refl _).cons _ |>.cons_cons _).cons _ |>.cons_cons _))
              clear RE
              go_wp2
              go_roundw
              case rel => exact ⟨j + 1, n2, own9, y, _, by omega, by omega, by go_num, rfl, HN2.out.1, HCY.out, HPY.out, HNY.out, RF.out⟩
              case measure => simp [intOf]; omega
        · go_upto_region 20 with fail
          clear d0 d1
          have d7 : w7.cell? ⟨B, 7, none⟩ = some (.slice o.a o.rs.length o.cap) := HCL.out 7 _ rfl
          obtain ⟨y, so, hys⟩ : ∃ y so, deqQ (dlyQ o.rs x.c.r) x n2 = (y, so) := ⟨_, _, rfl⟩
          have HYS := Lib.hid hys
          have HD := Lib.hid (fun l z => dlyQ_bd o.hb (r := x.c.r) (by rw [HXC.out]; exact HP.out.hr) l z)
          have HE : Hid (Ends (dlyQ o.rs x.c.r) x n2 y so) := Lib.hid (by
            have h1 := deq_ends (d := dlyQ o.rs x.c.r) (now := n2) HXO.out HU2.out (fun l z => (HD.out l z).1)
            rw [hys] at h1
            exact h1)
          have HNY : Hid (Near y n2) := Lib.hid (by
            have h1 := near_deq (d := dlyQ o.rs x.c.r) (now := n2) HXO.out HU2.out HD.out HNR2.out
            rw [hys] at h1
            exact h1)
          clear hys
          go_wp2_with fail
          refine (R10.out.fqdeqr n2 HU2.out o.a o.cap o.rs (o.hr.below R10.out.bel) o.hb (R10.out.apart_rs o.hr) HYS.out).mono ?_
          rintro e w8 ⟨rfl, own9, hr9⟩
          have HCY := Lib.hid ((deq_c HYS.out).trans HXC.out)
          clear d7 HYS HD
          cases so with
          | none =>
            have R9 := Lib.hid ((hr9.alloc (.cells #[.int .i64 0, .int .u64 0, .int .i64 0, .int .u64 0, .bool false] 34)).less (M := [fqT g own9 y, blkT NB 32 (nxC nx), confT w.heap.size p]) ((List.Sublist.refl _).cons _ |>.cons_cons _))
            clear hr9 R10
            dsimp only [Option.getD, Option.isSome, Sg.zero, Sg.v]
            go_wp2
            go_roundw
            case rel => exact ⟨j + 1, n2, own9, y, nx, by omega, by omega, by go_num, rfl, HN2.out.1, HCY.out, HPC2.out.none HE.out, HNY.out, R9.out⟩
            case measure => simp [intOf]; omega
          | some s9 =>
            have HSL : Hid (s9.l ≤ 9223372036854775807) := Lib.hid (by
              have h1 := HE.out
              cases h1 with
              | some a =>
                have h2 := ((HXO.out.is _ a.hi a.hT).hq s9 (by rw [a.hq]; exact List.mem_cons_self ..)).hl.2
                omega)
            obtain ⟨hs1, hs2, hs3, hs4⟩ := HPC2.out.some HE.out
            obtain ⟨ss, sf, sl, st, sa⟩ := s9
            obtain ⟨i, rfl⟩ : ∃ i : Nat, ss = (i : Int) := ⟨ss.toNat, by dsimp only at hs1; omega⟩
            dsimp only at hs1 hs2 hs3 hs4 HSL
            rw [show ((i : Int)).toNat = i from rfl] at hs2 hs4
            have hi8 : (i : Int) < 8 := hs1.2
            have HI : Hid (i < 8) := Lib.hid (by omega)
            have HPY := Lib.hid hs4
            have R9 := Lib.hid (hr9.box3 34 #[.int .i64 (i : Int), .int .u64 sf, .int .i64 sl, .int .u64 st, .bool sa])
            clear hr9 R10 hs1 hs4 HE HPC2
            dsimp only [Option.getD, Option.isSome, Sg.v]
            go_upto_region 22 with fail
            generalize hSB : w8.heap.size = SB at *
            generalize World.alloc w8 _ = w9 at *
            clear hSB
            have c0 : w9.cell? ⟨SB, 0, none⟩ = some (.int .i64 (i : Int)) := Whole.cell (R9.out.get3) 0
            have c3 : w9.cell? ⟨SB, 3, none⟩ = some (.int .u64 st) := Whole.cell (R9.out.get3) 3
            have cn : w9.cell? ⟨NB, i, none⟩ = some (.int .u64 (nx i)) := (Whole.cell (show Whole w9 NB 32 _ from R9.out.get2) i).trans (nxC_get _ HI.out)
            have hn1 : ¬ n2 < nx i := by omega
            have hn2' : ¬ n2 < st := by omega
            go_upto_region 25 with fail
            have d7 : w9.cell? ⟨B, 7, none⟩ = some (.slice o.a o.rs.length o.cap) := by
              have h1 := Whole.cell (show Whole w9 B 37 V from R9.out.get1) 7
              rw [h1, ← Array.getElem?_toList, HV.out]
              rfl
            obtain ⟨r, hr⟩ : ∃ r, rateAt o.rs i = r := ⟨_, rfl⟩
            have HRF : Hid (U64 r) := Lib.hid (hr ▸ rateAt_fit o.hb i)
            have HDL : Hid (dlyQ o.rs x.c.r sl (i : Int) = delV sl (lesV r p.r)) := Lib.hid (by rw [← hr, HXC.out]; rfl)
            clear c3 cn hn1 hn2'
            by_cases hir : i < o.rs.length
            · have hir2 : (i : Int) < (o.rs.length : Int) := by omega
              obtain ⟨rb, ro, ea, hlt, rc⟩ := (o.hr.below R9.out.bel) i hir
              rw [show o.rs.getD i 0 = r by rw [← hr]; unfold rateAt; rw [List.getD_eq_getElem?_getD, List.getD_eq_getElem?_getD, List.getElem?_eq_getElem hir]; rfl] at rc
              rw [ea] at d7
              clear hr ea hlt
              go_upto_region 27 with fail
              clear rc hir2 d7 c0 hir
              have c0 : w9.cell? ⟨SB, 0, none⟩ = some (.int .i64 (i : Int)) := Whole.cell (R9.out.get3) 0
              have c2 : w9.cell? ⟨SB, 2, none⟩ = some (.int .i64 sl) := Whole.cell (R9.out.get3) 2
              have c5 : w9.cell? ⟨w.heap.size, 5, none⟩ = some (.int .u64 p.r) := Whole.cell (R9.out.nth 4 (t := confT w.heap.size p) rfl) 5
              refine wp_region_sch (fun W => W.cell? ⟨SB, 0, none⟩ = some (.int .i64 (i : Int)) ∧ W.cell? ⟨SB, 2, none⟩ = some (.int .i64 sl) ∧ W.cell? ⟨w.heap.size, 5, none⟩ = some (.int .u64 p.r)) [(true, 0), (true, 1), (true, 2), (true, 3), (true, 4), (true, 5), (true, 6), (true, 7), (false, 8), (false, 9), (false, 10), (true, 11), (false, 12)] (by kernel_rfl) (by kernel_rfl) (by kernel_rfl) (by kernel_rfl) ⟨c0, c2, c5⟩ ?_
              have RD := Lib.hid R9.out.drew
              clear c0 c2 c5 R9
              generalize w9.drew = wd at *
              have HSC := Lib.hid (show wd.cell? ⟨SB, 0, none⟩ = some (.int .i64 (i : Int)) ∧ wd.cell? ⟨SB, 2, none⟩ = some (.int .i64 sl) ∧ wd.cell? ⟨w.heap.size, 5, none⟩ = some (.int .u64 p.r) from ⟨Whole.cell (RD.out.get3) 0, Whole.cell (RD.out.get3) 2, Whole.cell (RD.out.nth 4 (t := confT w.heap.size p) rfl) 5⟩)
              (repeat (refine wpSch_yes (v := ?_) rfl (fun _ _ _ h => h) (by rfl) ?_ ?_; rotate_left; (next => (intro w hSw; (try dsimp only at hSw); obtain ⟨hS1, hS2, hS3⟩ := hSw; go_simp; (try with_reducible rfl))); (try simp only [Act.put, List.setIfInBounds_toArray, List.set_cons_zero, List.set_cons_succ])))
              refine wpSch_call rfl (by rfl) (fun K hK => ?_); go_simp
              refine (rles_any r p.r HRF.out.1 HRF.out.2 HP.out.hr.1 HP.out.hr.2 wd).mono ?_
              rintro e we ⟨rfl, rfl⟩
              refine hK.out _ _ HSC.out (fun hHeld => ?_)
              clear hK K hHeld
              (try simp only [Act.put, List.setIfInBounds_toArray, List.set_cons_zero, List.set_cons_succ])
              refine wpSch_call rfl (by rfl) (fun K hK => ?_); go_simp
              have hlb := lesV_bd HRF.out.1 HRF.out.2 HP.out.hr.1 HP.out.hr.2
              refine (rdel_any sl (lesV r p.r) HSL.out (by omega) hlb.2 wd).mono ?_
              rintro e we ⟨rfl, rfl⟩
              have HDB := Lib.hid (delV_bd sl (r := lesV r p.r) (by omega))
              rw [← HDL.out]
              rw [← HDL.out] at HDB
              clear hlb
              refine hK.out _ _ HSC.out (fun hHeld => ?_)
              clear hK K hHeld
              (try simp only [Act.put, List.setIfInBounds_toArray, List.set_cons_zero, List.set_cons_succ])
              refine wpSch_call rfl (by rfl) (fun K hK => ?_); go_simp
              refine (radd_any n2 (dlyQ o.rs x.c.r sl (i : Int)) HU2.out.1 HU2.out.2 HDB.out.1 (by have := HDB.out.2; omega) wd).mono ?_
              rintro e we ⟨rfl, rfl⟩
              rw [show satAdd n2 (dlyQ o.rs x.c.r sl (i : Int)) = addS n2 (dlyQ o.rs x.c.r sl (i : Int)) from rfl]
              obtain ⟨nv, hnv⟩ : ∃ nv, addS n2 (dlyQ o.rs x.c.r sl (i : Int)) = nv := ⟨_, rfl⟩
              rw [hnv] at HPY ⊢
              clear hnv
              refine hK.out _ _ HSC.out (fun hHeld => ?_)
              clear hK K hHeld
              (try simp only [Act.put, List.setIfInBounds_toArray, List.set_cons_zero, List.set_cons_succ])
              (repeat (refine wpSch_yes (v := ?_) rfl (fun _ _ _ h => h) (by rfl) ?_ ?_; rotate_left; (next => (intro w hSw; (try dsimp only at hSw); obtain ⟨hS1, hS2, hS3⟩ := hSw; go_simp; (try with_reducible rfl))); (try simp only [Act.put, List.setIfInBounds_toArray, List.set_cons_zero, List.set_cons_succ])))
              have cn : wd.cell? ⟨NB, i, none⟩ = some (.int .u64 (nx i)) := (Whole.cell (show Whole wd NB 32 _ from RD.out.get2) i).trans (nxC_get _ HI.out)
              have fn : wd.frozen? ⟨NB, i, none⟩ = false := Whole.free (show Whole wd NB 32 _ from RD.out.get2) i
              have hw := Whole.put (show Whole wd NB 32 _ from RD.out.get2) i (.int .u64 nv)
              rw [nxC_set _ HI.out] at hw
              have RE := Lib.hid (RD.out.step2 (t' := blkT NB 32 (nxC (upF nx i nv))) hw ((Keep.refl (fun k => k = NB) wd).setCell (p := ⟨NB, i, none⟩) (.inl rfl) _) (fun k e => .inl e))
              clear hw RD HSC
              refine wpSch_call rfl (by rfl) (fun K hK => ?_); go_simp
              refine hK.out _ _ ⟨Whole.cell (RE.out.get3) 0, Whole.cell (RE.out.get3) 2, Whole.cell (RE.out.nth 4 (t := confT w.heap.size p) rfl) 5⟩ (fun hHeld => ?_)
              clear hK K hHeld cn fn
              generalize World.setCell wd _ _ = wf at *
              (try simp only [Act.put, List.setIfInBounds_toArray, List.set_cons_zero, List.set_cons_succ])
              refine wpSch_nil ?_
              have RF := Lib.hid (RE.out.less (M := [fqT g own9 y, blkT NB 32 (nxC (upF nx i nv)), confT w.heap.size p]) (((List.Sublist.refl _).cons _ |>.cons_cons _).cons _ |>.cons_cons _))
              clear RE
              go_wp2
              go_roundw
              case rel => exact ⟨j + 1, n2, own9, y, _, by omega, by omega, by go_num, rfl, HN2.out.1, HCY.out, HPY.out, HNY.out, RF.out⟩
              case measure => simp [intOf]; omega
            · have hir2 : ¬ (i : Int) < (o.rs.length : Int) := by omega
              rw [show r = 18446744073709551615 by rw [← hr]; unfold rateAt; rw [List.getD_eq_getElem?_getD, List.getElem?_eq_none (by omega)]; rfl] at HRF HDL
              clear hr
              go_upto_region 27 with fail
              clear hir2 d7 c0 hir
              obtain ⟨r, hr⟩ : ∃ r : Int, r = 18446744073709551615 := ⟨_, rfl⟩
              rw [← hr] at HRF HDL ⊢
              clear hr
              have c0 : w9.cell? ⟨SB, 0, none⟩ = some (.int .i64 (i : Int)) := Whole.cell (R9.out.get3) 0
              have c2 : w9.cell? ⟨SB, 2, none⟩ = some (.int .i64 sl) := Whole.cell (R9.out.get3) 2
              have c5 : w9.cell? ⟨w.heap.size, 5, none⟩ = some (.int .u64 p.r) := Whole.cell (R9.out.nth 4 (t := confT w.heap.size p) rfl) 5
              refine wp_region_sch (fun W => W.cell? ⟨SB, 0, none⟩ = some (.int .i64 (i : Int)) ∧ W.cell? ⟨SB, 2, none⟩ = some (.int .i64 sl) ∧ W.cell? ⟨w.heap.size, 5, none⟩ = some (.int .u64 p.r)) [(true, 0), (true, 1), (true, 2), (true, 3), (true, 4), (true, 5), (true, 6), (true, 7), (false, 8), (false, 9), (false, 10), (true, 11), (false, 12)] (by kernel_rfl) (by kernel_rfl) (by kernel_rfl) (by kernel_rfl) ⟨c0, c2, c5⟩ ?_
              have RD := Lib.hid R9.out.drew
              clear c0 c2 c5 R9
              generalize w9.drew = wd at *
              have HSC := Lib.hid (show wd.cell? ⟨SB, 0, none⟩ = some (.int .i64 (i : Int)) ∧ wd.cell? ⟨SB, 2, none⟩ = some (.int .i64 sl) ∧ wd.cell? ⟨w.heap.size, 5, none⟩ = some (.int .u64 p.r) from ⟨Whole.cell (RD.out.get3) 0, Whole.cell (RD.out.get3) 2, Whole.cell (RD.out.nth 4 (t := confT w.heap.size p) rfl) 5⟩)
              (repeat (refine wpSch_yes (v := ?_) rfl (fun _ _ _ h => h) (by rfl) ?_ ?_; rotate_left; (next => (intro w hSw; (try dsimp only at hSw); obtain ⟨hS1, hS2, hS3⟩ := hSw; go_simp; (try with_reducible rfl))); (try simp only [Act.put, List.setIfInBounds_toArray, List.set_cons_zero, List.set_cons_succ])))
              refine wpSch_call rfl (by rfl) (fun K hK => ?_); go_simp
              refine (rles_any r p.r HRF.out.1 HRF.out.2 HP.out.hr.1 HP.out.hr.2 wd).mono ?_
              rintro e we ⟨rfl, rfl⟩
              refine hK.out _ _ HSC.out (fun hHeld => ?_)
              clear hK K hHeld
              (try simp only [Act.put, List.setIfInBounds_toArray, List.set_cons_zero, List.set_cons_succ])
              refine wpSch_call rfl (by rfl) (fun K hK => ?_); go_simp
              have hlb := lesV_bd HRF.out.1 HRF.out.2 HP.out.hr.1 HP.out.hr.2
              refine (rdel_any sl (lesV r p.r) HSL.out (by omega) hlb.2 wd).mono ?_
              rintro e we ⟨rfl, rfl⟩
              have HDB := Lib.hid (delV_bd sl (r := lesV r p.r) (by omega))
              rw [← HDL.out]
              rw [← HDL.out] at HDB
              clear hlb
              refine hK.out _ _ HSC.out (fun hHeld => ?_)
              clear hK K hHeld
              (try simp only [Act.put, List.setIfInBounds_toArray, List.set_cons_zero, List.set_cons_succ])
              refine wpSch_call rfl (by rfl) (fun K hK => ?_); go_simp
              refine (radd_any n2 (dlyQ o.rs x.c.r sl (i : Int)) HU2.out.1 HU2.out.2 HDB.out.1 (by have := HDB.out.2; omega) wd).mono ?_
              rintro e we ⟨rfl, rfl⟩
              rw [show satAdd n2 (dlyQ o.rs x.c.r sl (i : Int)) = addS n2 (dlyQ o.rs x.c.r sl (i : Int)) from rfl]
              obtain ⟨nv, hnv⟩ : ∃ nv, addS n2 (dlyQ o.rs x.c.r sl (i : Int)) = nv := ⟨_, rfl⟩
              rw [hnv] at HPY ⊢
              clear hnv
              refine hK.out _ _ HSC.out (fun hHeld => ?_)
              clear hK K hHeld
              (try simp only [Act.put, List.setIfInBounds_toArray, List.set_cons_zero, List.set_cons_succ])
              (repeat (refine wpSch_yes (v := ?_) rfl (fun _ _ _ h => h) (by rfl) ?_ ?_; rotate_left; (next => (intro w hSw; (try dsimp only at hSw); obtain ⟨hS1, hS2, hS3⟩ := hSw; go_simp; (try with_reducible rfl))); (try simp only [Act.put, List.setIfInBounds_toArray, List.set_cons_zero, List.set_cons_succ])))
              have cn : wd.cell? ⟨NB, i, none⟩ = some (.int .u64 (nx i)) := (Whole.cell (show Whole wd NB 32 _ from RD.out.get2) i).trans (nxC_get _ HI.out)
              have fn : wd.frozen? ⟨NB, i, none⟩ = false := Whole.free (show Whole wd NB 32 _ from RD.out.get2) i
              have hw := Whole.put (show Whole wd NB 32 _ from RD.out.get2) i (.int .u64 nv)
              rw [nxC_set _ HI.out] at hw
              have RE := Lib.hid (RD.out.step2 (t' := blkT NB 32 (nxC (upF nx i nv))) hw ((Keep.refl (fun k => k = NB) wd).setCell (p := ⟨NB, i, none⟩) (.inl rfl) _) (fun k e => .inl e))
              clear hw RD HSC
              refine wpSch_call rfl (by rfl) (fun K hK => ?_); go_simp
              refine hK.out _ _ ⟨Whole.cell (RE.out.get3) 0, Whole.cell (RE.out.get3) 2, Whole.cell (RE.out.nth 4 (t := confT w.heap.size p) rfl) 5⟩ (fun hHeld => ?_)
              clear hK K hHeld cn fn
              generalize World.setCell wd _ _ = wf at *
              (try simp only [Act.put, List.setIfInBounds_toArray, List.set_cons_zero, List.set_cons_succ])
              refine wpSch_nil ?_
              have RF := Lib.hid (RE.out.less (M := [fqT g own9 y, blkT NB 32 (nxC (upF nx i nv)), confT w.heap.size p]) (((List.Sublist.refl _).cons _ |>.cons_cons _).cons _ |>.cons_cons _))
              clear RE
              go_wp2
              go_roundw
              case rel => exact ⟨j + 1, n2, own9, y, _, by omega, by omega, by go_num, rfl, HN2.out.1, HCY.out, HPY.out, HNY.out, RF.out⟩
              case measure => simp [intOf]; omega
      · have hb2 : (o.k != 2) = true := by simp; omega
        have hb3 : (o.k != 3) = true := by simp; omega
        have d2 := HCL.out 2 _ rfl; have d3 := HCL.out 3 _ rfl; have d4 := HCL.out 4 _ rfl; have d5 := HCL.out 5 _ rfl; have d6 := HCL.out 6 _ rfl
        clear hk
        go_wp2_with fail
        refine (plays_any o.s w7).mono ?_
        rintro e w8 ⟨z, l, rfl, hz, hl, k8⟩
        have R11 := Lib.hid (R10.out.kept k8)
        have HS := Lib.hid (⟨hz, hl⟩ : (0 ≤ z ∧ z < 8) ∧ 1 ≤ l ∧ l ≤ 65536)
        clear k8 hz hl R10 d0 d1 d2 d3 d4 d5 d6 HCL
        dsimp only [Sg.v]
        go_wp2_with fail
        refine (R11.out.fqenq ⟨z, o.s.f, l, o.s.t, o.s.a⟩ n2 HU2.out o.hs.1 o.hs.2).mono ?_
        rintro e w9 ⟨rfl, own8, hr8⟩
        obtain ⟨y, hy⟩ : ∃ y, y = enqQ x ⟨z, o.s.f, l, o.s.t, o.s.a⟩ n2 := ⟨_, rfl⟩
        rw [← hy] at hr8
        have HY := Lib.hid hy
        have R12 := Lib.hid (hr8.less (M := [fqT g own8 y, blkT NB 32 (nxC nx), confT w.heap.size p]) ((List.Sublist.refl _).cons _ |>.cons_cons _))
        clear hr8 R11 hy
        go_upto_region 15 with fail
        go_loopw [11] (fun iv wr2 => ∃ k : Nat, k ≤ 8 ∧ iv = .int .i64 k ∧ Room w wr2 [fqT g own8 y, blkT NB 32 (nxC fun i => if i < k ∧ y.T i = false then 0 else nx i), confT w.heap.size p]) (fun iv _ => 8 - (intOf iv).toNat)
        case atStart => exact ⟨0, by omega, rfl, by simpa using R12.out⟩
        case round =>
          obtain ⟨k, hk8, rfl, hr⟩ := hrel
          have RI := Lib.hid hr
          clear hr R12
          by_cases hlk : k < 8
          · have hik : (k : Int) < 8 := by omega
            have HK8 := Lib.hid hlk
            cases ht : y.T k with
            | false =>
              have HOFF : Hid (¬ ((0 ≤ (k : Int) ∧ (k : Int) < 8) ∧ y.T ((k : Int)).toNat = true)) := Lib.hid (fun e => by
                have h1 := e.2
                rw [show ((k : Int)).toNat = k from rfl, ht] at h1
                cases h1)
              have HNX : Hid (upF (fun i => if i < k ∧ y.T i = false then 0 else nx i) k 0 = fun i => if i < k + 1 ∧ y.T i = false then 0 else nx i) := Lib.hid (by
                funext i
                unfold upF
                dsimp only
                by_cases e : i = k
                · subst e
                  rw [if_pos rfl, if_pos ⟨by omega, ht⟩]
                · rw [if_neg e]
                  by_cases h1 : i < k ∧ y.T i = false
                  · rw [if_pos h1, if_pos ⟨by omega, h1.2⟩]
                  · rw [if_neg h1, if_neg (fun h2 => h1 ⟨by omega, h2.2⟩)])
              clear ht hlk
              go_wp2_with fail
              refine (RI.out.fqflow_no (k : Int) HOFF.out).mono ?_
              rintro e w8 ⟨rfl, hr8⟩
              have R8 := Lib.hid (hr8.alloc (.cells #[.int .i64 0, .int .i64 0, .int .i64 0, .int .u64 0, .int .u64 0, .slice none 0 0] 44))
              clear hr8 RI
              dsimp only [Fl.v, Fl.zero]
              go_upto_region 18 with fail
              generalize World.alloc w8 _ = w9 at *
              have c0 : w9.cell? ⟨NB, k, none⟩ = some _ := (Whole.cell (show Whole w9 NB 32 _ from R8.out.get1) k).trans (nxC_get _ HK8.out)
              have f0 : w9.frozen? ⟨NB, k, none⟩ = false := Whole.free (show Whole w9 NB 32 _ from R8.out.get1) k
              have hw := Whole.put (show Whole w9 NB 32 _ from R8.out.get1) k (.int .u64 0)
              rw [nxC_set _ HK8.out, HNX.out] at hw
              have R9 := Lib.hid (R8.out.step1 (t' := blkT NB 32 (nxC fun i => if i < k + 1 ∧ y.T i = false then 0 else nx i)) hw ((Keep.refl (fun k => k = NB) w9).setCell (p := ⟨NB, k, none⟩) (.inl rfl) _) (fun k e => .inl e))
              clear hw R8
              go_wp2
              go_roundw
              case rel => exact ⟨k + 1, by omega, by go_num, R9.out⟩
              case measure => simp [intOf]; omega
            | true =>
              have HTT := Lib.hid ht
              have HNX : Hid ((fun i => if i < k ∧ y.T i = false then 0 else nx i) = fun i => if i < k + 1 ∧ y.T i = false then 0 else nx i) := Lib.hid (by
                funext i
                by_cases e : i = k
                · subst e
                  rw [if_neg (fun h => by rw [ht] at h; cases h.2), if_neg (fun h => by rw [ht] at h; cases h.2)]
                · by_cases h1 : i < k ∧ y.T i = false
                  · rw [if_pos h1, if_pos ⟨by omega, h1.2⟩]
                  · rw [if_neg h1, if_neg (fun h2 => h1 ⟨by omega, h2.2⟩)])
              clear ht hlk
              go_wp2_with fail
              refine (RI.out.fqflow_yes HK8.out HTT.out).mono ?_
              rintro e w8 ⟨VV, rfl, hr8⟩
              obtain ⟨va, vc, rfl⟩ := sgs_shape hr8.get1
              rw [HNX.out] at hr8
              have R8 := Lib.hid ((hr8.alloc (.cells #[.int .i64 (y.F k).s, .int .i64 (y.F k).c, .int .i64 (y.F k).p, .int .u64 (y.F k).n, .int .u64 (y.F k).u, .slice va (y.F k).q.length vc] 44)).less (M := [fqT g own8 y, blkT NB 32 (nxC fun i => if i < k + 1 ∧ y.T i = false then 0 else nx i), confT w.heap.size p]) ((List.Sublist.refl _).cons _ |>.cons_cons _))
              clear hr8 RI
              dsimp only [Fl.v]
              go_wp2
              go_roundw
              case rel => exact ⟨k + 1, by omega, by go_num, R8.out⟩
              case measure => simp [intOf]; omega
          · obtain rfl : k = 8 := by omega
            clear hlk hk8
            go_wp2
            go_roundw
            case rel =>
              refine ⟨j + 1, n2, own8, y, _, by omega, by omega, by go_num, rfl, HN2.out.1, by rw [HY.out]; exact (enq_c _ _ _).trans HXC.out, ?_, ?_, RI.out⟩
              · have h1 := HPC2.out.enq (s := ⟨z, o.s.f, l, o.s.t, o.s.a⟩) HNR2.out ⟨HN2.out.1.1, by have := HN2.out.1.2; omega⟩ (nx' := fun i => if i < 8 ∧ y.T i = false then 0 else nx i) (fun k hk => by
                  rw [← HY.out]
                  cases y.T k with
                  | true => rw [if_neg (by simp), if_pos rfl]
                  | false => rw [if_pos ⟨hk, rfl⟩, if_neg (by simp)])
                rw [← HY.out] at h1
                exact h1
              · rw [HY.out]; exact near_enq HN2.out.1.1 HNR2.out
            case measure => simp [intOf]; omega
    · have hlt2 : ¬ (j : Int) < (zs.length : Int) ∨ ¬ (j : Int) < 100 := by omega
      clear hlt
      rcases hlt2 with h | h
      · go_wp2
        go_ret
        exact ⟨rfl, R.out.bel⟩
      · by_cases h2 : (j : Int) < (zs.length : Int)
        · go_wp2
          go_ret
          exact ⟨rfl, R.out.bel⟩
        · go_wp2
          go_ret
          exact ⟨rfl, R.out.bel⟩
end Go.Proofs.Ytnljjdfajmjdjaa
