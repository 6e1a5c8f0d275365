/-
  canterlaw20.FqPlays, walked. Conditions: numbers are of their kind.
-/
import Derived.Test.YtnljjdfajmjdjaaGreatJ46
import Derived.Test.YtnljjdfajmjdjaaGreatJ48
import Derived.LoopTactic
namespace Go.Proofs.YtnljjdfajmjdjaaGreat
open Go.RowKit
set_option maxRecDepth 100000
set_option linter.unusedSimpArgs false
set_option linter.unusedVariables false

def sgL (s : Sg) : List Value := [.int .i64 s.s, .int .u64 s.f, .int .i64 s.l, .int .u64 s.t, .bool s.a]
theorem one_sgL (s : Sg) : (sgL s).toArray.all (·.oneCell') = true := all_oneCell_toArray (fun u hu => by
  simp only [sgL, List.mem_cons, List.not_mem_nil, or_false] at hu
  rcases hu with rfl | rfl | rfl | rfl | rfl <;> rfl)
theorem there_sg {W : World} {B : Nat} {s : Sg} (h : Whole W B 44 (sgL s).toArray) : W.there B 0 5 := fun j hj => by
  rw [Nat.zero_add]
  exact ⟨by rw [h.cell, Array.getElem?_eq_getElem (by simpa [sgL] using hj)]; rfl, h.free j⟩
theorem whole_sg {W : World} {B : Nat} {s p : Sg} (h : Whole W B 44 (sgL s).toArray) : Whole (W.setCells B 0 (sgL p)) B 44 (sgL p).toArray := by
  have h1 := h.puts (sgL p) 0
  rwa [show Lib.lay (sgL s).toArray 0 (sgL p) = (sgL p).toArray from lay_full (sgL s).toArray (sgL p).toArray rfl] at h1
theorem Tryz.sizeSgL : (Tryz.prog.info? 44).map (·.size) = some 5 := by kernel_rfl
theorem rq0_is (c : Cf) : (((((((((Tryz.zeroCells41.setIfInBounds 0 (.int .i64 c.q)).setIfInBounds 1 (.int .i64 c.f)).setIfInBounds 2 (.int .i64 c.l)).setIfInBounds 3 (.int .i64 c.w)).setIfInBounds 4 (.int .u64 c.h)).setIfInBounds 5 (.int .u64 c.r)).setIfInBounds 6 (.bool c.d)).setIfInBounds 7 (.int .i64 c.k)).setIfInBounds 8 (.int .i64 c.m)) = rq0 c := by
  rw [show Tryz.zeroCells41 = rq0 zeroC from rfl]
  simp only [rq0, List.setIfInBounds_toArray, List.set_cons_zero, List.set_cons_succ]
set_option maxRecDepth 100000 in
set_option maxHeartbeats 8000000 in
theorem plays_walk (c : Cf) (a : Option Addr) (cap : Nat) (hc : U64 c.h ∧ U64 c.r) (w : World) (zs : List (FOp w)) (hzl : zs.length ≤ 9223372036854775807) (hrd : RdL 18 cells18 w a zs) :
    Calls Tryz.prog 3 #[c.v, .slice a zs.length cap] w fun e w' => e = .returned (.bool true) ∧ Below w.heap.size w w' := by
  have HC := Lib.hid hc; have HRD := Lib.hid hrd; have HZL := Lib.hid hzl
  have R0 := Lib.hid ((Room.begin w).box 24 (confL c).toArray)
  obtain ⟨w1, hw1⟩ : ∃ w1, w1 = w.alloc (.cells (confL c).toArray 24) := ⟨_, rfl⟩
  rw [← hw1] at R0
  unfold confL at hw1
  clear hc hrd hzl
  dsimp only [Cf.v]
  go_enter Tryz.func3, Tryz.ntmps3
  go_wp2_with fail
  rw [← hw1]
  clear hw1
  refine (playc_any c HC.out.2 HC.out.1 w1).mono ?_
  rintro e w2 ⟨p, rfl, hp, k2⟩
  have R2 := Lib.hid (R0.out.kept k2); have HP := Lib.hid hp
  clear k2 hp R0
  have HT := Lib.hid (there_conf (show Whole w2 w.heap.size 24 (confL c).toArray from R2.out.get0))
  go_upto_region 2 with (refine wpList_store_mid rfl 24 (.tmp 2) (.tmp 25) rfl w.heap.size 0 (confL p).toArray rfl rfl HT.out Tryz.size24 (one_conf p) ?_)
  have R3 := Lib.hid (R2.out.step0 (t' := confT w.heap.size p) (whole_conf R2.out.get0) (Keep.setCells (S := fun k => k = w.heap.size) rfl (confL p) 0 (Keep.refl _ w2)) (fun k e => .inl e))
  try rw [show (confL p).toArray.toList = confL p from rfl]
  clear HT R2
  generalize World.setCells w2 _ _ _ = w3 at *
  obtain ⟨b0, b1, b2, b3, b4, b5, b6, b7, b8⟩ := nine_of (show Whole w3 w.heap.size 24 (confL p).toArray from R3.out.get0)
  go_wp2_with fail
  refine (R3.out.fqnew p HP.out).mono ?_
  rintro e w4 ⟨g, own, rfl, hr4⟩
  obtain ⟨own2, hr5⟩ := hr4.rqnew p HP.out
  obtain ⟨r, hrr⟩ : ∃ r, w4.heap.size = r := ⟨_, rfl⟩
  obtain ⟨w5, hw5⟩ : ∃ w5, w5 = w4.alloc (.cells (rq0 p) 41) := ⟨_, rfl⟩
  rw [← hw5, hrr] at hr5
  have R5 := Lib.hid (hr5.swap)
  clear b0 b1 b2 b3 b4 b5 b6 b7 b8 R3 hr5
  obtain ⟨b0, b1, b2, b3, b4, b5, b6, b7, b8⟩ := nine_of (show Whole w4 w.heap.size 24 (confL p).toArray from hr4.get1)
  clear hr4
  go_upto_region 4 with fail
  rw [rq0_is p, ← hw5]
  clear hrr hw5 b0 b1 b2 b3 b4 b5 b6 b7 b8
  go_wp2_with fail
  refine (awakef_any w5).mono ?_
  rintro e w6 ⟨rfl, k6⟩
  have R6 := Lib.hid ((R5.out.kept k6).less (M := [fqT g own (newQ p), rqT r own2 (newQ p)]) (((List.nil_sublist _).cons_cons _).cons_cons _))
  clear k6 R5
  go_upto_region 8 with fail
  go_loopw [8, 9] (fun nv i wr => ∃ (j : Nat) (nw : Int) (own' own2' : Nat → Prop) (x : Qm), j ≤ zs.length ∧ j ≤ 100 ∧ i = .int .i64 j ∧ nv = .int .u64 nw ∧ (0 ≤ nw ∧ nw ≤ 4611686018427387904) ∧ Room w wr [fqT g own' x, rqT r own2' x]) (fun _ i _ => 100 - (intOf i).toNat)
  case atStart => exact ⟨0, 0, own, own2, _, by omega, by omega, rfl, rfl, by omega, R6.out⟩
  case round =>
    obtain ⟨j, nw, own', own2', x, hj1, hj2, rfl, rfl, hnw, hr⟩ := hrel
    have R := Lib.hid hr; have HNW := Lib.hid hnw
    clear hr hnw R6
    by_cases hlt : j < zs.length ∧ j < 100
    · have hi1 : (j : Int) < (zs.length : Int) := by omega
      have hi2 : (j : Int) < 100 := by omega
      obtain ⟨o, ho⟩ : ∃ o, zs[j]? = some o := ⟨_, List.getElem?_eq_getElem hlt.1⟩
      obtain ⟨b, off, ea, hbl, hcl⟩ := (HRD.out.below R.out.bel) j o ho
      subst ea
      obtain ⟨V, hV⟩ : ∃ V : Array Value, V = (cells18 o).toArray := ⟨_, rfl⟩
      have HV : Hid (V.toList = cells18 o) := Lib.hid (by rw [hV])
      have HRV := Lib.hid (show wr.rangeAt b (off + j * 18) V.toList from fun t u hu => by rw [hV] at hu; exact hcl t u (by simpa using hu))
      have HSZ : Hid ((Tryz.prog.info? 47).map (·.size) = some V.toList.length) := Lib.hid (by rw [HV.out]; exact Tryz.size37)
      have HSZ' : Hid ((Tryz.prog.info? 47).map (·.size) = some V.size) := Lib.hid (by rw [hV]; exact Tryz.size37)
      have HONE : Hid (V.all (·.oneCell') = true) := Lib.hid (by rw [hV]; exact one_op o)
      clear hcl hV
      go_upto_region 10 with fail
      obtain ⟨Z, hZ⟩ : ∃ Z : Array Value, Z = #[.int .i64 0, .int .u64 0, .int .i64 0, .int .u64 0, .int .i64 0, .int .u64 0, .bool false, .slice none 0 0, .int .i64 0, .int .i64 0, .int .i64 0, .int .i64 0, .int .u64 0, .int .u64 0, .bool false, .int .i64 0, .int .i64 0, .bool false] := ⟨_, rfl⟩
      have hzw := Whole.new wr 47 Z
      have HT := Lib.hid (show (wr.alloc (.cells Z 47)).there wr.heap.size 0 V.size from fun t ht => by
        rw [Nat.zero_add]
        have h18 : t < 18 := by rw [← Array.length_toList (xs := V), HV.out] at ht; exact ht
        exact ⟨by rw [hzw.cell, Array.getElem?_eq_getElem (by rw [hZ]; simpa using h18)]; rfl, hzw.free t⟩)
      have HW := Lib.hid (hzw.puts V.toList 0)
      have R9 := Lib.hid (R.out.box2 47 Z)
      have HZS : Hid (V.size = Z.size) := Lib.hid (by rw [hZ, ← Array.length_toList (xs := V), HV.out]; rfl)
      clear hzw
      rw [hZ] at HT HW R9
      go_upto_region 11 with (first
        | (refine wpList_load_mid rfl 47 (.tmp 56) rfl b (off + j * 18) rfl V.toList _ HRV.out Tryz.underlying47 rfl HSZ.out ?_)
        | (refine wpList_store_mid rfl 47 (.tmp 10) (.tmp 57) rfl wr.heap.size 0 V rfl rfl HT.out HSZ'.out HONE.out ?_))
      have R10 := Lib.hid (R9.out.step2 (t' := blkT wr.heap.size 47 V) (show Whole _ wr.heap.size 47 V from (by have h := HW.out; rwa [lay_full _ V (by rw [HZS.out, hZ])] at h)) (Keep.setCells (S := fun k => k = wr.heap.size) rfl V.toList 0 (Keep.refl _ _)) (fun k e => .inl e))
      clear hZ HT HW R9 HZS HSZ HSZ' HONE HRV hbl R
      generalize hB : wr.heap.size = B at *
      generalize World.setCells _ _ _ _ = w7 at *
      clear hB
      have HVC := Lib.hid (show ∀ wx : World, Whole wx B 47 V → ∀ t u, (cells18 o)[t]? = some u → wx.cell? ⟨B, t, none⟩ = some u from fun wx hx t u hu => by
        rw [Whole.cell hx t, ← hu, ← HV.out]
        simp)
      have HCL := Lib.hid (HVC.out w7 R10.out.get2)
      have d0 := HCL.out 0 _ rfl; have d1 := HCL.out 1 _ rfl
      go_wp2_with fail
      refine (radd_any nw o.g HNW.out.1 (by have := HNW.out; omega) o.hg.1 o.hg.2 _).mono ?_
      rintro e w8 ⟨rfl, rfl⟩
      go_upto_region 12 with fail
      obtain ⟨n2, hn2⟩ : ∃ n2, (if (4611686018427387904 : Int) < satAdd nw o.g then (4611686018427387904 : Int) else satAdd nw o.g) = n2 := ⟨_, rfl⟩
      rw [hn2]
      have HN2 : Hid (0 ≤ n2 ∧ n2 ≤ 4611686018427387904) := Lib.hid (by
        have h0 : 0 ≤ satAdd nw o.g := by unfold satAdd; have := HNW.out; have := o.hg.1; split <;> omega
        rw [← hn2]
        split <;> omega)
      clear hn2 HNW
      have HU2 : Hid (U64 n2) := Lib.hid ⟨HN2.out.1, by have := HN2.out.2; omega⟩
      go_upto_region 13 with fail
      clear d1
      by_cases hk2 : o.k = 2
      · have h2 : (o.k == 2) = true := by simp [hk2]
        go_upto_region 22 with fail
        clear d0
        have d7 : w7.cell? ⟨B, 7, none⟩ = some (.slice o.a o.rs.length o.cap) := HCL.out 7 _ rfl
        by_cases hl : 12 < (o.rs.length : Int)
        · go_wp2
          go_ret
          exact ⟨rfl, R10.out.bel⟩
        · have HL := Lib.hid hl
          obtain ⟨y, so, hys⟩ : ∃ y so, deqQ (dlyQ o.rs x.c.r) x n2 = (y, so) := ⟨_, _, rfl⟩
          have HYS := Lib.hid hys
          clear hys
          go_wp2_with fail
          refine (own_any o.a o.cap o.rs 71 w7 (by have := HL.out; omega) o.hz (o.hr.below R10.out.bel)).mono ?_
          rintro e w8 ⟨cs, rfl, hW, hO, hb8⟩
          have HO := Lib.hid hO
          have R11 := Lib.hid ((R10.out.add (t := blkT w7.heap.size 22 cs) hW (Keep.of_below hb8) (fun k e => by subst e; exact Nat.le_refl _)).swap)
          clear hW hO hb8 hl d7 R10 HCL
          generalize w7.heap.size = U at *
          have HRD : Hid (Rd .u64 w8 (some ⟨U, 0, none⟩) o.rs) := Lib.hid (fun i hi => ⟨U, 0, rfl, Whole.lt (show Whole w8 U 22 cs from R11.out.get1), by rw [Nat.zero_add, Whole.cell (show Whole w8 U 22 cs from R11.out.get1), HO.out.2.1 i hi]⟩)
          go_wp2_with fail
          refine (R11.out.fqdeqr n2 HU2.out (some ⟨U, 0, none⟩) (o.rs.length + 3) o.rs HRD.out o.hb (fun _ b off e ho => by cases e; exact R11.out.apart_blk (B := U) (ty := 22) (cs := cs) (List.mem_cons_self ..) ho) HYS.out).mono ?_
          rintro e w9 ⟨rfl, own9, hr9⟩
          obtain ⟨sg, hsg⟩ : ∃ sg, so.getD Sg.zero = sg := ⟨_, rfl⟩
          obtain ⟨bs, hbs⟩ : ∃ bs, so.isSome = bs := ⟨_, rfl⟩
          have HSG := Lib.hid hsg; have HBS := Lib.hid hbs
          rw [hsg, hbs]
          clear hsg hbs HRD R11
          obtain ⟨z, f, l, t, a⟩ := sg
          dsimp only [Sg.v]
          have R12 := Lib.hid (hr9.box 44 #[.int .i64 z, .int .u64 f, .int .i64 l, .int .u64 t, .bool a])
          clear hr9
          go_upto_region 26 with fail
          generalize hA : w9.heap.size = A at *
          generalize World.alloc w9 _ = wa at *
          clear hA
          have R13 := Lib.hid (R12.out.perm (M := [rqT r own2' x, blkT A 44 #[.int .i64 z, .int .u64 f, .int .i64 l, .int .u64 t, .bool a], fqT g own9 y, blkT U 22 cs, blkT B 47 V]) ((List.Perm.cons _ (List.Perm.cons _ (List.Perm.swap _ _ _))).trans ((List.Perm.cons _ (List.Perm.swap _ _ _)).trans (List.Perm.swap _ _ _))))
          clear R12
          have d7 : wa.cell? ⟨B, 7, none⟩ = some (.slice o.a o.rs.length o.cap) := HVC.out _ (R13.out.nth 4 (t := blkT B 47 V) rfl) 7 _ rfl
          go_wp2_with fail
          refine (R13.out.rqdeqr n2 HU2.out o.a o.cap o.rs (o.hr.below R13.out.bel) o.hb (R13.out.apart_rq o.hr) HYS.out).mono ?_
          rintro e wb ⟨rfl, own8, hr8⟩
          rw [HSG.out, HBS.out]
          dsimp only [Sg.v]
          have R14 := Lib.hid (hr8.box 44 #[.int .i64 z, .int .u64 f, .int .i64 l, .int .u64 t, .bool a])
          clear hr8 d7 R13
          go_upto_region 27 with fail
          generalize hA2 : wb.heap.size = A2 at *
          generalize World.alloc wb _ = wc at *
          clear hA2
          have d7 : wc.cell? ⟨B, 7, none⟩ = some (.slice o.a o.rs.length o.cap) := HVC.out _ (R14.out.nth 5 (t := blkT B 47 V) rfl) 7 _ rfl
          have x0 : wc.cell? ⟨A, 0, none⟩ = some (.int .i64 z) := Whole.cell (R14.out.get2) 0
          have x1 : wc.cell? ⟨A, 1, none⟩ = some (.int .u64 f) := Whole.cell (R14.out.get2) 1
          have x2 : wc.cell? ⟨A, 2, none⟩ = some (.int .i64 l) := Whole.cell (R14.out.get2) 2
          have x3 : wc.cell? ⟨A, 3, none⟩ = some (.int .u64 t) := Whole.cell (R14.out.get2) 3
          have x4 : wc.cell? ⟨A, 4, none⟩ = some (.bool a) := Whole.cell (R14.out.get2) 4
          have y0 : wc.cell? ⟨A2, 0, none⟩ = some (.int .i64 z) := Whole.cell (R14.out.get0) 0
          have y1 : wc.cell? ⟨A2, 1, none⟩ = some (.int .u64 f) := Whole.cell (R14.out.get0) 1
          have y2 : wc.cell? ⟨A2, 2, none⟩ = some (.int .i64 l) := Whole.cell (R14.out.get0) 2
          have y3 : wc.cell? ⟨A2, 3, none⟩ = some (.int .u64 t) := Whole.cell (R14.out.get0) 3
          have y4 : wc.cell? ⟨A2, 4, none⟩ = some (.bool a) := Whole.cell (R14.out.get0) 4
          have heq := Tryz.eqSeg
          have hbb : (bs == bs) = true := by simp
          go_wp2_with fail
          refine (kept_any U o.a o.cap o.rs 71 cs wc (by have := HL.out; omega) (R14.out.nth 4 (t := blkT U 22 cs) rfl) HO.out (o.hr.below R14.out.bel)).mono ?_
          rintro e wd ⟨rfl, n, hw⟩
          have RT : Hid (Room w wd [fqT g own9 y, rqT r own8 y]) := Lib.hid (by
            rw [hw]
            exact (((R14.out.drewN n).less (M := [rqT r own8 y, fqT g own9 y]) (((((List.nil_sublist _).cons_cons _).cons _).cons_cons _).cons _)).swap))
          clear hw R14 d7 x0 x1 x2 x3 x4 y0 y1 y2 y3 y4 heq hbb HO HYS HSG HBS
          go_wp2_with fail
          refine (alike_any RT.out).mono ?_
          rintro e wz ⟨rfl, hrz⟩
          have RZ := Lib.hid hrz
          clear hrz RT
          go_wp2
          go_roundw
          case rel => exact ⟨j + 1, n2, _, _, _, by omega, by omega, by go_num, rfl, HN2.out, RZ.out⟩
          case measure => simp [intOf]; omega
      · have h2 : (o.k == 2) = false := by simp [hk2]
        by_cases hk3 : o.k = 3
        · have h3 : (o.k == 3) = true := by simp [hk3]
          go_upto_region 22 with fail
          clear d0
          have d7 : w7.cell? ⟨B, 7, none⟩ = some (.slice o.a o.rs.length o.cap) := HCL.out 7 _ rfl
          by_cases hl : 12 < (o.rs.length : Int)
          · go_wp2
            go_ret
            exact ⟨rfl, R10.out.bel⟩
          · have HL := Lib.hid hl
            obtain ⟨y, so, hys⟩ : ∃ y so, deqQ (dlyQ o.rs x.c.r) x n2 = (y, so) := ⟨_, _, rfl⟩
            have HYS := Lib.hid hys
            clear hys
            go_wp2_with fail
            refine (own_any o.a o.cap o.rs 71 w7 (by have := HL.out; omega) o.hz (o.hr.below R10.out.bel)).mono ?_
            rintro e w8 ⟨cs, rfl, hW, hO, hb8⟩
            have HO := Lib.hid hO
            have R11 := Lib.hid ((R10.out.add (t := blkT w7.heap.size 22 cs) hW (Keep.of_below hb8) (fun k e => by subst e; exact Nat.le_refl _)).swap)
            clear hW hO hb8 hl d7 R10 HCL
            generalize w7.heap.size = U at *
            have HRD : Hid (Rd .u64 w8 (some ⟨U, 0, none⟩) o.rs) := Lib.hid (fun i hi => ⟨U, 0, rfl, Whole.lt (show Whole w8 U 22 cs from R11.out.get1), by rw [Nat.zero_add, Whole.cell (show Whole w8 U 22 cs from R11.out.get1), HO.out.2.1 i hi]⟩)
            go_wp2_with fail
            refine (R11.out.fqdeqr n2 HU2.out (some ⟨U, 0, none⟩) (o.rs.length + 3) o.rs HRD.out o.hb (fun _ b off e ho => by cases e; exact R11.out.apart_blk (B := U) (ty := 22) (cs := cs) (List.mem_cons_self ..) ho) HYS.out).mono ?_
            rintro e w9 ⟨rfl, own9, hr9⟩
            obtain ⟨sg, hsg⟩ : ∃ sg, so.getD Sg.zero = sg := ⟨_, rfl⟩
            obtain ⟨bs, hbs⟩ : ∃ bs, so.isSome = bs := ⟨_, rfl⟩
            have HSG := Lib.hid hsg; have HBS := Lib.hid hbs
            rw [hsg, hbs]
            clear hsg hbs HRD R11
            obtain ⟨z, f, l, t, a⟩ := sg
            dsimp only [Sg.v]
            have R12 := Lib.hid (hr9.box 44 #[.int .i64 z, .int .u64 f, .int .i64 l, .int .u64 t, .bool a])
            clear hr9
            go_upto_region 26 with fail
            generalize hA : w9.heap.size = A at *
            generalize World.alloc w9 _ = wa at *
            clear hA
            have R13 := Lib.hid (R12.out.perm (M := [rqT r own2' x, blkT A 44 #[.int .i64 z, .int .u64 f, .int .i64 l, .int .u64 t, .bool a], fqT g own9 y, blkT U 22 cs, blkT B 47 V]) ((List.Perm.cons _ (List.Perm.cons _ (List.Perm.swap _ _ _))).trans ((List.Perm.cons _ (List.Perm.swap _ _ _)).trans (List.Perm.swap _ _ _))))
            clear R12
            have d7 : wa.cell? ⟨B, 7, none⟩ = some (.slice o.a o.rs.length o.cap) := HVC.out _ (R13.out.nth 4 (t := blkT B 47 V) rfl) 7 _ rfl
            go_wp2_with fail
            refine (R13.out.rqdeqr n2 HU2.out o.a o.cap o.rs (o.hr.below R13.out.bel) o.hb (R13.out.apart_rq o.hr) HYS.out).mono ?_
            rintro e wb ⟨rfl, own8, hr8⟩
            rw [HSG.out, HBS.out]
            dsimp only [Sg.v]
            have R14 := Lib.hid (hr8.box 44 #[.int .i64 z, .int .u64 f, .int .i64 l, .int .u64 t, .bool a])
            clear hr8 d7 R13
            go_upto_region 27 with fail
            generalize hA2 : wb.heap.size = A2 at *
            generalize World.alloc wb _ = wc at *
            clear hA2
            have d7 : wc.cell? ⟨B, 7, none⟩ = some (.slice o.a o.rs.length o.cap) := HVC.out _ (R14.out.nth 5 (t := blkT B 47 V) rfl) 7 _ rfl
            have x0 : wc.cell? ⟨A, 0, none⟩ = some (.int .i64 z) := Whole.cell (R14.out.get2) 0
            have x1 : wc.cell? ⟨A, 1, none⟩ = some (.int .u64 f) := Whole.cell (R14.out.get2) 1
            have x2 : wc.cell? ⟨A, 2, none⟩ = some (.int .i64 l) := Whole.cell (R14.out.get2) 2
            have x3 : wc.cell? ⟨A, 3, none⟩ = some (.int .u64 t) := Whole.cell (R14.out.get2) 3
            have x4 : wc.cell? ⟨A, 4, none⟩ = some (.bool a) := Whole.cell (R14.out.get2) 4
            have y0 : wc.cell? ⟨A2, 0, none⟩ = some (.int .i64 z) := Whole.cell (R14.out.get0) 0
            have y1 : wc.cell? ⟨A2, 1, none⟩ = some (.int .u64 f) := Whole.cell (R14.out.get0) 1
            have y2 : wc.cell? ⟨A2, 2, none⟩ = some (.int .i64 l) := Whole.cell (R14.out.get0) 2
            have y3 : wc.cell? ⟨A2, 3, none⟩ = some (.int .u64 t) := Whole.cell (R14.out.get0) 3
            have y4 : wc.cell? ⟨A2, 4, none⟩ = some (.bool a) := Whole.cell (R14.out.get0) 4
            have heq := Tryz.eqSeg
            have hbb : (bs == bs) = true := by simp
            go_wp2_with fail
            refine (kept_any U o.a o.cap o.rs 71 cs wc (by have := HL.out; omega) (R14.out.nth 4 (t := blkT U 22 cs) rfl) HO.out (o.hr.below R14.out.bel)).mono ?_
            rintro e wd ⟨rfl, n, hw⟩
            have RT : Hid (Room w wd [fqT g own9 y, rqT r own8 y]) := Lib.hid (by
              rw [hw]
              exact (((R14.out.drewN n).less (M := [rqT r own8 y, fqT g own9 y]) (((((List.nil_sublist _).cons_cons _).cons _).cons_cons _).cons _)).swap))
            clear hw R14 d7 x0 x1 x2 x3 x4 y0 y1 y2 y3 y4 heq hbb HO HYS HSG HBS
            go_wp2_with fail
            refine (alike_any RT.out).mono ?_
            rintro e wz ⟨rfl, hrz⟩
            have RZ := Lib.hid hrz
            clear hrz RT
            go_wp2
            go_roundw
            case rel => exact ⟨j + 1, n2, _, _, _, by omega, by omega, by go_num, rfl, HN2.out, RZ.out⟩
            case measure => simp [intOf]; omega
        · have h3 : (o.k == 3) = false := by simp [hk3]
          by_cases hk4 : o.k = 4
          · have h4 : (o.k == 4) = true := by simp [hk4]
            have d8 := HCL.out 8 _ rfl; have d9 := HCL.out 9 _ rfl; have d10 := HCL.out 10 _ rfl; have d11 := HCL.out 11 _ rfl; have d12 := HCL.out 12 _ rfl; have d13 := HCL.out 13 _ rfl; have d14 := HCL.out 14 _ rfl; have d15 := HCL.out 15 _ rfl; have d16 := HCL.out 16 _ rfl
            go_upto_region 30 with fail
            clear d8 d9 d10 d11 d12 d13 d14 d15 d16 d0
            have R11 := Lib.hid (R10.out.box2 24 (confL o.c).toArray)
            obtain ⟨w8, hw8⟩ : ∃ w8, w8 = w7.alloc (.cells (confL o.c).toArray 24) := ⟨_, rfl⟩
            rw [← hw8] at R11
            unfold confL at hw8
            rw [← hw8]
            clear hw8 R10 HCL
            generalize w7.heap.size = C at *
            have d17 : w8.cell? ⟨B, 17, none⟩ = some (.bool o.raw) := HVC.out w8 R11.out.get3 17 _ rfl
            have HCO := Lib.hid o.hc
            cases hraw : o.raw with
            | true =>
              rw [hraw] at d17
              go_upto_region 32 with fail
              have RS := R11
              clear d17 R11
              generalize w8 = w9 at *
              obtain ⟨cc, hcc⟩ : ∃ cc, o.c = cc := ⟨_, rfl⟩
              rw [hcc] at RS HCO
              have HCC := HCO
              clear hcc
              obtain ⟨b0, b1, b2, b3, b4, b5, b6, b7, b8⟩ := nine_of (show Whole w9 C 24 (confL cc).toArray from RS.out.get2)
              go_wp2_with fail
              refine (RS.out.fqset cc HCC.out.2 HCC.out.1).mono ?_
              rintro e wa ⟨rfl, hra⟩
              have RA := Lib.hid hra
              clear b0 b1 b2 b3 b4 b5 b6 b7 b8 hra RS
              by_cases hok : cc.Ok
              · have HOK := Lib.hid hok
                have HDE : Hid (true = decide cc.Ok) := Lib.hid (decide_eq_true hok).symm
                have hra := RA.out
                rw [show setX x cc = { x with c := cc } from if_pos hok] at hra
                rw [show setV cc = 0 from if_pos hok]
                have RB := Lib.hid hra
                clear hok hra RA
                go_upto_region 33 with fail
                have RC := Lib.hid RB.out.drew
                clear RB
                refine wp_region_sch (fun W => Nine W C cc) [(true, 0), (true, 1), (true, 2), (false, 3), (true, 4), (true, 5), (true, 6), (true, 7), (true, 8), (true, 9), (true, 10), (true, 11), (true, 12), (true, 13), (true, 14), (true, 16), (false, 15), (false, 17), (true, 18), (true, 19), (true, 20)] (by kernel_rfl) (by kernel_rfl) (by kernel_rfl) (by kernel_rfl) (nine_of RC.out.get2) ?_
                generalize World.drew wa = wb at *
                (repeat (first | (refine wpSch_no rfl (fun _ _ _ h => h) (by rfl) ?_; (try simp only [Act.put, List.setIfInBounds_toArray, List.set_cons_zero, List.set_cons_succ])) | (refine wpSch_yes (v := ?_) rfl (fun _ _ _ h => h) (by rfl) ?_ ?_; rotate_left; (next => (intro w hSw; (try dsimp only at hSw); obtain ⟨a0, a1, a2, a3, a4, a5, a6, a7, a8⟩ := hSw; go_simp; (try with_reducible rfl))); (try simp only [Act.put, List.setIfInBounds_toArray, List.set_cons_zero, List.set_cons_succ]))))
                refine wpSch_call rfl (by rfl) (fun K hK => ?_); go_simp
                refine (rmay_any cc HCC.out.2 HCC.out.1 true HDE.out wb).mono ?_
                rintro e wc ⟨rfl, kc⟩
                have RD := Lib.hid (RC.out.kept kc)
                clear kc RC
                refine hK.out _ _ (nine_of RD.out.get2) (fun hHeld => ?_)
                clear hK K hHeld
                (try simp only [Act.put, List.setIfInBounds_toArray, List.set_cons_zero, List.set_cons_succ])
                (repeat (first | (refine wpSch_no rfl (fun _ _ _ h => h) (by rfl) ?_; (try simp only [Act.put, List.setIfInBounds_toArray, List.set_cons_zero, List.set_cons_succ])) | (refine wpSch_yes (v := ?_) rfl (fun _ _ _ h => h) (by rfl) ?_ ?_; rotate_left; (next => (intro w hSw; (try dsimp only at hSw); obtain ⟨a0, a1, a2, a3, a4, a5, a6, a7, a8⟩ := hSw; go_simp; (try with_reducible rfl))); (try simp only [Act.put, List.setIfInBounds_toArray, List.set_cons_zero, List.set_cons_succ]))))
                refine wpSch_call rfl (by rfl) (fun K hK => ?_); go_simp
                refine (may_any cc HCC.out.2 HCC.out.1 true HDE.out wc).mono ?_
                rintro e wd ⟨rfl, kd⟩
                have RE := Lib.hid (RD.out.kept kd)
                clear kd RD
                refine hK.out _ _ (nine_of RE.out.get2) (fun hHeld => ?_)
                clear hK K hHeld
                (try simp only [Act.put, List.setIfInBounds_toArray, List.set_cons_zero, List.set_cons_succ])
                (repeat (first | (refine wpSch_no rfl (fun _ _ _ h => h) (by rfl) ?_; (try simp only [Act.put, List.setIfInBounds_toArray, List.set_cons_zero, List.set_cons_succ])) | (refine wpSch_yes (v := ?_) rfl (fun _ _ _ h => h) (by rfl) ?_ ?_; rotate_left; (next => (intro w hSw; (try dsimp only at hSw); obtain ⟨a0, a1, a2, a3, a4, a5, a6, a7, a8⟩ := hSw; go_simp; (try with_reducible rfl))); (try simp only [Act.put, List.setIfInBounds_toArray, List.set_cons_zero, List.set_cons_succ]))))
                refine wpSch_call rfl (by rfl) (fun K hK => ?_); go_simp
                refine (rmay_any cc HCC.out.2 HCC.out.1 true HDE.out wd).mono ?_
                rintro e we ⟨rfl, ke⟩
                have RF := Lib.hid (RE.out.kept ke)
                clear ke RE
                refine hK.out _ _ (nine_of RF.out.get2) (fun hHeld => ?_)
                clear hK K hHeld
                (try simp only [Act.put, List.setIfInBounds_toArray, List.set_cons_zero, List.set_cons_succ])
                (repeat (first | (refine wpSch_no rfl (fun _ _ _ h => h) (by rfl) ?_; (try simp only [Act.put, List.setIfInBounds_toArray, List.set_cons_zero, List.set_cons_succ])) | (refine wpSch_yes (v := ?_) rfl (fun _ _ _ h => h) (by rfl) ?_ ?_; rotate_left; (next => (intro w hSw; (try dsimp only at hSw); obtain ⟨a0, a1, a2, a3, a4, a5, a6, a7, a8⟩ := hSw; go_simp; (try with_reducible rfl))); (try simp only [Act.put, List.setIfInBounds_toArray, List.set_cons_zero, List.set_cons_succ]))))
                refine wpSch_nil ?_
                obtain ⟨b0, b1, b2, b3, b4, b5, b6, b7, b8⟩ := nine_of (show Whole we C 24 (confL cc).toArray from RF.out.get2)
                go_wp2_with fail
                refine (rmay_any cc HCC.out.2 HCC.out.1 true HDE.out we).mono ?_
                rintro e wf ⟨rfl, kf⟩
                have RG := Lib.hid (RF.out.kept kf)
                clear kf RF b0 b1 b2 b3 b4 b5 b6 b7 b8
                obtain ⟨b0, b1, b2, b3, b4, b5, b6, b7, b8⟩ := nine_of (show Whole wf C 24 (confL cc).toArray from RG.out.get2)
                have RH := Lib.hid RG.out.swap
                have HTQ := Lib.hid RH.out.rqthere
                clear RG
                go_upto_region 38 with (refine wpList_store_mid rfl 24 (.tmp 170) (.tmp 168) rfl r 0 (confL cc).toArray rfl rfl HTQ.out Tryz.size24 (one_conf cc) ?_)
                try rw [show (confL cc).toArray.toList = confL cc from rfl]
                have RT : Hid (Room w (wf.setCells r 0 (confL cc)) [fqT g own' { x with c := cc }, rqT r own2' { x with c := cc }]) := Lib.hid ((RH.out.rqset cc HOK.out).less (M := [rqT r own2' { x with c := cc }, fqT g own' { x with c := cc }]) (((List.nil_sublist _).cons_cons _).cons_cons _)).swap
                clear RH HTQ b0 b1 b2 b3 b4 b5 b6 b7 b8
                generalize World.setCells wf _ _ _ = wg at *
                go_wp2_with fail
                refine (alike_any RT.out).mono ?_
                rintro e wz ⟨rfl, hrz⟩
                have RZ := Lib.hid hrz
                clear hrz RT
                go_wp2
                go_roundw
                case rel => exact ⟨j + 1, n2, _, _, _, by omega, by omega, by go_num, rfl, HN2.out, RZ.out⟩
                case measure => simp [intOf]; omega
              · have HOK := Lib.hid hok
                have HDE : Hid (false = decide cc.Ok) := Lib.hid (decide_eq_false hok).symm
                have hra := RA.out
                rw [show setX x cc = x from if_neg hok] at hra
                rw [show setV cc = 13 from if_neg hok]
                have RB := Lib.hid hra
                clear hok hra RA
                go_upto_region 33 with fail
                have RC := Lib.hid RB.out.drew
                clear RB
                refine wp_region_sch (fun W => Nine W C cc) [(true, 0), (true, 1), (true, 2), (false, 3), (true, 4), (true, 5), (true, 6), (true, 7), (true, 8), (true, 9), (true, 10), (true, 11), (true, 12), (true, 13), (true, 14), (true, 16), (false, 15), (false, 17), (true, 18), (true, 19), (true, 20)] (by kernel_rfl) (by kernel_rfl) (by kernel_rfl) (by kernel_rfl) (nine_of RC.out.get2) ?_
                generalize World.drew wa = wb at *
                (repeat (first | (refine wpSch_no rfl (fun _ _ _ h => h) (by rfl) ?_; (try simp only [Act.put, List.setIfInBounds_toArray, List.set_cons_zero, List.set_cons_succ])) | (refine wpSch_yes (v := ?_) rfl (fun _ _ _ h => h) (by rfl) ?_ ?_; rotate_left; (next => (intro w hSw; (try dsimp only at hSw); obtain ⟨a0, a1, a2, a3, a4, a5, a6, a7, a8⟩ := hSw; go_simp; (try with_reducible rfl))); (try simp only [Act.put, List.setIfInBounds_toArray, List.set_cons_zero, List.set_cons_succ]))))
                refine wpSch_call rfl (by rfl) (fun K hK => ?_); go_simp
                refine (rmay_any cc HCC.out.2 HCC.out.1 false HDE.out wb).mono ?_
                rintro e wc ⟨rfl, kc⟩
                have RD := Lib.hid (RC.out.kept kc)
                clear kc RC
                refine hK.out _ _ (nine_of RD.out.get2) (fun hHeld => ?_)
                clear hK K hHeld
                (try simp only [Act.put, List.setIfInBounds_toArray, List.set_cons_zero, List.set_cons_succ])
                (repeat (first | (refine wpSch_no rfl (fun _ _ _ h => h) (by rfl) ?_; (try simp only [Act.put, List.setIfInBounds_toArray, List.set_cons_zero, List.set_cons_succ])) | (refine wpSch_yes (v := ?_) rfl (fun _ _ _ h => h) (by rfl) ?_ ?_; rotate_left; (next => (intro w hSw; (try dsimp only at hSw); obtain ⟨a0, a1, a2, a3, a4, a5, a6, a7, a8⟩ := hSw; go_simp; (try with_reducible rfl))); (try simp only [Act.put, List.setIfInBounds_toArray, List.set_cons_zero, List.set_cons_succ]))))
                refine wpSch_call rfl (by rfl) (fun K hK => ?_); go_simp
                refine (may_any cc HCC.out.2 HCC.out.1 false HDE.out wc).mono ?_
                rintro e wd ⟨rfl, kd⟩
                have RE := Lib.hid (RD.out.kept kd)
                clear kd RD
                refine hK.out _ _ (nine_of RE.out.get2) (fun hHeld => ?_)
                clear hK K hHeld
                (try simp only [Act.put, List.setIfInBounds_toArray, List.set_cons_zero, List.set_cons_succ])
                (repeat (first | (refine wpSch_no rfl (fun _ _ _ h => h) (by rfl) ?_; (try simp only [Act.put, List.setIfInBounds_toArray, List.set_cons_zero, List.set_cons_succ])) | (refine wpSch_yes (v := ?_) rfl (fun _ _ _ h => h) (by rfl) ?_ ?_; rotate_left; (next => (intro w hSw; (try dsimp only at hSw); obtain ⟨a0, a1, a2, a3, a4, a5, a6, a7, a8⟩ := hSw; go_simp; (try with_reducible rfl))); (try simp only [Act.put, List.setIfInBounds_toArray, List.set_cons_zero, List.set_cons_succ]))))
                refine wpSch_call rfl (by rfl) (fun K hK => ?_); go_simp
                refine (rmay_any cc HCC.out.2 HCC.out.1 false HDE.out wd).mono ?_
                rintro e we ⟨rfl, ke⟩
                have RF := Lib.hid (RE.out.kept ke)
                clear ke RE
                refine hK.out _ _ (nine_of RF.out.get2) (fun hHeld => ?_)
                clear hK K hHeld
                (try simp only [Act.put, List.setIfInBounds_toArray, List.set_cons_zero, List.set_cons_succ])
                (repeat (first | (refine wpSch_no rfl (fun _ _ _ h => h) (by rfl) ?_; (try simp only [Act.put, List.setIfInBounds_toArray, List.set_cons_zero, List.set_cons_succ])) | (refine wpSch_yes (v := ?_) rfl (fun _ _ _ h => h) (by rfl) ?_ ?_; rotate_left; (next => (intro w hSw; (try dsimp only at hSw); obtain ⟨a0, a1, a2, a3, a4, a5, a6, a7, a8⟩ := hSw; go_simp; (try with_reducible rfl))); (try simp only [Act.put, List.setIfInBounds_toArray, List.set_cons_zero, List.set_cons_succ]))))
                refine wpSch_nil ?_
                obtain ⟨b0, b1, b2, b3, b4, b5, b6, b7, b8⟩ := nine_of (show Whole we C 24 (confL cc).toArray from RF.out.get2)
                go_wp2_with fail
                refine (rmay_any cc HCC.out.2 HCC.out.1 false HDE.out we).mono ?_
                rintro e wf ⟨rfl, kf⟩
                have RT : Hid (Room w wf [fqT g own' x, rqT r own2' x]) := Lib.hid ((RF.out.kept kf).less (((List.nil_sublist _).cons_cons _).cons_cons _))
                clear kf RF b0 b1 b2 b3 b4 b5 b6 b7 b8
                go_wp2_with fail
                refine (alike_any RT.out).mono ?_
                rintro e wz ⟨rfl, hrz⟩
                have RZ := Lib.hid hrz
                clear hrz RT
                go_wp2
                go_roundw
                case rel => exact ⟨j + 1, n2, _, _, _, by omega, by omega, by go_num, rfl, HN2.out, RZ.out⟩
                case measure => simp [intOf]; omega
            | false =>
              rw [hraw] at d17
              obtain ⟨b0, b1, b2, b3, b4, b5, b6, b7, b8⟩ := nine_of (show Whole w8 C 24 (confL o.c).toArray from R11.out.get2)
              go_wp2_with fail
              refine (playc_any o.c HCO.out.2 HCO.out.1 w8).mono ?_
              rintro e wp ⟨cc, rfl, hp, kp⟩
              have R12 := Lib.hid (R11.out.kept kp)
              have HCC : Hid (U64 cc.h ∧ U64 cc.r) := Lib.hid ⟨⟨hp.hh.1, by have := hp.hh.2; omega⟩, hp.hr⟩
              have HT := Lib.hid (there_conf (show Whole wp C 24 (confL o.c).toArray from R12.out.get2))
              clear hp kp b0 b1 b2 b3 b4 b5 b6 b7 b8 d17 R11
              go_upto_region 32 with (refine wpList_store_mid rfl 24 (.tmp 17) (.tmp 141) rfl C 0 (confL cc).toArray rfl rfl HT.out Tryz.size24 (one_conf cc) ?_)
              have RS := Lib.hid (R12.out.step2 (t' := blkT C 24 (confL cc).toArray) (whole_conf R12.out.get2) (Keep.setCells (S := fun k => k = C) rfl (confL cc) 0 (Keep.refl _ wp)) (fun k e => .inl e))
              try rw [show (confL cc).toArray.toList = confL cc from rfl]
              clear HT R12
              generalize World.setCells wp _ _ _ = w9 at *
              obtain ⟨b0, b1, b2, b3, b4, b5, b6, b7, b8⟩ := nine_of (show Whole w9 C 24 (confL cc).toArray from RS.out.get2)
              go_wp2_with fail
              refine (RS.out.fqset cc HCC.out.2 HCC.out.1).mono ?_
              rintro e wa ⟨rfl, hra⟩
              have RA := Lib.hid hra
              clear b0 b1 b2 b3 b4 b5 b6 b7 b8 hra RS
              by_cases hok : cc.Ok
              · have HOK := Lib.hid hok
                have HDE : Hid (true = decide cc.Ok) := Lib.hid (decide_eq_true hok).symm
                have hra := RA.out
                rw [show setX x cc = { x with c := cc } from if_pos hok] at hra
                rw [show setV cc = 0 from if_pos hok]
                have RB := Lib.hid hra
                clear hok hra RA
                go_upto_region 33 with fail
                have RC := Lib.hid RB.out.drew
                clear RB
                refine wp_region_sch (fun W => Nine W C cc) [(true, 0), (true, 1), (true, 2), (false, 3), (true, 4), (true, 5), (true, 6), (true, 7), (true, 8), (true, 9), (true, 10), (true, 11), (true, 12), (true, 13), (true, 14), (true, 16), (false, 15), (false, 17), (true, 18), (true, 19), (true, 20)] (by kernel_rfl) (by kernel_rfl) (by kernel_rfl) (by kernel_rfl) (nine_of RC.out.get2) ?_
                generalize World.drew wa = wb at *
                (repeat (first | (refine wpSch_no rfl (fun _ _ _ h => h) (by rfl) ?_; (try simp only [Act.put, List.setIfInBounds_toArray, List.set_cons_zero, List.set_cons_succ])) | (refine wpSch_yes (v := ?_) rfl (fun _ _ _ h => h) (by rfl) ?_ ?_; rotate_left; (next => (intro w hSw; (try dsimp only at hSw); obtain ⟨a0, a1, a2, a3, a4, a5, a6, a7, a8⟩ := hSw; go_simp; (try with_reducible rfl))); (try simp only [Act.put, List.setIfInBounds_toArray, List.set_cons_zero, List.set_cons_succ]))))
                refine wpSch_call rfl (by rfl) (fun K hK => ?_); go_simp
                refine (rmay_any cc HCC.out.2 HCC.out.1 true HDE.out wb).mono ?_
                rintro e wc ⟨rfl, kc⟩
                have RD := Lib.hid (RC.out.kept kc)
                clear kc RC
                refine hK.out _ _ (nine_of RD.out.get2) (fun hHeld => ?_)
                clear hK K hHeld
                (try simp only [Act.put, List.setIfInBounds_toArray, List.set_cons_zero, List.set_cons_succ])
                (repeat (first | (refine wpSch_no rfl (fun _ _ _ h => h) (by rfl) ?_; (try simp only [Act.put, List.setIfInBounds_toArray, List.set_cons_zero, List.set_cons_succ])) | (refine wpSch_yes (v := ?_) rfl (fun _ _ _ h => h) (by rfl) ?_ ?_; rotate_left; (next => (intro w hSw; (try dsimp only at hSw); obtain ⟨a0, a1, a2, a3, a4, a5, a6, a7, a8⟩ := hSw; go_simp; (try with_reducible rfl))); (try simp only [Act.put, List.setIfInBounds_toArray, List.set_cons_zero, List.set_cons_succ]))))
                refine wpSch_call rfl (by rfl) (fun K hK => ?_); go_simp
                refine (may_any cc HCC.out.2 HCC.out.1 true HDE.out wc).mono ?_
                rintro e wd ⟨rfl, kd⟩
                have RE := Lib.hid (RD.out.kept kd)
                clear kd RD
                refine hK.out _ _ (nine_of RE.out.get2) (fun hHeld => ?_)
                clear hK K hHeld
                (try simp only [Act.put, List.setIfInBounds_toArray, List.set_cons_zero, List.set_cons_succ])
                (repeat (first | (refine wpSch_no rfl (fun _ _ _ h => h) (by rfl) ?_; (try simp only [Act.put, List.setIfInBounds_toArray, List.set_cons_zero, List.set_cons_succ])) | (refine wpSch_yes (v := ?_) rfl (fun _ _ _ h => h) (by rfl) ?_ ?_; rotate_left; (next => (intro w hSw; (try dsimp only at hSw); obtain ⟨a0, a1, a2, a3, a4, a5, a6, a7, a8⟩ := hSw; go_simp; (try with_reducible rfl))); (try simp only [Act.put, List.setIfInBounds_toArray, List.set_cons_zero, List.set_cons_succ]))))
                refine wpSch_call rfl (by rfl) (fun K hK => ?_); go_simp
                refine (rmay_any cc HCC.out.2 HCC.out.1 true HDE.out wd).mono ?_
                rintro e we ⟨rfl, ke⟩
                have RF := Lib.hid (RE.out.kept ke)
                clear ke RE
                refine hK.out _ _ (nine_of RF.out.get2) (fun hHeld => ?_)
                clear hK K hHeld
                (try simp only [Act.put, List.setIfInBounds_toArray, List.set_cons_zero, List.set_cons_succ])
                (repeat (first | (refine wpSch_no rfl (fun _ _ _ h => h) (by rfl) ?_; (try simp only [Act.put, List.setIfInBounds_toArray, List.set_cons_zero, List.set_cons_succ])) | (refine wpSch_yes (v := ?_) rfl (fun _ _ _ h => h) (by rfl) ?_ ?_; rotate_left; (next => (intro w hSw; (try dsimp only at hSw); obtain ⟨a0, a1, a2, a3, a4, a5, a6, a7, a8⟩ := hSw; go_simp; (try with_reducible rfl))); (try simp only [Act.put, List.setIfInBounds_toArray, List.set_cons_zero, List.set_cons_succ]))))
                refine wpSch_nil ?_
                obtain ⟨b0, b1, b2, b3, b4, b5, b6, b7, b8⟩ := nine_of (show Whole we C 24 (confL cc).toArray from RF.out.get2)
                go_wp2_with fail
                refine (rmay_any cc HCC.out.2 HCC.out.1 true HDE.out we).mono ?_
                rintro e wf ⟨rfl, kf⟩
                have RG := Lib.hid (RF.out.kept kf)
                clear kf RF b0 b1 b2 b3 b4 b5 b6 b7 b8
                obtain ⟨b0, b1, b2, b3, b4, b5, b6, b7, b8⟩ := nine_of (show Whole wf C 24 (confL cc).toArray from RG.out.get2)
                have RH := Lib.hid RG.out.swap
                have HTQ := Lib.hid RH.out.rqthere
                clear RG
                go_upto_region 38 with (refine wpList_store_mid rfl 24 (.tmp 170) (.tmp 168) rfl r 0 (confL cc).toArray rfl rfl HTQ.out Tryz.size24 (one_conf cc) ?_)
                try rw [show (confL cc).toArray.toList = confL cc from rfl]
                have RT : Hid (Room w (wf.setCells r 0 (confL cc)) [fqT g own' { x with c := cc }, rqT r own2' { x with c := cc }]) := Lib.hid ((RH.out.rqset cc HOK.out).less (M := [rqT r own2' { x with c := cc }, fqT g own' { x with c := cc }]) (((List.nil_sublist _).cons_cons _).cons_cons _)).swap
                clear RH HTQ b0 b1 b2 b3 b4 b5 b6 b7 b8
                generalize World.setCells wf _ _ _ = wg at *
                go_wp2_with fail
                refine (alike_any RT.out).mono ?_
                rintro e wz ⟨rfl, hrz⟩
                have RZ := Lib.hid hrz
                clear hrz RT
                go_wp2
                go_roundw
                case rel => exact ⟨j + 1, n2, _, _, _, by omega, by omega, by go_num, rfl, HN2.out, RZ.out⟩
                case measure => simp [intOf]; omega
              · have HOK := Lib.hid hok
                have HDE : Hid (false = decide cc.Ok) := Lib.hid (decide_eq_false hok).symm
                have hra := RA.out
                rw [show setX x cc = x from if_neg hok] at hra
                rw [show setV cc = 13 from if_neg hok]
                have RB := Lib.hid hra
                clear hok hra RA
                go_upto_region 33 with fail
                have RC := Lib.hid RB.out.drew
                clear RB
                refine wp_region_sch (fun W => Nine W C cc) [(true, 0), (true, 1), (true, 2), (false, 3), (true, 4), (true, 5), (true, 6), (true, 7), (true, 8), (true, 9), (true, 10), (true, 11), (true, 12), (true, 13), (true, 14), (true, 16), (false, 15), (false, 17), (true, 18), (true, 19), (true, 20)] (by kernel_rfl) (by kernel_rfl) (by kernel_rfl) (by kernel_rfl) (nine_of RC.out.get2) ?_
                generalize World.drew wa = wb at *
                (repeat (first | (refine wpSch_no rfl (fun _ _ _ h => h) (by rfl) ?_; (try simp only [Act.put, List.setIfInBounds_toArray, List.set_cons_zero, List.set_cons_succ])) | (refine wpSch_yes (v := ?_) rfl (fun _ _ _ h => h) (by rfl) ?_ ?_; rotate_left; (next => (intro w hSw; (try dsimp only at hSw); obtain ⟨a0, a1, a2, a3, a4, a5, a6, a7, a8⟩ := hSw; go_simp; (try with_reducible rfl))); (try simp only [Act.put, List.setIfInBounds_toArray, List.set_cons_zero, List.set_cons_succ]))))
                refine wpSch_call rfl (by rfl) (fun K hK => ?_); go_simp
                refine (rmay_any cc HCC.out.2 HCC.out.1 false HDE.out wb).mono ?_
                rintro e wc ⟨rfl, kc⟩
                have RD := Lib.hid (RC.out.kept kc)
                clear kc RC
                refine hK.out _ _ (nine_of RD.out.get2) (fun hHeld => ?_)
                clear hK K hHeld
                (try simp only [Act.put, List.setIfInBounds_toArray, List.set_cons_zero, List.set_cons_succ])
                (repeat (first | (refine wpSch_no rfl (fun _ _ _ h => h) (by rfl) ?_; (try simp only [Act.put, List.setIfInBounds_toArray, List.set_cons_zero, List.set_cons_succ])) | (refine wpSch_yes (v := ?_) rfl (fun _ _ _ h => h) (by rfl) ?_ ?_; rotate_left; (next => (intro w hSw; (try dsimp only at hSw); obtain ⟨a0, a1, a2, a3, a4, a5, a6, a7, a8⟩ := hSw; go_simp; (try with_reducible rfl))); (try simp only [Act.put, List.setIfInBounds_toArray, List.set_cons_zero, List.set_cons_succ]))))
                refine wpSch_call rfl (by rfl) (fun K hK => ?_); go_simp
                refine (may_any cc HCC.out.2 HCC.out.1 false HDE.out wc).mono ?_
                rintro e wd ⟨rfl, kd⟩
                have RE := Lib.hid (RD.out.kept kd)
                clear kd RD
                refine hK.out _ _ (nine_of RE.out.get2) (fun hHeld => ?_)
                clear hK K hHeld
                (try simp only [Act.put, List.setIfInBounds_toArray, List.set_cons_zero, List.set_cons_succ])
                (repeat (first | (refine wpSch_no rfl (fun _ _ _ h => h) (by rfl) ?_; (try simp only [Act.put, List.setIfInBounds_toArray, List.set_cons_zero, List.set_cons_succ])) | (refine wpSch_yes (v := ?_) rfl (fun _ _ _ h => h) (by rfl) ?_ ?_; rotate_left; (next => (intro w hSw; (try dsimp only at hSw); obtain ⟨a0, a1, a2, a3, a4, a5, a6, a7, a8⟩ := hSw; go_simp; (try with_reducible rfl))); (try simp only [Act.put, List.setIfInBounds_toArray, List.set_cons_zero, List.set_cons_succ]))))
                refine wpSch_call rfl (by rfl) (fun K hK => ?_); go_simp
                refine (rmay_any cc HCC.out.2 HCC.out.1 false HDE.out wd).mono ?_
                rintro e we ⟨rfl, ke⟩
                have RF := Lib.hid (RE.out.kept ke)
                clear ke RE
                refine hK.out _ _ (nine_of RF.out.get2) (fun hHeld => ?_)
                clear hK K hHeld
                (try simp only [Act.put, List.setIfInBounds_toArray, List.set_cons_zero, List.set_cons_succ])
                (repeat (first | (refine wpSch_no rfl (fun _ _ _ h => h) (by rfl) ?_; (try simp only [Act.put, List.setIfInBounds_toArray, List.set_cons_zero, List.set_cons_succ])) | (refine wpSch_yes (v := ?_) rfl (fun _ _ _ h => h) (by rfl) ?_ ?_; rotate_left; (next => (intro w hSw; (try dsimp only at hSw); obtain ⟨a0, a1, a2, a3, a4, a5, a6, a7, a8⟩ := hSw; go_simp; (try with_reducible rfl))); (try simp only [Act.put, List.setIfInBounds_toArray, List.set_cons_zero, List.set_cons_succ]))))
                refine wpSch_nil ?_
                obtain ⟨b0, b1, b2, b3, b4, b5, b6, b7, b8⟩ := nine_of (show Whole we C 24 (confL cc).toArray from RF.out.get2)
                go_wp2_with fail
                refine (rmay_any cc HCC.out.2 HCC.out.1 false HDE.out we).mono ?_
                rintro e wf ⟨rfl, kf⟩
                have RT : Hid (Room w wf [fqT g own' x, rqT r own2' x]) := Lib.hid ((RF.out.kept kf).less (((List.nil_sublist _).cons_cons _).cons_cons _))
                clear kf RF b0 b1 b2 b3 b4 b5 b6 b7 b8
                go_wp2_with fail
                refine (alike_any RT.out).mono ?_
                rintro e wz ⟨rfl, hrz⟩
                have RZ := Lib.hid hrz
                clear hrz RT
                go_wp2
                go_roundw
                case rel => exact ⟨j + 1, n2, _, _, _, by omega, by omega, by go_num, rfl, HN2.out, RZ.out⟩
                case measure => simp [intOf]; omega
          · have h4 : (o.k == 4) = false := by simp [hk4]
            by_cases hk5 : o.k = 5
            · have h5 : (o.k == 5) = true := by simp [hk5]
              go_upto_region 37 with fail
              clear d0
              have HSS : Hid (∀ wx : World, Whole wx B 47 V → wx.cell? ⟨B, 2, none⟩ = some (.int .i64 o.s.s)) := Lib.hid (fun wx hx => HVC.out wx hx 2 _ rfl)
              have HLN := Lib.hid (flow_len R10.out.swap.rqok o.s.s)
              obtain ⟨z, hz⟩ : ∃ z, o.s.s = z := ⟨_, rfl⟩
              rw [hz] at HSS HLN
              clear hz
              have R11 := Lib.hid R10.out.drew
              clear R10 HCL
              refine wp_region_sch (fun W => W.cell? ⟨B, 2, none⟩ = some (.int .i64 z)) [(true, 0), (true, 1), (true, 2), (true, 3), (true, 5), (true, 6), (true, 7), (true, 8), (false, 4), (false, 9), (false, 10), (true, 11)] (by kernel_rfl) (by kernel_rfl) (by kernel_rfl) (by kernel_rfl) (HSS.out _ R11.out.get2) ?_
              generalize World.drew w7 = w8 at *
              (repeat (refine wpSch_yes (v := ?_) rfl (fun _ _ _ h => h) (by rfl) ?_ ?_; rotate_left; (next => (intro w hSw; (try dsimp only at hSw); have hS1 := hSw; go_simp; (try with_reducible rfl))); (try simp only [Act.put, List.setIfInBounds_toArray, List.set_cons_zero, List.set_cons_succ])))
              refine wpSch_call rfl (by rfl) (fun K hK => ?_); go_simp
              refine (R11.out.fqclose z).mono ?_
              rintro e w9 ⟨V1, own9, rfl, hr9⟩
              obtain ⟨f, hf⟩ : ∃ f, flowF x z = f := ⟨_, rfl⟩
              have hl := HLN.out
              rw [hf] at hr9 hl
              have HFF := Lib.hid hf; have HL := Lib.hid hl
              obtain ⟨a1, c1, rfl⟩ := sgs_shape hr9.get0
              have R12 := Lib.hid (hr9.perm (M := [rqT r own2' x, fqT g own9 (clsQ x z), sgsT 44 (.slice a1 f.q.length c1) f.q, blkT B 47 V]) ((List.Perm.cons _ (List.Perm.swap _ _ _)).trans ((List.Perm.swap _ _ _).trans (List.Perm.cons _ (List.Perm.swap _ _ _)))))
              clear hf hl hr9 R11 HLN
              refine hK.out _ _ (HSS.out _ (R12.out.get3)) (fun hHeld => ?_)
              clear hK K hHeld
              (try simp only [Act.put, List.setIfInBounds_toArray, List.set_cons_zero, List.set_cons_succ])
              refine wpSch_call rfl (by rfl) (fun K hK => ?_); go_simp
              refine (R12.out.rqclose z).mono ?_
              rintro e wa ⟨V2, own8, rfl, hr8⟩
              rw [HFF.out] at hr8
              obtain ⟨a2, c2, rfl⟩ := sgs_shape hr8.get0
              have R13 := Lib.hid hr8
              clear hr8 R12
              refine hK.out _ _ (HSS.out _ (R13.out.nth 4 (t := blkT B 47 V) rfl)) (fun hHeld => ?_)
              clear hK K hHeld
              (try simp only [Act.put, List.setIfInBounds_toArray, List.set_cons_zero, List.set_cons_succ])
              refine wpSch_call rfl (by rfl) (fun K hK => ?_); go_simp
              refine (plain_sg _ _ f.q wa HL.out R13.out.get3 R13.out.get0).mono ?_
              rintro e wb ⟨rfl, kb⟩
              have R14 := Lib.hid (R13.out.kept kb)
              clear kb R13
              refine hK.out _ _ (HSS.out _ (R14.out.nth 4 (t := blkT B 47 V) rfl)) (fun hHeld => ?_)
              clear hK K hHeld
              (try simp only [Act.put, List.setIfInBounds_toArray, List.set_cons_zero, List.set_cons_succ])
              (repeat (refine wpSch_yes (v := ?_) rfl (fun _ _ _ h => h) (by rfl) ?_ ?_; rotate_left; (next => (intro w hSw; (try dsimp only at hSw); have hS1 := hSw; go_simp; (try with_reducible rfl))); (try simp only [Act.put, List.setIfInBounds_toArray, List.set_cons_zero, List.set_cons_succ])))
              refine wpSch_nil ?_
              have RT : Hid (Room w wb [fqT g own9 (clsQ x z), rqT r own8 (clsQ x z)]) := Lib.hid (R14.out.less (M := [rqT r own8 (clsQ x z), fqT g own9 (clsQ x z)]) (((List.nil_sublist _).cons_cons _).cons_cons _ |>.cons _)).swap
              clear R14 HSS HFF HL
              go_wp2_with fail
              refine (alike_any RT.out).mono ?_
              rintro e wz ⟨rfl, hrz⟩
              have RZ := Lib.hid hrz
              clear hrz RT
              go_wp2
              go_roundw
              case rel => exact ⟨j + 1, n2, _, _, _, by omega, by omega, by go_num, rfl, HN2.out, RZ.out⟩
              case measure => simp [intOf]; omega
            · have h5 : (o.k == 5) = false := by simp [hk5]
              have d2 := HCL.out 2 _ rfl; have d3 := HCL.out 3 _ rfl; have d4 := HCL.out 4 _ rfl; have d5 := HCL.out 5 _ rfl; have d6 := HCL.out 6 _ rfl
              have HFS := Lib.hid o.hs
              go_upto_region 15 with fail
              clear d2 d3 d4 d5 d6 d0
              have R11 := Lib.hid (R10.out.box2 44 (sgL o.s).toArray)
              obtain ⟨w8, hw8⟩ : ∃ w8, w8 = w7.alloc (.cells (sgL o.s).toArray 44) := ⟨_, rfl⟩
              rw [← hw8] at R11
              unfold sgL at hw8
              rw [← hw8]
              clear hw8 R10 HCL
              generalize w7.heap.size = S at *
              have d17 : w8.cell? ⟨B, 17, none⟩ = some (.bool o.raw) := HVC.out w8 R11.out.get3 17 _ rfl
              obtain ⟨so, hso⟩ : ∃ so, o.s = so := ⟨_, rfl⟩
              rw [hso] at HFS R11
              clear hso
              obtain ⟨z, f, l, t, a⟩ := so
              cases hraw : o.raw with
              | true =>
                rw [hraw] at d17
                go_upto_region 17 with fail
                have RS := Lib.hid (show Room w w8 [fqT g own' x, rqT r own2' x, blkT S 44 #[.int .i64 z, .int .u64 f, .int .i64 l, .int .u64 t, .bool a], blkT B 47 V] from R11.out)
                have HFT := HFS
                clear d17 R11
                generalize w8 = w9 at *
                have c0 : w9.cell? ⟨S, 0, none⟩ = some (.int .i64 z) := Whole.cell (RS.out.get2) 0
                have c1 : w9.cell? ⟨S, 1, none⟩ = some (.int .u64 f) := Whole.cell (RS.out.get2) 1
                have c2 : w9.cell? ⟨S, 2, none⟩ = some (.int .i64 l) := Whole.cell (RS.out.get2) 2
                have c3 : w9.cell? ⟨S, 3, none⟩ = some (.int .u64 t) := Whole.cell (RS.out.get2) 3
                have c4 : w9.cell? ⟨S, 4, none⟩ = some (.bool a) := Whole.cell (RS.out.get2) 4
                go_wp2_with fail
                refine (RS.out.fqenq ⟨z, f, l, t, a⟩ n2 HU2.out HFT.out.1 HFT.out.2).mono ?_
                rintro e wa ⟨rfl, own9, hra⟩
                clear c0 c1 c2 c3 c4 RS
                have RA := Lib.hid hra.swap
                clear hra
                obtain ⟨fv, hfv⟩ : ∃ fv, enqV x ⟨z, f, l, t, a⟩ n2 = fv := ⟨_, rfl⟩
                obtain ⟨fe, hfe⟩ : ∃ fe, enqE ⟨z, f, l, t, a⟩ = fe := ⟨_, rfl⟩
                have HFV := Lib.hid hfv; have HFE := Lib.hid hfe
                rw [hfv, hfe]
                clear hfv hfe
                have c0 : wa.cell? ⟨S, 0, none⟩ = some (.int .i64 z) := Whole.cell (RA.out.get2) 0
                have c1 : wa.cell? ⟨S, 1, none⟩ = some (.int .u64 f) := Whole.cell (RA.out.get2) 1
                have c2 : wa.cell? ⟨S, 2, none⟩ = some (.int .i64 l) := Whole.cell (RA.out.get2) 2
                have c3 : wa.cell? ⟨S, 3, none⟩ = some (.int .u64 t) := Whole.cell (RA.out.get2) 3
                have c4 : wa.cell? ⟨S, 4, none⟩ = some (.bool a) := Whole.cell (RA.out.get2) 4
                go_wp2_with fail
                refine (RA.out.rqenq ⟨z, f, l, t, a⟩ n2 HU2.out HFT.out.1 HFT.out.2).mono ?_
                rintro e wb ⟨rfl, own8, hrb⟩
                rw [HFV.out, HFE.out]
                obtain ⟨y, hy⟩ : ∃ y, enqQ x ⟨z, f, l, t, a⟩ n2 = y := ⟨_, rfl⟩
                rw [hy] at hrb RA
                have RT : Hid (Room w wb [fqT g own9 y, rqT r own8 y]) := Lib.hid (hrb.less (M := [rqT r own8 y, fqT g own9 y]) (((List.nil_sublist _).cons_cons _).cons_cons _)).swap
                clear c0 c1 c2 c3 c4 RA hrb hy HFV HFE HFT
                have e1 : (fv == fv) = true := by simp
                have e2 : (fe == fe) = true := by simp
                go_upto_region 38 with fail
                clear e1 e2
                go_wp2_with fail
                refine (alike_any RT.out).mono ?_
                rintro e wz ⟨rfl, hrz⟩
                have RZ := Lib.hid hrz
                clear hrz RT
                go_wp2
                go_roundw
                case rel => exact ⟨j + 1, n2, _, _, _, by omega, by omega, by go_num, rfl, HN2.out, RZ.out⟩
                case measure => simp [intOf]; omega
              | false =>
                rw [hraw] at d17
                have c0 : w8.cell? ⟨S, 0, none⟩ = some (.int .i64 z) := Whole.cell (R11.out.get2) 0
                have c1 : w8.cell? ⟨S, 1, none⟩ = some (.int .u64 f) := Whole.cell (R11.out.get2) 1
                have c2 : w8.cell? ⟨S, 2, none⟩ = some (.int .i64 l) := Whole.cell (R11.out.get2) 2
                have c3 : w8.cell? ⟨S, 3, none⟩ = some (.int .u64 t) := Whole.cell (R11.out.get2) 3
                have c4 : w8.cell? ⟨S, 4, none⟩ = some (.bool a) := Whole.cell (R11.out.get2) 4
                go_wp2_with fail
                refine (plays_any ⟨z, f, l, t, a⟩ w8).mono ?_
                rintro e wp ⟨z2, l2, rfl, _, _, kp⟩
                have R12 := Lib.hid (R11.out.kept kp)
                have HT := Lib.hid (there_sg (show Whole wp S 44 (sgL ⟨z, f, l, t, a⟩).toArray from R12.out.get2))
                clear kp c0 c1 c2 c3 c4 d17 R11
                dsimp only [Sg.v]
                go_upto_region 17 with (refine wpList_store_mid rfl 44 (.tmp 19) (.tmp 71) rfl S 0 (sgL ⟨z2, f, l2, t, a⟩).toArray rfl rfl HT.out Tryz.sizeSgL (one_sgL _) ?_)
                have RS := Lib.hid (R12.out.step2 (t' := blkT S 44 #[.int .i64 z2, .int .u64 f, .int .i64 l2, .int .u64 t, .bool a]) (whole_sg (p := ⟨z2, f, l2, t, a⟩) R12.out.get2) (Keep.setCells (S := fun k => k = S) rfl (sgL ⟨z2, f, l2, t, a⟩) 0 (Keep.refl _ wp)) (fun k e => .inl e))
                try rw [show (sgL ⟨z2, f, l2, t, a⟩).toArray.toList = sgL ⟨z2, f, l2, t, a⟩ from rfl]
                have HFT := HFS
                clear HT R12
                generalize World.setCells wp _ _ _ = w9 at *
                clear HFS
                generalize z2 = z at *
                generalize l2 = l at *
                have c0 : w9.cell? ⟨S, 0, none⟩ = some (.int .i64 z) := Whole.cell (RS.out.get2) 0
                have c1 : w9.cell? ⟨S, 1, none⟩ = some (.int .u64 f) := Whole.cell (RS.out.get2) 1
                have c2 : w9.cell? ⟨S, 2, none⟩ = some (.int .i64 l) := Whole.cell (RS.out.get2) 2
                have c3 : w9.cell? ⟨S, 3, none⟩ = some (.int .u64 t) := Whole.cell (RS.out.get2) 3
                have c4 : w9.cell? ⟨S, 4, none⟩ = some (.bool a) := Whole.cell (RS.out.get2) 4
                go_wp2_with fail
                refine (RS.out.fqenq ⟨z, f, l, t, a⟩ n2 HU2.out HFT.out.1 HFT.out.2).mono ?_
                rintro e wa ⟨rfl, own9, hra⟩
                clear c0 c1 c2 c3 c4 RS
                have RA := Lib.hid hra.swap
                clear hra
                obtain ⟨fv, hfv⟩ : ∃ fv, enqV x ⟨z, f, l, t, a⟩ n2 = fv := ⟨_, rfl⟩
                obtain ⟨fe, hfe⟩ : ∃ fe, enqE ⟨z, f, l, t, a⟩ = fe := ⟨_, rfl⟩
                have HFV := Lib.hid hfv; have HFE := Lib.hid hfe
                rw [hfv, hfe]
                clear hfv hfe
                have c0 : wa.cell? ⟨S, 0, none⟩ = some (.int .i64 z) := Whole.cell (RA.out.get2) 0
                have c1 : wa.cell? ⟨S, 1, none⟩ = some (.int .u64 f) := Whole.cell (RA.out.get2) 1
                have c2 : wa.cell? ⟨S, 2, none⟩ = some (.int .i64 l) := Whole.cell (RA.out.get2) 2
                have c3 : wa.cell? ⟨S, 3, none⟩ = some (.int .u64 t) := Whole.cell (RA.out.get2) 3
                have c4 : wa.cell? ⟨S, 4, none⟩ = some (.bool a) := Whole.cell (RA.out.get2) 4
                go_wp2_with fail
                refine (RA.out.rqenq ⟨z, f, l, t, a⟩ n2 HU2.out HFT.out.1 HFT.out.2).mono ?_
                rintro e wb ⟨rfl, own8, hrb⟩
                rw [HFV.out, HFE.out]
                obtain ⟨y, hy⟩ : ∃ y, enqQ x ⟨z, f, l, t, a⟩ n2 = y := ⟨_, rfl⟩
                rw [hy] at hrb RA
                have RT : Hid (Room w wb [fqT g own9 y, rqT r own8 y]) := Lib.hid (hrb.less (M := [rqT r own8 y, fqT g own9 y]) (((List.nil_sublist _).cons_cons _).cons_cons _)).swap
                clear c0 c1 c2 c3 c4 RA hrb hy HFV HFE HFT
                have e1 : (fv == fv) = true := by simp
                have e2 : (fe == fe) = true := by simp
                go_upto_region 38 with fail
                clear e1 e2
                go_wp2_with fail
                refine (alike_any RT.out).mono ?_
                rintro e wz ⟨rfl, hrz⟩
                have RZ := Lib.hid hrz
                clear hrz RT
                go_wp2
                go_roundw
                case rel => exact ⟨j + 1, n2, _, _, _, by omega, by omega, by go_num, rfl, HN2.out, RZ.out⟩
                case measure => simp [intOf]; omega
    · have hlt2 : ¬ (j : Int) < (zs.length : Int) ∨ ¬ (j : Int) < 100 := by omega
      clear hlt
      rcases hlt2 with h | h
      · go_wp2
        go_ret
        exact ⟨rfl, R.out.bel⟩
      · by_cases h2 : (j : Int) < (zs.length : Int)
        · go_wp2
          go_ret
          exact ⟨rfl, R.out.bel⟩
        · go_wp2
          go_ret
          exact ⟨rfl, R.out.bel⟩
end Go.Proofs.YtnljjdfajmjdjaaGreat
