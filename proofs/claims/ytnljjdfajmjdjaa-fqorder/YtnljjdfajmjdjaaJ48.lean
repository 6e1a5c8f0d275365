/-
  canterlaw20.FqOrder, walked. Conditions: numbers are of their kind.
-/
import Derived.Test.YtnljjdfajmjdjaaJ34
import Derived.Test.YtnljjdfajmjdjaaJ43
import Derived.Test.YtnljjdfajmjdjaaJ47
import Derived.Test.YtnljjdfajmjdjaaJ21
import Derived.LoopTactic
namespace Go.Proofs.Ytnljjdfajmjdjaa
open Go.RowKit
set_option maxRecDepth 100000
set_option linter.unusedSimpArgs false
set_option linter.unusedVariables false

theorem and7 {i : Nat} (h : i < 8) : bits BinOp.and IntKind.i64 (i : Int) 7 = (i : Int) := by
  match i, h with
  | 0, _ => decide
  | 1, _ => decide
  | 2, _ => decide
  | 3, _ => decide
  | 4, _ => decide
  | 5, _ => decide
  | 6, _ => decide
  | 7, _ => decide
/-- A flow, be it there or not: its segments are a thing of the room. -/
theorem Room.fqflow {wB w : World} {L : List Thing} {g : Nat} {own : Nat → Prop} {x : Qm} (h : Room wB w (fqT g own x :: L)) (hx : x.Ok) {i : Nat} (hi : i < 8) : Calls Try.prog 20 #[.pointer (some ⟨g, 0, none⟩), .int .i64 (i : Int)] w fun e w' => ∃ V, e = .returned (.tuple #[Fl.v V (x.F i), .bool (x.T i)]) ∧ Room wB w' (fqT g own x :: sgsT 34 V (x.F i).q :: L) := by
  cases ht : x.T i with
  | true => exact h.fqflow_yes hi ht
  | false =>
    have hn : ¬ ((0 ≤ (i : Int) ∧ (i : Int) < 8) ∧ x.T ((i : Int)).toNat = true) := fun e => by
      have h1 := e.2
      rw [show ((i : Int)).toNat = i from rfl, ht] at h1
      cases h1
    rw [hx.no i hi ht]
    refine (h.fqflow_no (i : Int) hn).mono ?_
    rintro e w' ⟨rfl, hr⟩
    exact ⟨.slice none 0 0, rfl, (hr.add (t := sgsT 34 (.slice none 0 0) []) (sgs_nil w' 34) (Keep.refl _ w') (fun k e => by cases e)).perm (List.Perm.swap _ _ _)⟩
set_option maxRecDepth 100000 in
set_option maxHeartbeats 4000000 in
theorem order_walk (c : Cf) (a : Option Addr) (cap : Nat) (hc : U64 c.h ∧ U64 c.r) (w : World) (zs : List (FOp w)) (hzl : zs.length ≤ 9223372036854775807) (hrd : RdL 18 cells18 w a zs) :
    Calls Try.prog 8 #[c.v, .slice a zs.length cap] w fun e w' => e = .returned (.bool true) ∧ Below w.heap.size w w' := by
  obtain ⟨i0, hi0, hz0, hz1, hz2⟩ := Try.partsUR
  have HI0 := Lib.hid hi0; have HZ0 := Lib.hid hz0; have HZ1 := Lib.hid hz1; have HZ2 := Lib.hid hz2
  clear hi0 hz0 hz1 hz2
  have HC := Lib.hid hc; have HRD := Lib.hid hrd; have HZL := Lib.hid hzl
  have R0 := Lib.hid ((Room.begin w).box 24 (confL c).toArray)
  obtain ⟨w1, hw1⟩ : ∃ w1, w1 = w.alloc (.cells (confL c).toArray 24) := ⟨_, rfl⟩
  rw [← hw1] at R0
  unfold confL at hw1
  clear hc hrd hzl
  dsimp only [Cf.v]
  go_enter Try.func8, Try.ntmps8
  go_wp2_with fail
  rw [← hw1]
  clear hw1
  refine (playc_any c HC.out.2 HC.out.1 w1).mono ?_
  rintro e w2 ⟨p, rfl, hp, k2⟩
  have R2 := Lib.hid (R0.out.kept k2); have HP := Lib.hid hp
  clear k2 hp R0
  have HT := Lib.hid (there_conf (show Whole w2 w.heap.size 24 (confL c).toArray from R2.out.get0))
  go_upto_region 2 with (refine wpList_store_mid rfl 24 (.tmp 2) (.tmp 24) rfl w.heap.size 0 (confL p).toArray rfl rfl HT.out Try.size24 (one_conf p) ?_)
  have R3 := Lib.hid (R2.out.step0 (t' := confT w.heap.size p) (whole_conf R2.out.get0) (Keep.setCells (S := fun k => k = w.heap.size) rfl (confL p) 0 (Keep.refl _ w2)) (fun k e => .inl e))
  try rw [show (confL p).toArray.toList = confL p from rfl]
  clear HT R2
  generalize World.setCells w2 _ _ _ = w3 at *
  obtain ⟨b0, b1, b2, b3, b4, b5, b6, b7, b8⟩ := nine_of (show Whole w3 w.heap.size 24 (confL p).toArray from R3.out.get0)
  go_wp2_with fail
  refine (R3.out.fqnew p HP.out).mono ?_
  rintro e w4 ⟨g, own, rfl, hr4⟩
  have R4 := Lib.hid hr4
  clear hr4 R3 b0 b1 b2 b3 b4 b5 b6 b7 b8
  go_wp2_with fail
  refine (awakef_any w4).mono ?_
  rintro e w5 ⟨rfl, k5⟩
  have ra := ((R4.out.kept k5).less (M := [fqT g own (newQ p)]) (by simp)).box1 66 (arC fun _ => .slice none 0 0)
  have rb := (ra.step1 (t' := arrT w5.heap.size (fun _ => .slice none 0 0) (fun _ => [])) (ArrAt.new ra.get1) (Keep.refl _ _) (fun k e => by
    rcases e with e | ⟨_, _, e⟩
    · exact .inl e
    · cases e)).box2 66 (arC fun _ => .slice none 0 0)
  obtain ⟨w6, hw6⟩ : ∃ w6, w6 = w5.alloc (.cells (arC fun _ => .slice none 0 0) 66) := ⟨_, rfl⟩
  have hsz6 : w6.heap.size = w5.heap.size + 1 := by rw [hw6]; simp
  rw [← hw6, hsz6] at rb
  have R5 := Lib.hid (rb.step2 (t' := arrT (w5.heap.size + 1) (fun _ => .slice none 0 0) (fun _ => [])) (ArrAt.new rb.get2) (Keep.refl _ _) (fun k e => by
    rcases e with e | ⟨_, _, e⟩
    · exact .inl e
    · cases e))
  clear k5 R4 ra rb
  go_upto_region 8 with fail
  rw [show #[Value.slice none 0 0, Value.slice none 0 0, Value.slice none 0 0, Value.slice none 0 0, Value.slice none 0 0, Value.slice none 0 0, Value.slice none 0 0, Value.slice none 0 0] = arC fun _ => .slice none 0 0 from rfl]
  rw [← hw6]
  try rw [hsz6]
  clear hsz6 hw6
  obtain ⟨GB, hGB⟩ : ∃ GB, GB = w5.heap.size + 1 := ⟨_, rfl⟩
  rw [← hGB] at R5 ⊢
  generalize hPB : w5.heap.size = PB at *
  generalize World.alloc w6 _ = w6' at *
  clear hPB hGB
  go_loopw [7, 8, 11] (fun nv cv i wr => ∃ (j m : Nat) (nw : Int) (own' : Nat → Prop) (x : Qm) (vp vg : Nat → Value) (lp lg : Nat → List Int), j ≤ zs.length ∧ j ≤ 100 ∧ m ≤ j ∧ i = .int .i64 j ∧ cv = .int .u64 m ∧ nv = .int .u64 nw ∧ (0 ≤ nw ∧ nw ≤ 4611686018427387904) ∧ x.c = p ∧ Order x lp lg ∧ (∀ k, (lp k).length ≤ j ∧ (lg k).length ≤ j) ∧ Room w wr [fqT g own' x, arrT GB vg lg, arrT PB vp lp]) (fun _ _ i _ => 100 - (intOf i).toNat)
  case atStart => exact ⟨0, 0, 0, own, _, _, _, fun _ => [], fun _ => [], by omega, by omega, by omega, rfl, rfl, rfl, by omega, rfl, fun k hk => rfl, fun k => ⟨Nat.le_refl 0, Nat.le_refl 0⟩, R5.out.perm (List.Perm.cons _ (List.Perm.swap _ _ _))⟩
  case round =>
    obtain ⟨j, m, nw, own', x, vp, vg, lp, lg, hj1, hj2, hmj, rfl, rfl, rfl, hnw, hxc, hor, hll, hr⟩ := hrel
    have R := Lib.hid hr; have HXC := Lib.hid hxc; have HNW := Lib.hid hnw; have HOR := Lib.hid hor; have HLL := Lib.hid hll
    clear hr hxc hnw R5 hor hll
    by_cases hlt : j < zs.length ∧ j < 100
    · have hi1 : (j : Int) < (zs.length : Int) := by omega
      have hi2 : (j : Int) < 100 := by omega
      obtain ⟨o, ho⟩ : ∃ o, zs[j]? = some o := ⟨_, List.getElem?_eq_getElem hlt.1⟩
      obtain ⟨b, off, ea, hbl, hcl⟩ := (HRD.out.below R.out.bel) j o ho
      subst ea
      obtain ⟨V, hV⟩ : ∃ V : Array Value, V = (cells18 o).toArray := ⟨_, rfl⟩
      have HV : Hid (V.toList = cells18 o) := Lib.hid (by rw [hV])
      have HRV := Lib.hid (show wr.rangeAt b (off + j * 18) V.toList from fun t u hu => by rw [hV] at hu; exact hcl t u (by simpa using hu))
      have HSZ : Hid ((Try.prog.info? 37).map (·.size) = some V.toList.length) := Lib.hid (by rw [HV.out]; exact Try.size37)
      have HSZ' : Hid ((Try.prog.info? 37).map (·.size) = some V.size) := Lib.hid (by rw [hV]; exact Try.size37)
      have HONE : Hid (V.all (·.oneCell') = true) := Lib.hid (by rw [hV]; exact one_op o)
      clear hcl hV
      go_upto_region 10 with fail
      obtain ⟨Z, hZ⟩ : ∃ Z : Array Value, Z = #[.int .i64 0, .int .u64 0, .int .i64 0, .int .u64 0, .int .i64 0, .int .u64 0, .bool false, .slice none 0 0, .int .i64 0, .int .i64 0, .int .i64 0, .int .i64 0, .int .u64 0, .int .u64 0, .bool false, .int .i64 0, .int .i64 0, .bool false] := ⟨_, rfl⟩
      have hzw := Whole.new wr 37 Z
      have HT := Lib.hid (show (wr.alloc (.cells Z 37)).there wr.heap.size 0 V.size from fun t ht => by
        rw [Nat.zero_add]
        have h18 : t < 18 := by rw [← Array.length_toList (xs := V), HV.out] at ht; exact ht
        exact ⟨by rw [hzw.cell, Array.getElem?_eq_getElem (by rw [hZ]; simpa using h18)]; rfl, hzw.free t⟩)
      have HW := Lib.hid (hzw.puts V.toList 0)
      have R9 := Lib.hid (R.out.box1 37 Z)
      have HZS : Hid (V.size = Z.size) := Lib.hid (by rw [hZ, ← Array.length_toList (xs := V), HV.out]; rfl)
      clear hzw
      rw [hZ] at HT HW R9
      go_upto_region 11 with (first
        | (refine wpList_load_mid rfl 37 (.tmp 52) rfl b (off + j * 18) rfl V.toList _ HRV.out Try.underlying37 rfl HSZ.out ?_)
        | (refine wpList_store_mid rfl 37 (.tmp 12) (.tmp 53) rfl wr.heap.size 0 V rfl rfl HT.out HSZ'.out HONE.out ?_))
      have R10 := Lib.hid (R9.out.step1 (t' := blkT wr.heap.size 37 V) (show Whole _ wr.heap.size 37 V from (by have h := HW.out; rwa [lay_full _ V (by rw [HZS.out, hZ])] at h)) (Keep.setCells (S := fun k => k = wr.heap.size) rfl V.toList 0 (Keep.refl _ _)) (fun k e => .inl e))
      clear hZ HT HW R9 HZS HSZ HSZ' HONE HRV hbl R
      generalize hB : wr.heap.size = B at *
      generalize World.setCells _ _ _ _ = w7 at *
      clear hB
      have HCL := Lib.hid (show ∀ t u, (cells18 o)[t]? = some u → w7.cell? ⟨B, t, none⟩ = some u from fun t u hu => by
        have h1 := Whole.cell (show Whole w7 B 37 V from R10.out.get1) t
        rw [h1, ← hu, ← HV.out]
        simp)
      have d0 := HCL.out 0 _ rfl; have d1 := HCL.out 1 _ rfl
      obtain ⟨gp, hgp⟩ : ∃ gp, o.g % 2000000000 = gp := ⟨_, rfl⟩
      have hgt : o.g.tmod 2000000000 = gp := by rw [Int.tmod_eq_emod_of_nonneg o.hg.1]; exact hgp
      have HGP : Hid (0 ≤ gp ∧ gp < 2000000000) := Lib.hid (by omega)
      go_wp2_with fail
      try simp only [hgp, hgt]
      refine (radd_any nw gp HNW.out.1 (by have := HNW.out; omega) HGP.out.1 (by have := HGP.out; omega) _).mono ?_
      rintro e w8 ⟨rfl, rfl⟩
      clear hgp hgt
      go_upto_region 12 with fail
      obtain ⟨n2, hn2⟩ : ∃ n2, (if (4611686018427387904 : Int) < satAdd nw gp then (4611686018427387904 : Int) else satAdd nw gp) = n2 := ⟨_, rfl⟩
      rw [hn2]
      have HN2 : Hid (0 ≤ n2 ∧ n2 ≤ 4611686018427387904) := Lib.hid (by
        have h0 : 0 ≤ satAdd nw gp := by unfold satAdd; have := HNW.out; have := HGP.out; split <;> omega
        rw [← hn2]
        split <;> omega)
      clear hn2 HGP HNW
      have HU2 : Hid (U64 n2) := Lib.hid ⟨HN2.out.1, by have := HN2.out.2; omega⟩
      have hxo : x.Ok := FQ.ok (show FQ w7 g own' x from R10.out.get0)
      have HXO := Lib.hid hxo
      clear hxo
      by_cases hk : o.k = 2 ∨ o.k = 3
      · have hkk : (o.k == 2) = true ∨ ((o.k == 2) = false ∧ (o.k == 3) = true) := by
          by_cases h2 : o.k = 2
          · left; simp [h2]
          · right; exact ⟨by simp [h2], by simp; omega⟩
        clear hk
        rcases hkk with h1 | ⟨h1, h2⟩
        · go_upto_region 13 with fail
          clear d0 d1
          obtain ⟨y, so, hys⟩ : ∃ y so, deqQ (dlyQ [] x.c.r) x n2 = (y, so) := ⟨_, _, rfl⟩
          have HYS := Lib.hid hys
          have HE : Hid (Ends (dlyQ [] x.c.r) x n2 y so) := Lib.hid (by
            have h1 := deq_ends (d := dlyQ [] x.c.r) (now := n2) HXO.out HU2.out (fun l z => (dlyQ_bd (rs := []) (fun _ h => by cases h) (r := x.c.r) (by rw [HXC.out]; exact HP.out.hr) l z).1)
            rw [hys] at h1
            exact h1)
          clear hys
          go_wp2_with fail
          refine (R10.out.fqdeq0 n2 HU2.out HYS.out).mono ?_
          rintro e w8 ⟨rfl, own9, hr9⟩
          have HCY := Lib.hid ((deq_c HYS.out).trans HXC.out)
          clear HYS
          cases so with
          | none =>
            have R9 := Lib.hid ((hr9.alloc (.cells #[.int .i64 0, .int .u64 0, .int .i64 0, .int .u64 0, .bool false] 34)).less (M := [fqT g own9 y, arrT GB vg lg, arrT PB vp lp]) ((List.Sublist.refl _).cons _ |>.cons_cons _))
            clear hr9 R10
            dsimp only [Option.getD, Option.isSome, Sg.zero, Sg.v]
            go_wp2
            go_roundw
            case rel => exact ⟨j + 1, m, n2, own9, y, vp, vg, lp, lg, by omega, by omega, by omega, by go_num, rfl, rfl, HN2.out, HCY.out, HOR.out.none HE.out, fun k => ⟨by have := (HLL.out k).1; omega, by have := (HLL.out k).2; omega⟩, R9.out⟩
            case measure => simp [intOf]; omega
          | some s9 =>
            have hs1 : 0 ≤ s9.s ∧ s9.s < 8 := by
              have h1 := HE.out
              cases h1 with
              | some a => have := a.hs; have := a.hi; omega
            have hos := HOR.out.some HE.out
            obtain ⟨ss, sf, sl, st, sa⟩ := s9
            obtain ⟨i, rfl⟩ : ∃ i : Nat, ss = (i : Int) := ⟨ss.toNat, by dsimp only at hs1; omega⟩
            dsimp only at hs1 hos
            rw [show ((i : Int)).toNat = i from rfl] at hos
            have hi8 : (i : Int) < 8 := hs1.2
            have HI : Hid (i < 8) := Lib.hid (by omega)
            have HORE := Lib.hid hos
            have R9 := Lib.hid (hr9.box3 34 #[.int .i64 (i : Int), .int .u64 sf, .int .i64 sl, .int .u64 st, .bool sa])
            clear hr9 R10 hs1 hos HE
            dsimp only [Option.getD, Option.isSome, Sg.v]
            go_upto_region 15 with fail
            generalize hSB : w8.heap.size = SB at *
            generalize World.alloc w8 _ = w9g at *
            clear hSB
            have RM := Lib.hid ((R9.out.less (M := [fqT g own9 y, arrT GB vg lg, blkT SB 34 #[.int .i64 (i : Int), .int .u64 sf, .int .i64 sl, .int .u64 st, .bool sa], arrT PB vp lp]) ((List.Sublist.refl _).cons _ |>.cons_cons _)).perm (List.Perm.swap _ _ _))
            clear R9
            have hcv : w9g.cell? ⟨GB, i, none⟩ = some (vg i) := ((show ArrAt w9g GB vg lg from RM.out.get0).whole.cell i).trans (arC_get _ HI.out)
            obtain ⟨pa, pc, hv, _⟩ := ((show ArrAt w9g GB vg lg from RM.out.get0).q i HI.out).shape
            rw [uvs_len] at hv
            rw [hv] at hcv
            have HVV := Lib.hid hv
            have c0 : w9g.cell? ⟨SB, 0, none⟩ = some (.int .i64 (i : Int)) := Whole.cell RM.out.get2 0
            have c1 : w9g.cell? ⟨SB, 1, none⟩ = some (.int .u64 sf) := Whole.cell RM.out.get2 1
            obtain ⟨LL, hLL⟩ : ∃ LL, (lg i).length = LL := ⟨_, rfl⟩
            have HL1 : Hid (LL ≤ 100) := Lib.hid (by rw [← hLL]; have := HLL.out i; omega)
            rw [hLL] at hcv HVV
            have HLE := Lib.hid hLL
            clear hv hLL
            refine wp_region_late (fun W => W.cell? ⟨GB, i, none⟩ = some (.slice pa LL pc) ∧ W.cell? ⟨SB, 0, none⟩ = some (.int .i64 (i : Int)) ∧ W.cell? ⟨SB, 1, none⟩ = some (.int .u64 sf)) [13] (.yes 0 (.yes 1 (.yes 2 (.yes 3 (.yes 4 (.yes 5 (.yes 6 (.yes 7 (.yes 8 (.yes 9 (.one 10 (.one 11 (.yes 12 (.one 13 .nil)))))))))))))) (by kernel_rfl) (by kernel_rfl) (by kernel_rfl) (by kernel_rfl) ⟨hcv, c0, c1⟩ ?_
            have RN := Lib.hid RM.out.drew
            clear hcv c0 c1 RM
            generalize w9g.drew = w5' at *
            (refine wpSchL_yes (v := ?_) rfl (fun _ _ _ h => h) (by rfl) ?_ ?_; rotate_left; (next => (intro w hSw; (try dsimp only at hSw); obtain ⟨hS0, hS1, hS2⟩ := hSw; go_simp; (try with_reducible rfl))); (try simp only [Act.put, List.setIfInBounds_toArray, List.set_cons_zero, List.set_cons_succ]))
            (refine wpSchL_yes (v := ?_) rfl (fun _ _ _ h => h) (by rfl) ?_ ?_; rotate_left; (next => (intro w hSw; (try dsimp only at hSw); obtain ⟨hS0, hS1, hS2⟩ := hSw; go_simp; (try with_reducible rfl))); (try simp only [Act.put, List.setIfInBounds_toArray, List.set_cons_zero, List.set_cons_succ]))
            (refine wpSchL_yes (v := .int .i64 (i : Int)) rfl (fun _ _ _ h => h) (by rfl) (by intro w hSw; go_simp; exact and7 HI.out) ?_; (try simp only [Act.put, List.setIfInBounds_toArray, List.set_cons_zero, List.set_cons_succ]))
            (refine wpSchL_yes (v := ?_) rfl (fun _ _ _ h => h) (by rfl) ?_ ?_; rotate_left; (next => (intro w hSw; (try dsimp only at hSw); obtain ⟨hS0, hS1, hS2⟩ := hSw; go_simp; (try with_reducible rfl))); (try simp only [Act.put, List.setIfInBounds_toArray, List.set_cons_zero, List.set_cons_succ]))
            (refine wpSchL_yes (v := ?_) rfl (fun _ _ _ h => h) (by rfl) ?_ ?_; rotate_left; (next => (intro w hSw; (try dsimp only at hSw); obtain ⟨hS0, hS1, hS2⟩ := hSw; go_simp; (try with_reducible rfl))); (try simp only [Act.put, List.setIfInBounds_toArray, List.set_cons_zero, List.set_cons_succ]))
            (refine wpSchL_yes (v := .int .i64 (i : Int)) rfl (fun _ _ _ h => h) (by rfl) (by intro w hSw; go_simp; exact and7 HI.out) ?_; (try simp only [Act.put, List.setIfInBounds_toArray, List.set_cons_zero, List.set_cons_succ]))
            (repeat (refine wpSchL_yes (v := ?_) rfl (fun _ _ _ h => h) (by rfl) ?_ ?_; rotate_left; (next => (intro w hSw; (try dsimp only at hSw); obtain ⟨hS0, hS1, hS2⟩ := hSw; go_simp; (try with_reducible rfl))); (try simp only [Act.put, List.setIfInBounds_toArray, List.set_cons_zero, List.set_cons_succ])))
            refine wpSchL_one (wpOneL_call rfl (by rfl) (fun K hK => ?_))
            go_simp
            have RO := Lib.hid (RN.out.alloc (.cells #[.int .u64 sf] 22))
            have HNW := Lib.hid (Whole.new w5' 22 #[.int .u64 sf])
            have HS5 : Hid (w5'.heap.size < (w5'.alloc (.cells #[.int .u64 sf] 22)).heap.size) := Lib.hid (by simp)
            clear RN
            refine hK.out _ _ (fun _ => ⟨by rw [← HVV.out]; exact ((show ArrAt _ GB vg lg from RO.out.get0).whole.cell i).trans (arC_get _ HI.out), Whole.cell RO.out.get2 0, Whole.cell RO.out.get2 1⟩) (fun hHeld => ?_)
            clear hK K hHeld
            (try simp only [Act.put, List.setIfInBounds_toArray, List.set_cons_zero, List.set_cons_succ])
            generalize hB6 : w5'.heap.size = B6 at *
            generalize w5'.alloc _ = w6' at *
            clear hB6
            refine wpSchL_one (wpOneL_call rfl (by rfl) (fun K hK => ?_))
            refine oper_append_owns (.tmp 82) (.tmp 85) 35 rfl 22 i0 (.int .u64 0) 8 Try.underlying35 HI0.out HZ0.out HZ1.out HZ2.out rfl (.slice pa LL pc) (uvs (lg i)) rfl (by rw [← HVV.out]; exact (show ArrAt w6' GB vg lg from RO.out.get0).q i HI.out) (some ⟨B6, 0, none⟩) 1 1 [.int .u64 sf] rfl rfl (fun h => (by cases h)) (fun ad had jj u hu => by
              cases had
              have := HNW.out.cell jj
              rw [List.getElem?_toArray] at this
              rw [Addr.add_lit, Nat.zero_add]
              exact this.trans hu) (uvs_one [sf]) (by unfold maxLen; rw [uvs_len, HLE.out]; have := HL1.out; omega) (by rw [uvs_len, HLE.out]; have := HL1.out; omega) ?_
            intro v' w7' hown hk7 hn7 _
            rw [← HVV.out] at hk7 hn7
            have hmore := (show ArrAt w6' GB vg lg from RO.out.get0).more HI.out hown hk7 hn7
            have RP := Lib.hid (RO.out.step0 (t' := arrT GB (upF vg i v') (upF lg i (lg i ++ [sf]))) hmore.1 hmore.2.1 hmore.2.2)
            have hne : ¬ (vg i).ownBlock = some GB := (show ArrAt w6' GB vg lg from RO.out.get0).ne HI.out
            have hgw := (show ArrAt w6' GB vg lg from RO.out.get0).whole.keep hk7 hne
            have hsb := (show Whole w6' SB 34 _ from RO.out.get2).keep hk7 (fun e => (List.pairwise_cons.1 RO.out.dis).1 _ (List.Mem.tail _ (List.Mem.head _)) SB (.inr ⟨i, HI.out, e⟩) rfl)
            obtain ⟨a', cap', hv', _⟩ := hown.shape
            rw [List.length_append, List.length_singleton, uvs_len, HLE.out] at hv'
            have hcv : w7'.cell? ⟨GB, i, none⟩ = some (.slice pa LL pc) := by rw [← HVV.out]; exact (hgw.cell i).trans (arC_get _ HI.out)
            have hcf := hgw.free i
            have HSB := Lib.hid hsb
            clear hown hk7 hn7 hmore hne hgw hsb RO
            subst hv'
            refine hK.out _ _ (fun _ => ⟨hcv, HSB.out.cell 0, HSB.out.cell 1⟩) (fun hHeld => ?_)
            clear hK K hHeld
            (try simp only [Act.put, List.setIfInBounds_toArray, List.set_cons_zero, List.set_cons_succ])
            (repeat (refine wpSchL_yes (v := ?_) rfl (fun _ _ _ h => h) (by rfl) ?_ ?_; rotate_left; (next => (intro w hSw; (try dsimp only at hSw); obtain ⟨hS0, hS1, hS2⟩ := hSw; go_simp; (try with_reducible rfl))); (try simp only [Act.put, List.setIfInBounds_toArray, List.set_cons_zero, List.set_cons_succ])))
            refine wpSchL_one (wpOneL_call rfl (by rfl) (fun K hK => ?_))
            go_simp
            refine hK.out _ _ (fun h => absurd h (by decide)) (fun hHeld => ?_)
            clear hK K hHeld hcv hcf HSB
            generalize World.setCell w7' _ _ = w8' at *
            refine wpSchL_nil ?_
            (try simp only [Act.put, List.setIfInBounds_toArray, List.set_cons_zero, List.set_cons_succ])
            have RZ := Lib.hid ((RP.out.less (M := [arrT GB _ _, fqT g own9 y, arrT PB vp lp]) ((List.Sublist.refl _).cons _ |>.cons_cons _ |>.cons_cons _)).perm (List.Perm.swap _ _ _))
            clear RP
            go_wp2
            go_roundw
            case rel => exact ⟨j + 1, m, n2, own9, y, vp, _, lp, _, by omega, by omega, by omega, by go_num, rfl, rfl, HN2.out, HCY.out, HORE.out, fun k => ⟨by have := (HLL.out k).1; omega, by
              by_cases e : k = i
              · subst e; rw [upF_at, List.length_append, List.length_singleton]; have := (HLL.out k).2; omega
              · rw [upF_ne _ _ e]; have := (HLL.out k).2; omega⟩, RZ.out⟩
            case measure => simp [intOf]; omega
        · go_upto_region 13 with fail
          clear d0 d1
          obtain ⟨y, so, hys⟩ : ∃ y so, deqQ (dlyQ [] x.c.r) x n2 = (y, so) := ⟨_, _, rfl⟩
          have HYS := Lib.hid hys
          have HE : Hid (Ends (dlyQ [] x.c.r) x n2 y so) := Lib.hid (by
            have h1 := deq_ends (d := dlyQ [] x.c.r) (now := n2) HXO.out HU2.out (fun l z => (dlyQ_bd (rs := []) (fun _ h => by cases h) (r := x.c.r) (by rw [HXC.out]; exact HP.out.hr) l z).1)
            rw [hys] at h1
            exact h1)
          clear hys
          go_wp2_with fail
          refine (R10.out.fqdeq0 n2 HU2.out HYS.out).mono ?_
          rintro e w8 ⟨rfl, own9, hr9⟩
          have HCY := Lib.hid ((deq_c HYS.out).trans HXC.out)
          clear HYS
          cases so with
          | none =>
            have R9 := Lib.hid ((hr9.alloc (.cells #[.int .i64 0, .int .u64 0, .int .i64 0, .int .u64 0, .bool false] 34)).less (M := [fqT g own9 y, arrT GB vg lg, arrT PB vp lp]) ((List.Sublist.refl _).cons _ |>.cons_cons _))
            clear hr9 R10
            dsimp only [Option.getD, Option.isSome, Sg.zero, Sg.v]
            go_wp2
            go_roundw
            case rel => exact ⟨j + 1, m, n2, own9, y, vp, vg, lp, lg, by omega, by omega, by omega, by go_num, rfl, rfl, HN2.out, HCY.out, HOR.out.none HE.out, fun k => ⟨by have := (HLL.out k).1; omega, by have := (HLL.out k).2; omega⟩, R9.out⟩
            case measure => simp [intOf]; omega
          | some s9 =>
            have hs1 : 0 ≤ s9.s ∧ s9.s < 8 := by
              have h1 := HE.out
              cases h1 with
              | some a => have := a.hs; have := a.hi; omega
            have hos := HOR.out.some HE.out
            obtain ⟨ss, sf, sl, st, sa⟩ := s9
            obtain ⟨i, rfl⟩ : ∃ i : Nat, ss = (i : Int) := ⟨ss.toNat, by dsimp only at hs1; omega⟩
            dsimp only at hs1 hos
            rw [show ((i : Int)).toNat = i from rfl] at hos
            have hi8 : (i : Int) < 8 := hs1.2
            have HI : Hid (i < 8) := Lib.hid (by omega)
            have HORE := Lib.hid hos
            have R9 := Lib.hid (hr9.box3 34 #[.int .i64 (i : Int), .int .u64 sf, .int .i64 sl, .int .u64 st, .bool sa])
            clear hr9 R10 hs1 hos HE
            dsimp only [Option.getD, Option.isSome, Sg.v]
            go_upto_region 15 with fail
            generalize hSB : w8.heap.size = SB at *
            generalize World.alloc w8 _ = w9g at *
            clear hSB
            have RM := Lib.hid ((R9.out.less (M := [fqT g own9 y, arrT GB vg lg, blkT SB 34 #[.int .i64 (i : Int), .int .u64 sf, .int .i64 sl, .int .u64 st, .bool sa], arrT PB vp lp]) ((List.Sublist.refl _).cons _ |>.cons_cons _)).perm (List.Perm.swap _ _ _))
            clear R9
            have hcv : w9g.cell? ⟨GB, i, none⟩ = some (vg i) := ((show ArrAt w9g GB vg lg from RM.out.get0).whole.cell i).trans (arC_get _ HI.out)
            obtain ⟨pa, pc, hv, _⟩ := ((show ArrAt w9g GB vg lg from RM.out.get0).q i HI.out).shape
            rw [uvs_len] at hv
            rw [hv] at hcv
            have HVV := Lib.hid hv
            have c0 : w9g.cell? ⟨SB, 0, none⟩ = some (.int .i64 (i : Int)) := Whole.cell RM.out.get2 0
            have c1 : w9g.cell? ⟨SB, 1, none⟩ = some (.int .u64 sf) := Whole.cell RM.out.get2 1
            obtain ⟨LL, hLL⟩ : ∃ LL, (lg i).length = LL := ⟨_, rfl⟩
            have HL1 : Hid (LL ≤ 100) := Lib.hid (by rw [← hLL]; have := HLL.out i; omega)
            rw [hLL] at hcv HVV
            have HLE := Lib.hid hLL
            clear hv hLL
            refine wp_region_late (fun W => W.cell? ⟨GB, i, none⟩ = some (.slice pa LL pc) ∧ W.cell? ⟨SB, 0, none⟩ = some (.int .i64 (i : Int)) ∧ W.cell? ⟨SB, 1, none⟩ = some (.int .u64 sf)) [13] (.yes 0 (.yes 1 (.yes 2 (.yes 3 (.yes 4 (.yes 5 (.yes 6 (.yes 7 (.yes 8 (.yes 9 (.one 10 (.one 11 (.yes 12 (.one 13 .nil)))))))))))))) (by kernel_rfl) (by kernel_rfl) (by kernel_rfl) (by kernel_rfl) ⟨hcv, c0, c1⟩ ?_
            have RN := Lib.hid RM.out.drew
            clear hcv c0 c1 RM
            generalize w9g.drew = w5' at *
            (refine wpSchL_yes (v := ?_) rfl (fun _ _ _ h => h) (by rfl) ?_ ?_; rotate_left; (next => (intro w hSw; (try dsimp only at hSw); obtain ⟨hS0, hS1, hS2⟩ := hSw; go_simp; (try with_reducible rfl))); (try simp only [Act.put, List.setIfInBounds_toArray, List.set_cons_zero, List.set_cons_succ]))
            (refine wpSchL_yes (v := ?_) rfl (fun _ _ _ h => h) (by rfl) ?_ ?_; rotate_left; (next => (intro w hSw; (try dsimp only at hSw); obtain ⟨hS0, hS1, hS2⟩ := hSw; go_simp; (try with_reducible rfl))); (try simp only [Act.put, List.setIfInBounds_toArray, List.set_cons_zero, List.set_cons_succ]))
            (refine wpSchL_yes (v := .int .i64 (i : Int)) rfl (fun _ _ _ h => h) (by rfl) (by intro w hSw; go_simp; exact and7 HI.out) ?_; (try simp only [Act.put, List.setIfInBounds_toArray, List.set_cons_zero, List.set_cons_succ]))
            (refine wpSchL_yes (v := ?_) rfl (fun _ _ _ h => h) (by rfl) ?_ ?_; rotate_left; (next => (intro w hSw; (try dsimp only at hSw); obtain ⟨hS0, hS1, hS2⟩ := hSw; go_simp; (try with_reducible rfl))); (try simp only [Act.put, List.setIfInBounds_toArray, List.set_cons_zero, List.set_cons_succ]))
            (refine wpSchL_yes (v := ?_) rfl (fun _ _ _ h => h) (by rfl) ?_ ?_; rotate_left; (next => (intro w hSw; (try dsimp only at hSw); obtain ⟨hS0, hS1, hS2⟩ := hSw; go_simp; (try with_reducible rfl))); (try simp only [Act.put, List.setIfInBounds_toArray, List.set_cons_zero, List.set_cons_succ]))
            (refine wpSchL_yes (v := .int .i64 (i : Int)) rfl (fun _ _ _ h => h) (by rfl) (by intro w hSw; go_simp; exact and7 HI.out) ?_; (try simp only [Act.put, List.setIfInBounds_toArray, List.set_cons_zero, List.set_cons_succ]))
            (repeat (refine wpSchL_yes (v := ?_) rfl (fun _ _ _ h => h) (by rfl) ?_ ?_; rotate_left; (next => (intro w hSw; (try dsimp only at hSw); obtain ⟨hS0, hS1, hS2⟩ := hSw; go_simp; (try with_reducible rfl))); (try simp only [Act.put, List.setIfInBounds_toArray, List.set_cons_zero, List.set_cons_succ])))
            refine wpSchL_one (wpOneL_call rfl (by rfl) (fun K hK => ?_))
            go_simp
            have RO := Lib.hid (RN.out.alloc (.cells #[.int .u64 sf] 22))
            have HNW := Lib.hid (Whole.new w5' 22 #[.int .u64 sf])
            have HS5 : Hid (w5'.heap.size < (w5'.alloc (.cells #[.int .u64 sf] 22)).heap.size) := Lib.hid (by simp)
            clear RN
            refine hK.out _ _ (fun _ => ⟨by rw [← HVV.out]; exact ((show ArrAt _ GB vg lg from RO.out.get0).whole.cell i).trans (arC_get _ HI.out), Whole.cell RO.out.get2 0, Whole.cell RO.out.get2 1⟩) (fun hHeld => ?_)
            clear hK K hHeld
            (try simp only [Act.put, List.setIfInBounds_toArray, List.set_cons_zero, List.set_cons_succ])
            generalize hB6 : w5'.heap.size = B6 at *
            generalize w5'.alloc _ = w6' at *
            clear hB6
            refine wpSchL_one (wpOneL_call rfl (by rfl) (fun K hK => ?_))
            refine oper_append_owns (.tmp 82) (.tmp 85) 35 rfl 22 i0 (.int .u64 0) 8 Try.underlying35 HI0.out HZ0.out HZ1.out HZ2.out rfl (.slice pa LL pc) (uvs (lg i)) rfl (by rw [← HVV.out]; exact (show ArrAt w6' GB vg lg from RO.out.get0).q i HI.out) (some ⟨B6, 0, none⟩) 1 1 [.int .u64 sf] rfl rfl (fun h => (by cases h)) (fun ad had jj u hu => by
              cases had
              have := HNW.out.cell jj
              rw [List.getElem?_toArray] at this
              rw [Addr.add_lit, Nat.zero_add]
              exact this.trans hu) (uvs_one [sf]) (by unfold maxLen; rw [uvs_len, HLE.out]; have := HL1.out; omega) (by rw [uvs_len, HLE.out]; have := HL1.out; omega) ?_
            intro v' w7' hown hk7 hn7 _
            rw [← HVV.out] at hk7 hn7
            have hmore := (show ArrAt w6' GB vg lg from RO.out.get0).more HI.out hown hk7 hn7
            have RP := Lib.hid (RO.out.step0 (t' := arrT GB (upF vg i v') (upF lg i (lg i ++ [sf]))) hmore.1 hmore.2.1 hmore.2.2)
            have hne : ¬ (vg i).ownBlock = some GB := (show ArrAt w6' GB vg lg from RO.out.get0).ne HI.out
            have hgw := (show ArrAt w6' GB vg lg from RO.out.get0).whole.keep hk7 hne
            have hsb := (show Whole w6' SB 34 _ from RO.out.get2).keep hk7 (fun e => (List.pairwise_cons.1 RO.out.dis).1 _ (List.Mem.tail _ (List.Mem.head _)) SB (.inr ⟨i, HI.out, e⟩) rfl)
            obtain ⟨a', cap', hv', _⟩ := hown.shape
            rw [List.length_append, List.length_singleton, uvs_len, HLE.out] at hv'
            have hcv : w7'.cell? ⟨GB, i, none⟩ = some (.slice pa LL pc) := by rw [← HVV.out]; exact (hgw.cell i).trans (arC_get _ HI.out)
            have hcf := hgw.free i
            have HSB := Lib.hid hsb
            clear hown hk7 hn7 hmore hne hgw hsb RO
            subst hv'
            refine hK.out _ _ (fun _ => ⟨hcv, HSB.out.cell 0, HSB.out.cell 1⟩) (fun hHeld => ?_)
            clear hK K hHeld
            (try simp only [Act.put, List.setIfInBounds_toArray, List.set_cons_zero, List.set_cons_succ])
            (repeat (refine wpSchL_yes (v := ?_) rfl (fun _ _ _ h => h) (by rfl) ?_ ?_; rotate_left; (next => (intro w hSw; (try dsimp only at hSw); obtain ⟨hS0, hS1, hS2⟩ := hSw; go_simp; (try with_reducible rfl))); (try simp only [Act.put, List.setIfInBounds_toArray, List.set_cons_zero, List.set_cons_succ])))
            refine wpSchL_one (wpOneL_call rfl (by rfl) (fun K hK => ?_))
            go_simp
            refine hK.out _ _ (fun h => absurd h (by decide)) (fun hHeld => ?_)
            clear hK K hHeld hcv hcf HSB
            generalize World.setCell w7' _ _ = w8' at *
            refine wpSchL_nil ?_
            (try simp only [Act.put, List.setIfInBounds_toArray, List.set_cons_zero, List.set_cons_succ])
            have RZ := Lib.hid ((RP.out.less (M := [arrT GB _ _, fqT g own9 y, arrT PB vp lp]) ((List.Sublist.refl _).cons _ |>.cons_cons _ |>.cons_cons _)).perm (List.Perm.swap _ _ _))
            clear RP
            go_wp2
            go_roundw
            case rel => exact ⟨j + 1, m, n2, own9, y, vp, _, lp, _, by omega, by omega, by omega, by go_num, rfl, rfl, HN2.out, HCY.out, HORE.out, fun k => ⟨by have := (HLL.out k).1; omega, by
              by_cases e : k = i
              · subst e; rw [upF_at, List.length_append, List.length_singleton]; have := (HLL.out k).2; omega
              · rw [upF_ne _ _ e]; have := (HLL.out k).2; omega⟩, RZ.out⟩
            case measure => simp [intOf]; omega
      · have hb2 : (o.k == 2) = false := by simp; omega
        have hb3 : (o.k == 3) = false := by simp; omega
        have d2 := HCL.out 2 _ rfl; have d3 := HCL.out 3 _ rfl; have d4 := HCL.out 4 _ rfl; have d5 := HCL.out 5 _ rfl; have d6 := HCL.out 6 _ rfl
        clear hk
        go_wp2_with fail
        refine (plays_any o.s w7).mono ?_
        rintro e w8 ⟨z, l, rfl, hz, hl, k8⟩
        obtain ⟨zi, rfl⟩ : ∃ zi : Nat, z = (zi : Int) := ⟨z.toNat, by omega⟩
        have HZ8 : Hid (zi < 8) := Lib.hid (by omega)
        have hzi8 : (zi : Int) < 8 := hz.2
        have R11 := Lib.hid ((R10.out.kept k8).box1 34 #[.int .i64 (zi : Int), .int .u64 o.s.f, .int .i64 l, .int .u64 o.s.t, .bool o.s.a])
        have HS := Lib.hid hl
        clear k8 hz hl R10 d0 d1 d2 d3 d4 d5 d6 HCL
        dsimp only [Sg.v]
        go_upto_region 17 with fail
        generalize hSB : w8.heap.size = SB at *
        generalize World.alloc w8 _ = w9 at *
        clear hSB
        have c1 : w9.cell? ⟨SB, 1, none⟩ = some (.int .u64 o.s.f) := Whole.cell R11.out.get1 1
        have f1 : w9.frozen? ⟨SB, 1, none⟩ = false := Whole.free (show Whole w9 SB 34 _ from R11.out.get1) 1
        have R12 := Lib.hid ((R11.out.step1 (t' := blkT SB 34 #[.int .i64 (zi : Int), .int .u64 (m : Int), .int .i64 l, .int .u64 o.s.t, .bool o.s.a]) (Whole.put (show Whole w9 SB 34 _ from R11.out.get1) 1 (.int .u64 (m : Int))) ((Keep.refl (fun k => k = SB) w9).setCell (p := ⟨SB, 1, none⟩) (.inl rfl) _) (fun k e => .inl e)))
        go_upto_region 18 with fail
        generalize World.setCell w9 _ _ = wa at *
        clear c1 f1 R11
        have c0 : wa.cell? ⟨SB, 0, none⟩ = some (.int .i64 (zi : Int)) := Whole.cell R12.out.get1 0
        have c1 : wa.cell? ⟨SB, 1, none⟩ = some (.int .u64 (m : Int)) := Whole.cell R12.out.get1 1
        have c2 : wa.cell? ⟨SB, 2, none⟩ = some (.int .i64 l) := Whole.cell R12.out.get1 2
        have c3 : wa.cell? ⟨SB, 3, none⟩ = some (.int .u64 o.s.t) := Whole.cell R12.out.get1 3
        have c4 : wa.cell? ⟨SB, 4, none⟩ = some (.bool o.s.a) := Whole.cell R12.out.get1 4
        go_wp2_with fail
        refine (R12.out.fqenq ⟨zi, m, l, o.s.t, o.s.a⟩ n2 HU2.out ⟨by dsimp only; omega, by dsimp only; omega⟩ o.hs.2).mono ?_
        rintro e wb ⟨rfl, own8, hr8⟩
        have hee : enqE ⟨zi, m, l, o.s.t, o.s.a⟩ = 0 := by unfold enqE; dsimp only; rw [if_neg (by omega), if_neg (by have := HS.out; omega)]
        rw [hee, enq_v HXO.out hee n2]
        have HEE := Lib.hid hee
        have R13 := Lib.hid hr8
        have HORE := Lib.hid (HOR.out.enq HXO.out ⟨zi, m, l, o.s.t, o.s.a⟩ n2)
        clear hr8 R12 c0 c1 c2 c3 c4 hee
        obtain ⟨y, hy⟩ : ∃ y, y = enqQ x ⟨zi, m, l, o.s.t, o.s.a⟩ n2 := ⟨_, rfl⟩
        rw [← hy] at R13 HORE
        have HYC : Hid (y.c = p) := Lib.hid (by rw [hy]; exact (enq_c _ _ _).trans HXC.out)
        clear hy
        by_cases hin : InQ x ⟨zi, m, l, o.s.t, o.s.a⟩ n2
        · rw [if_pos hin] at HORE
          rw [hin.2]
          clear hin
          dsimp only at HORE
          rw [show ((zi : Int)).toNat = zi from rfl] at HORE
          go_upto_region 21 with fail
          have RM := Lib.hid ((R13.out.less (M := [fqT g own8 y, blkT SB 34 #[.int .i64 (zi : Int), .int .u64 (m : Int), .int .i64 l, .int .u64 o.s.t, .bool o.s.a], arrT GB vg lg, arrT PB vp lp]) ((List.Sublist.refl _).cons _ |>.cons_cons _ |>.cons_cons _)).perm ((List.perm_append_comm (l₁ := [fqT g own8 y, blkT SB 34 #[.int .i64 (zi : Int), .int .u64 (m : Int), .int .i64 l, .int .u64 o.s.t, .bool o.s.a], arrT GB vg lg]) (l₂ := [arrT PB vp lp]))))
          clear R13
          have hcv : wb.cell? ⟨PB, zi, none⟩ = some (vp zi) := ((show ArrAt wb PB vp lp from RM.out.get0).whole.cell zi).trans (arC_get _ HZ8.out)
          obtain ⟨pa, pc, hv, _⟩ := ((show ArrAt wb PB vp lp from RM.out.get0).q zi HZ8.out).shape
          rw [uvs_len] at hv
          rw [hv] at hcv
          have HVV := Lib.hid hv
          have c0 : wb.cell? ⟨SB, 0, none⟩ = some (.int .i64 (zi : Int)) := Whole.cell RM.out.get2 0
          have c1 : wb.cell? ⟨SB, 1, none⟩ = some (.int .u64 (m : Int)) := Whole.cell RM.out.get2 1
          obtain ⟨LL, hLL⟩ : ∃ LL, (lp zi).length = LL := ⟨_, rfl⟩
          have HL1 : Hid (LL ≤ 100) := Lib.hid (by rw [← hLL]; have := HLL.out zi; omega)
          rw [hLL] at hcv HVV
          have HLE := Lib.hid hLL
          clear hv hLL
          refine wp_region_late (fun W => W.cell? ⟨PB, zi, none⟩ = some (.slice pa LL pc) ∧ W.cell? ⟨SB, 0, none⟩ = some (.int .i64 (zi : Int)) ∧ W.cell? ⟨SB, 1, none⟩ = some (.int .u64 (m : Int))) [11] (.yes 0 (.yes 1 (.yes 2 (.yes 3 (.yes 4 (.yes 5 (.yes 6 (.yes 7 (.one 8 (.one 9 (.yes 10 (.one 11 .nil)))))))))))) (by kernel_rfl) (by kernel_rfl) (by kernel_rfl) (by kernel_rfl) ⟨hcv, c0, c1⟩ ?_
          have RN := Lib.hid RM.out.drew
          clear hcv c0 c1 RM
          generalize wb.drew = w5' at *
          (repeat (refine wpSchL_yes (v := ?_) rfl (fun _ _ _ h => h) (by rfl) ?_ ?_; rotate_left; (next => (intro w hSw; (try dsimp only at hSw); obtain ⟨hS0, hS1, hS2⟩ := hSw; go_simp; (try with_reducible rfl))); (try simp only [Act.put, List.setIfInBounds_toArray, List.set_cons_zero, List.set_cons_succ])))
          refine wpSchL_one (wpOneL_call rfl (by rfl) (fun K hK => ?_))
          go_simp
          have RO := Lib.hid (RN.out.alloc (.cells #[.int .u64 (m : Int)] 22))
          have HNW := Lib.hid (Whole.new w5' 22 #[.int .u64 (m : Int)])
          have HS5 : Hid (w5'.heap.size < (w5'.alloc (.cells #[.int .u64 (m : Int)] 22)).heap.size) := Lib.hid (by simp)
          clear RN
          refine hK.out _ _ (fun _ => ⟨by rw [← HVV.out]; exact ((show ArrAt _ PB vp lp from RO.out.get0).whole.cell zi).trans (arC_get _ HZ8.out), Whole.cell RO.out.get2 0, Whole.cell RO.out.get2 1⟩) (fun hHeld => ?_)
          clear hK K hHeld
          (try simp only [Act.put, List.setIfInBounds_toArray, List.set_cons_zero, List.set_cons_succ])
          generalize hB6 : w5'.heap.size = B6 at *
          generalize w5'.alloc _ = w6' at *
          clear hB6
          refine wpSchL_one (wpOneL_call rfl (by rfl) (fun K hK => ?_))
          refine oper_append_owns (.tmp 113) (.tmp 116) 35 rfl 22 i0 (.int .u64 0) 8 Try.underlying35 HI0.out HZ0.out HZ1.out HZ2.out rfl (.slice pa LL pc) (uvs (lp zi)) rfl (by rw [← HVV.out]; exact (show ArrAt w6' PB vp lp from RO.out.get0).q zi HZ8.out) (some ⟨B6, 0, none⟩) 1 1 [.int .u64 (m : Int)] rfl rfl (fun h => (by cases h)) (fun ad had jj u hu => by
            cases had
            have := HNW.out.cell jj
            rw [List.getElem?_toArray] at this
            rw [Addr.add_lit, Nat.zero_add]
            exact this.trans hu) (uvs_one [(m : Int)]) (by unfold maxLen; rw [uvs_len, HLE.out]; have := HL1.out; omega) (by rw [uvs_len, HLE.out]; have := HL1.out; omega) ?_
          intro v' w7' hown hk7 hn7 _
          rw [← HVV.out] at hk7 hn7
          have hmore := (show ArrAt w6' PB vp lp from RO.out.get0).more HZ8.out hown hk7 hn7
          have RP := Lib.hid (RO.out.step0 (t' := arrT PB (upF vp zi v') (upF lp zi (lp zi ++ [(m : Int)]))) hmore.1 hmore.2.1 hmore.2.2)
          have hne : ¬ (vp zi).ownBlock = some PB := (show ArrAt w6' PB vp lp from RO.out.get0).ne HZ8.out
          have hgw := (show ArrAt w6' PB vp lp from RO.out.get0).whole.keep hk7 hne
          have hsb := (show Whole w6' SB 34 _ from RO.out.get2).keep hk7 (fun e => (List.pairwise_cons.1 RO.out.dis).1 _ (List.Mem.tail _ (List.Mem.head _)) SB (.inr ⟨zi, HZ8.out, e⟩) rfl)
          obtain ⟨a', cap', hv', _⟩ := hown.shape
          rw [List.length_append, List.length_singleton, uvs_len, HLE.out] at hv'
          have hcv : w7'.cell? ⟨PB, zi, none⟩ = some (.slice pa LL pc) := by rw [← HVV.out]; exact (hgw.cell zi).trans (arC_get _ HZ8.out)
          have hcf := hgw.free zi
          have HSB := Lib.hid hsb
          clear hown hk7 hn7 hmore hne hgw hsb RO
          subst hv'
          refine hK.out _ _ (fun _ => ⟨hcv, HSB.out.cell 0, HSB.out.cell 1⟩) (fun hHeld => ?_)
          clear hK K hHeld
          (try simp only [Act.put, List.setIfInBounds_toArray, List.set_cons_zero, List.set_cons_succ])
          (repeat (refine wpSchL_yes (v := ?_) rfl (fun _ _ _ h => h) (by rfl) ?_ ?_; rotate_left; (next => (intro w hSw; (try dsimp only at hSw); obtain ⟨hS0, hS1, hS2⟩ := hSw; go_simp; (try with_reducible rfl))); (try simp only [Act.put, List.setIfInBounds_toArray, List.set_cons_zero, List.set_cons_succ])))
          refine wpSchL_one (wpOneL_call rfl (by rfl) (fun K hK => ?_))
          go_simp
          refine hK.out _ _ (fun h => absurd h (by decide)) (fun hHeld => ?_)
          clear hK K hHeld hcv hcf HSB
          generalize World.setCell w7' _ _ = w8' at *
          refine wpSchL_nil ?_
          (try simp only [Act.put, List.setIfInBounds_toArray, List.set_cons_zero, List.set_cons_succ])
          have RZ := Lib.hid ((RP.out.less (M := [arrT PB _ _, fqT g own8 y, arrT GB vg lg]) ((List.Sublist.refl _).cons _ |>.cons_cons _ |>.cons_cons _)).perm (List.perm_append_comm (l₁ := [arrT PB _ _]) (l₂ := [fqT g own8 y, arrT GB vg lg])))
          clear RP
          go_wp2
          go_roundw
          case rel => exact ⟨j + 1, m + 1, n2, own8, y, _, vg, _, lg, by omega, by omega, by omega, by go_num, by go_num, rfl, HN2.out, HYC.out, HORE.out, fun k => ⟨by
            by_cases e : k = zi
            · subst e; rw [upF_at, List.length_append, List.length_singleton]; have := (HLL.out k).1; omega
            · rw [upF_ne _ _ e]; have := (HLL.out k).1; omega, by have := (HLL.out k).2; omega⟩, RZ.out⟩
          case measure => simp [intOf]; omega
        · rw [if_neg hin] at HORE
          have hf : (fateQ x ⟨zi, m, l, o.s.t, o.s.a⟩ n2 == 0) = false := by
            simp only [beq_eq_false_iff_ne, ne_eq]
            exact fun e => hin ⟨HEE.out, e⟩
          have RZ := Lib.hid (R13.out.less (M := [fqT g own8 y, arrT GB vg lg, arrT PB vp lp]) (((List.Sublist.refl _).cons _).cons _ |>.cons_cons _))
          clear hin R13
          go_wp2
          go_roundw
          case rel => exact ⟨j + 1, m + 1, n2, own8, y, vp, vg, lp, lg, by omega, by omega, by omega, by go_num, by go_num, rfl, HN2.out, HYC.out, HORE.out, fun k => ⟨by have := (HLL.out k).1; omega, by have := (HLL.out k).2; omega⟩, RZ.out⟩
          case measure => simp [intOf]; omega
    · have HLL2 : Hid (∀ k, (lp k).length ≤ 100 ∧ (lg k).length ≤ 100) := Lib.hid (fun k => by have := HLL.out k; omega)
      have hlt2 : ¬ (j : Int) < (zs.length : Int) ∨ ((j : Int) < (zs.length : Int) ∧ ¬ (j : Int) < 100) := by omega
      clear hlt HLL
      rcases hlt2 with h | ⟨h, h2⟩
      · go_upto_region 23 with fail
        go_loopw [18] (fun iv wR => ∃ k : Nat, k ≤ 8 ∧ iv = .int .i64 k ∧ Room w wR [fqT g own' x, arrT GB vg lg, arrT PB vp lp]) (fun iv _ => 8 - (intOf iv).toNat)
        case atStart => exact ⟨0, by omega, rfl, R.out⟩
        case round =>
          obtain ⟨k, hk8, rfl, hr⟩ := hrel
          have RI := Lib.hid hr
          clear hr R
          by_cases hlk : k < 8
          · have hik : (k : Int) < 8 := by omega
            have HK8 := Lib.hid hlk
            have hxo : x.Ok := FQ.ok (show FQ wr g own' x from RI.out.get0)
            have HQL : Hid ((x.F k).q.length ≤ 512) := Lib.hid (Nat.le_trans (lenQ_le (x := x) hlk) hxo.len)
            have HXO := Lib.hid hxo
            clear hlk hxo
            go_wp2_with fail
            refine (RI.out.fqflow HXO.out HK8.out).mono ?_
            rintro e w8 ⟨VV, rfl, hr8⟩
            obtain ⟨va, vc, rfl⟩ := sgs_shape hr8.get1
            have R8 := Lib.hid (hr8.box2 44 #[.int .i64 (x.F k).s, .int .i64 (x.F k).c, .int .i64 (x.F k).p, .int .u64 (x.F k).n, .int .u64 (x.F k).u, .slice va (x.F k).q.length vc])
            have HOK := Lib.hid (HOR.out k HK8.out)
            clear hr8 RI
            dsimp only [Fl.v]
            obtain ⟨q, hq⟩ : ∃ q, (x.F k).q = q := ⟨_, rfl⟩
            rw [hq] at R8 HOK HQL ⊢
            clear hq
            go_upto_region 26 with fail
            generalize hFB : w8.heap.size = FB at *
            generalize World.alloc w8 _ = w9 at *
            clear hFB
            have hga := (show ArrAt w9 GB vg lg from R8.out.get3)
            obtain ⟨ga, gc, hv, hn1, _⟩ := (hga.q k HK8.out).shape
            rw [uvs_len] at hv
            have hcv : w9.cell? ⟨GB, k, none⟩ = some (.slice ga (lg k).length gc) := (hga.whole.cell k).trans ((arC_get _ HK8.out).trans (congrArg some hv))
            have hnews := Lib.hid (show ∀ ad, ga = some ad → ∀ j u, (uvs (lg k))[j]? = some u → w9.cell? (ad.add j) = some u from fun ad had => by
              have h1 := hga.q k HK8.out
              rw [hv] at h1
              subst had
              obtain ⟨g', hg'⟩ : ∃ g', ad = ⟨g', 0, none⟩ := by
                obtain ⟨a2, c2, e2, _, h3⟩ := h1.shape
                injection e2 with e3 _ _
                exact h3 ad e3.symm
              subst hg'
              exact h1.news)
            have HN1 : Hid (ga = none → (lg k).length = 0 ∧ gc = 0) := Lib.hid (fun e => ⟨by have := (hn1 e).2; rw [← uvs_len, this]; rfl, (hn1 e).1⟩)
            clear hga hv hn1
            go_upto_region 27 with (at_builtin; refine wpList_append_owns rfl _ _ 35 rfl 22 i0 (.int .u64 0) 8 Try.underlying35 HI0.out HZ0.out HZ1.out HZ2.out rfl (.slice none 0 0) [] rfl (Owns.nil _ _) ga (lg k).length gc (uvs (lg k)) rfl (uvs_len _) HN1.out hnews.out (uvs_one _) (by unfold maxLen; have := (HLL2.out k).2; simp; omega) (by have := (HLL2.out k).2; simp; omega) ?_; intro v' wa hown hka hna _; rw [List.nil_append] at hown; have HOWN := Lib.hid hown; have KA : Hid (Keep (fun _ => False) w9 wa) := Lib.hid (hka.mono (fun k e => by cases e)); have NA : Hid (∀ k, v'.ownBlock = some k → w9.heap.size ≤ k) := Lib.hid (fun k e => by rcases hna k e with h | h; cases h; exact h); clear hown hka hna)
            have RB := Lib.hid (R8.out.add (t := uvsT v' (lg k)) (show wa.ownsRow 0 22 1 v' (lg k).length (uvs (lg k)) from (by have h := HOWN.out; unfold Owns at h; rwa [uvs_len] at h)) KA.out NA.out)
            clear R8 HOWN KA NA hnews HN1 hcv
            go_upto_region 28 with fail
            go_loopw [21, 22] (fun av tv wR => ∃ (t : Nat) (V : Value), t ≤ q.length ∧ tv = .int .i64 t ∧ av = V ∧ Room w wR [uvsT V (lg k ++ (q.take t).map Sg.f), fqT g own' x, sgsT 34 (.slice va q.length vc) q, blkT FB 44 #[.int .i64 (x.F k).s, .int .i64 (x.F k).c, .int .i64 (x.F k).p, .int .u64 (x.F k).n, .int .u64 (x.F k).u, .slice va q.length vc], arrT GB vg lg, arrT PB vp lp]) (fun _ tv _ => 512 - (intOf tv).toNat)
            case atStart => exact ⟨0, v', by omega, rfl, rfl, by simpa using RB.out⟩
            case round =>
              obtain ⟨t, V, htq, rfl, rfl, hr⟩ := hrel
              have RC := Lib.hid hr
              clear hr RB
              have c5 : wr.cell? ⟨FB, 5, none⟩ = some (.slice va q.length vc) := Whole.cell RC.out.get3 5
              by_cases hlt : t < q.length
              · have hi1 : (t : Int) < (q.length : Int) := by omega
                obtain ⟨sg, hsg⟩ : ∃ sg, q[t]? = some sg := ⟨_, List.getElem?_eq_getElem hlt⟩
                obtain ⟨r, er, _, c1, _, _, _⟩ := sgs_get (show (sgsT 34 (.slice va q.length vc) q).at_ _ from RC.out.get2) rfl hsg
                subst er
                have HTK : Hid (lg k ++ (q.take (t + 1)).map Sg.f = (lg k ++ (q.take t).map Sg.f) ++ [sg.f]) := Lib.hid (by
                  rw [List.take_add_one, hsg, List.map_append, List.append_assoc]; rfl)
                clear hsg
                have ht512 : (t : Int) < 512 := by have := HQL.out; omega
                obtain ⟨l, hl⟩ : ∃ l, lg k ++ (q.take t).map Sg.f = l := ⟨_, rfl⟩
                have HLN : Hid (l.length ≤ 612) := Lib.hid (by rw [← hl, List.length_append, List.length_map, List.length_take]; have := (HLL2.out k).2; have := HQL.out; omega)
                rw [hl] at RC HTK
                clear hl
                go_wp2_with (at_builtin; refine wpList_append_rows rfl _ _ 35 rfl 22 i0 _ 1 8 Try.underlying35 HI0.out HZ0.out HZ1.out HZ2.out rfl (by decide) _ l.length (uvs l) rfl (RC.out.alloc _).get0 (some ⟨wr.heap.size, 0, none⟩) 1 1 [.int .u64 sg.f] rfl rfl (fun h => (by cases h)) (row_news wr [.int .u64 sg.f] 22) (uvs_one [sg.f]) (by unfold maxLen; have := HLN.out; omega) (by have := HLN.out; omega) ?_; intro v2 w5' hown hk5 hnew5 _; have RD := Lib.hid ((RC.out.alloc _).step0 (t' := uvsT v2 (l ++ [sg.f])) (uvs_more hown) hk5 hnew5); clear hown hk5 hnew5 c1 c5 RC)
                go_roundw
                case rel => exact ⟨t + 1, v2, by omega, by go_num, rfl, by rw [HTK.out]; exact RD.out⟩
                case measure => simp [intOf]; have := HQL.out; omega
              · obtain rfl : t = q.length := by omega
                clear hlt htq
                rw [List.take_length, HOK.out] at RC
                obtain ⟨ua, uc, hu⟩ := uvs_shape RC.out.get0
                subst hu
                have hpa := (show ArrAt wr PB vp lp from RC.out.nth 5 rfl)
                obtain ⟨pa, pc, hv, _⟩ := (hpa.q k HK8.out).shape
                rw [uvs_len] at hv
                have hcv : wr.cell? ⟨PB, k, none⟩ = some (.slice pa (lp k).length pc) := (hpa.whole.cell k).trans ((arC_get _ HK8.out).trans (congrArg some hv))
                have HR1 : Hid (Rd .u64 wr ua (lp k)) := Lib.hid (Owns.rdu (l := lp k) (n := (lp k).length) (c := uc) (by unfold Owns; rw [uvs_len]; exact RC.out.get0))
                have HR2 : Hid (Rd .u64 wr pa (lp k)) := Lib.hid (Owns.rdu (l := lp k) (n := (lp k).length) (c := pc) (by rw [← hv]; exact hpa.q k HK8.out))
                clear hpa hv
                go_wp2_with fail
                refine (plainu_any ua pa uc pc (lp k) wr (by have := (HLL2.out k).1; omega) HR1.out HR2.out).mono ?_
                rintro e we ⟨rfl, n, hw⟩
                have RE := Lib.hid (show Room w we [fqT g own' x, arrT GB vg lg, arrT PB vp lp] from hw ▸ ((RC.out.drewN n).less (((List.Sublist.refl _).cons _ |>.cons _).cons_cons _ |>.cons _)))
                clear hw RC c5 hcv HR1 HR2
                go_wp2
                go_roundw
                case rel => exact ⟨k + 1, by omega, by go_num, RE.out⟩
                case measure => simp [intOf]; omega
          · obtain rfl : k = 8 := by omega
            clear hlk hk8
            go_wp2
            go_ret
            exact ⟨rfl, RI.out.bel⟩
      · go_upto_region 23 with fail
        go_loopw [18] (fun iv wR => ∃ k : Nat, k ≤ 8 ∧ iv = .int .i64 k ∧ Room w wR [fqT g own' x, arrT GB vg lg, arrT PB vp lp]) (fun iv _ => 8 - (intOf iv).toNat)
        case atStart => exact ⟨0, by omega, rfl, R.out⟩
        case round =>
          obtain ⟨k, hk8, rfl, hr⟩ := hrel
          have RI := Lib.hid hr
          clear hr R
          by_cases hlk : k < 8
          · have hik : (k : Int) < 8 := by omega
            have HK8 := Lib.hid hlk
            have hxo : x.Ok := FQ.ok (show FQ wr g own' x from RI.out.get0)
            have HQL : Hid ((x.F k).q.length ≤ 512) := Lib.hid (Nat.le_trans (lenQ_le (x := x) hlk) hxo.len)
            have HXO := Lib.hid hxo
            clear hlk hxo
            go_wp2_with fail
            refine (RI.out.fqflow HXO.out HK8.out).mono ?_
            rintro e w8 ⟨VV, rfl, hr8⟩
            obtain ⟨va, vc, rfl⟩ := sgs_shape hr8.get1
            have R8 := Lib.hid (hr8.box2 44 #[.int .i64 (x.F k).s, .int .i64 (x.F k).c, .int .i64 (x.F k).p, .int .u64 (x.F k).n, .int .u64 (x.F k).u, .slice va (x.F k).q.length vc])
            have HOK := Lib.hid (HOR.out k HK8.out)
            clear hr8 RI
            dsimp only [Fl.v]
            obtain ⟨q, hq⟩ : ∃ q, (x.F k).q = q := ⟨_, rfl⟩
            rw [hq] at R8 HOK HQL ⊢
            clear hq
            go_upto_region 26 with fail
            generalize hFB : w8.heap.size = FB at *
            generalize World.alloc w8 _ = w9 at *
            clear hFB
            have hga := (show ArrAt w9 GB vg lg from R8.out.get3)
            obtain ⟨ga, gc, hv, hn1, _⟩ := (hga.q k HK8.out).shape
            rw [uvs_len] at hv
            have hcv : w9.cell? ⟨GB, k, none⟩ = some (.slice ga (lg k).length gc) := (hga.whole.cell k).trans ((arC_get _ HK8.out).trans (congrArg some hv))
            have hnews := Lib.hid (show ∀ ad, ga = some ad → ∀ j u, (uvs (lg k))[j]? = some u → w9.cell? (ad.add j) = some u from fun ad had => by
              have h1 := hga.q k HK8.out
              rw [hv] at h1
              subst had
              obtain ⟨g', hg'⟩ : ∃ g', ad = ⟨g', 0, none⟩ := by
                obtain ⟨a2, c2, e2, _, h3⟩ := h1.shape
                injection e2 with e3 _ _
                exact h3 ad e3.symm
              subst hg'
              exact h1.news)
            have HN1 : Hid (ga = none → (lg k).length = 0 ∧ gc = 0) := Lib.hid (fun e => ⟨by have := (hn1 e).2; rw [← uvs_len, this]; rfl, (hn1 e).1⟩)
            clear hga hv hn1
            go_upto_region 27 with (at_builtin; refine wpList_append_owns rfl _ _ 35 rfl 22 i0 (.int .u64 0) 8 Try.underlying35 HI0.out HZ0.out HZ1.out HZ2.out rfl (.slice none 0 0) [] rfl (Owns.nil _ _) ga (lg k).length gc (uvs (lg k)) rfl (uvs_len _) HN1.out hnews.out (uvs_one _) (by unfold maxLen; have := (HLL2.out k).2; simp; omega) (by have := (HLL2.out k).2; simp; omega) ?_; intro v' wa hown hka hna _; rw [List.nil_append] at hown; have HOWN := Lib.hid hown; have KA : Hid (Keep (fun _ => False) w9 wa) := Lib.hid (hka.mono (fun k e => by cases e)); have NA : Hid (∀ k, v'.ownBlock = some k → w9.heap.size ≤ k) := Lib.hid (fun k e => by rcases hna k e with h | h; cases h; exact h); clear hown hka hna)
            have RB := Lib.hid (R8.out.add (t := uvsT v' (lg k)) (show wa.ownsRow 0 22 1 v' (lg k).length (uvs (lg k)) from (by have h := HOWN.out; unfold Owns at h; rwa [uvs_len] at h)) KA.out NA.out)
            clear R8 HOWN KA NA hnews HN1 hcv
            go_upto_region 28 with fail
            go_loopw [21, 22] (fun av tv wR => ∃ (t : Nat) (V : Value), t ≤ q.length ∧ tv = .int .i64 t ∧ av = V ∧ Room w wR [uvsT V (lg k ++ (q.take t).map Sg.f), fqT g own' x, sgsT 34 (.slice va q.length vc) q, blkT FB 44 #[.int .i64 (x.F k).s, .int .i64 (x.F k).c, .int .i64 (x.F k).p, .int .u64 (x.F k).n, .int .u64 (x.F k).u, .slice va q.length vc], arrT GB vg lg, arrT PB vp lp]) (fun _ tv _ => 512 - (intOf tv).toNat)
            case atStart => exact ⟨0, v', by omega, rfl, rfl, by simpa using RB.out⟩
            case round =>
              obtain ⟨t, V, htq, rfl, rfl, hr⟩ := hrel
              have RC := Lib.hid hr
              clear hr RB
              have c5 : wr.cell? ⟨FB, 5, none⟩ = some (.slice va q.length vc) := Whole.cell RC.out.get3 5
              by_cases hlt : t < q.length
              · have hi1 : (t : Int) < (q.length : Int) := by omega
                obtain ⟨sg, hsg⟩ : ∃ sg, q[t]? = some sg := ⟨_, List.getElem?_eq_getElem hlt⟩
                obtain ⟨r, er, _, c1, _, _, _⟩ := sgs_get (show (sgsT 34 (.slice va q.length vc) q).at_ _ from RC.out.get2) rfl hsg
                subst er
                have HTK : Hid (lg k ++ (q.take (t + 1)).map Sg.f = (lg k ++ (q.take t).map Sg.f) ++ [sg.f]) := Lib.hid (by
                  rw [List.take_add_one, hsg, List.map_append, List.append_assoc]; rfl)
                clear hsg
                have ht512 : (t : Int) < 512 := by have := HQL.out; omega
                obtain ⟨l, hl⟩ : ∃ l, lg k ++ (q.take t).map Sg.f = l := ⟨_, rfl⟩
                have HLN : Hid (l.length ≤ 612) := Lib.hid (by rw [← hl, List.length_append, List.length_map, List.length_take]; have := (HLL2.out k).2; have := HQL.out; omega)
                rw [hl] at RC HTK
                clear hl
                go_wp2_with (at_builtin; refine wpList_append_rows rfl _ _ 35 rfl 22 i0 _ 1 8 Try.underlying35 HI0.out HZ0.out HZ1.out HZ2.out rfl (by decide) _ l.length (uvs l) rfl (RC.out.alloc _).get0 (some ⟨wr.heap.size, 0, none⟩) 1 1 [.int .u64 sg.f] rfl rfl (fun h => (by cases h)) (row_news wr [.int .u64 sg.f] 22) (uvs_one [sg.f]) (by unfold maxLen; have := HLN.out; omega) (by have := HLN.out; omega) ?_; intro v2 w5' hown hk5 hnew5 _; have RD := Lib.hid ((RC.out.alloc _).step0 (t' := uvsT v2 (l ++ [sg.f])) (uvs_more hown) hk5 hnew5); clear hown hk5 hnew5 c1 c5 RC)
                go_roundw
                case rel => exact ⟨t + 1, v2, by omega, by go_num, rfl, by rw [HTK.out]; exact RD.out⟩
                case measure => simp [intOf]; have := HQL.out; omega
              · obtain rfl : t = q.length := by omega
                clear hlt htq
                rw [List.take_length, HOK.out] at RC
                obtain ⟨ua, uc, hu⟩ := uvs_shape RC.out.get0
                subst hu
                have hpa := (show ArrAt wr PB vp lp from RC.out.nth 5 rfl)
                obtain ⟨pa, pc, hv, _⟩ := (hpa.q k HK8.out).shape
                rw [uvs_len] at hv
                have hcv : wr.cell? ⟨PB, k, none⟩ = some (.slice pa (lp k).length pc) := (hpa.whole.cell k).trans ((arC_get _ HK8.out).trans (congrArg some hv))
                have HR1 : Hid (Rd .u64 wr ua (lp k)) := Lib.hid (Owns.rdu (l := lp k) (n := (lp k).length) (c := uc) (by unfold Owns; rw [uvs_len]; exact RC.out.get0))
                have HR2 : Hid (Rd .u64 wr pa (lp k)) := Lib.hid (Owns.rdu (l := lp k) (n := (lp k).length) (c := pc) (by rw [← hv]; exact hpa.q k HK8.out))
                clear hpa hv
                go_wp2_with fail
                refine (plainu_any ua pa uc pc (lp k) wr (by have := (HLL2.out k).1; omega) HR1.out HR2.out).mono ?_
                rintro e we ⟨rfl, n, hw⟩
                have RE := Lib.hid (show Room w we [fqT g own' x, arrT GB vg lg, arrT PB vp lp] from hw ▸ ((RC.out.drewN n).less (((List.Sublist.refl _).cons _ |>.cons _).cons_cons _ |>.cons _)))
                clear hw RC c5 hcv HR1 HR2
                go_wp2
                go_roundw
                case rel => exact ⟨k + 1, by omega, by go_num, RE.out⟩
                case measure => simp [intOf]; omega
          · obtain rfl : k = 8 := by omega
            clear hlk hk8
            go_wp2
            go_ret
            exact ⟨rfl, RI.out.bel⟩
end Go.Proofs.Ytnljjdfajmjdjaa
