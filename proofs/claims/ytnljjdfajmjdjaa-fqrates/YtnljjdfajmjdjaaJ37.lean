/-
  canterlaw20.FqRates, walked. Conditions: numbers are of their kind.
-/
import Derived.Test.YtnljjdfajmjdjaaJ31
import Derived.Test.YtnljjdfajmjdjaaJ36
namespace Go.Proofs.Ytnljjdfajmjdjaa
open Go.RowKit
set_option maxRecDepth 100000
set_option linter.unusedSimpArgs false
set_option linter.unusedVariables false

theorem rd_one {w : World} {B : Nat} {a : Int} (h : Whole w B 22 #[.int .u64 a]) : Rd .u64 w (some ⟨B, 0, none⟩) [a] := fun i hi => by
  have h0 : i = 0 := by simp at hi; exact hi
  subst h0
  exact ⟨B, 0, rfl, h.lt, h.cell 0⟩
theorem apart_one {wB w : World} {L : List Thing} {g B : Nat} {own : Nat → Prop} {x : Qm} {t : TypeId} {cs : Array Value} (h : Room wB w (fqT g own x :: blkT B t cs :: L)) : ∀ b off, (some ⟨B, 0, none⟩ : Option Addr) = some ⟨b, off, none⟩ → ¬ own b := fun b off e e2 => by
  cases e
  exact h.ne01 (a := fqT g own x) (b := blkT B t cs) (g := B) (k := B) e2 rfl rfl
theorem bd_one {a : Int} (h : 0 ≤ a ∧ a ≤ 18446744073709551615) : ∀ r ∈ [a], U64 r := fun r hr => by
  rw [List.mem_singleton.1 hr]; exact h
set_option maxRecDepth 100000 in
set_option maxHeartbeats 400000 in
theorem rates_walk (a0 a1 a2 : Int) (HA1 : Hid (0 ≤ a1 ∧ a1 ≤ 18446744073709551615)) (a2l : 0 ≤ a2) (a2h : a2 ≤ 18446744073709551615) (w : World) :
    Calls Try.prog 12 #[.int .i64 a0, .int .u64 a1, .int .u64 a2] w fun e w' => e = .returned (.bool true) ∧ Below w.heap.size w w' := by
  obtain ⟨n0, sz, m1, m2, m3, m4, m5, m6⟩ := mod_num a0 9000 (by decide) (by decide)
  obtain ⟨mr, hmr⟩ : ∃ mr, a2 % 10000000 = mr := ⟨_, rfl⟩
  have hmt : a2.tmod 10000000 = mr := by rw [Int.tmod_eq_emod_of_nonneg a2l]; exact hmr
  have hmr1 : 0 ≤ mr ∧ mr < 10000000 := by omega
  have hru : U64 mr := ⟨by omega, by omega⟩
  obtain ⟨dd, hdd⟩ : ∃ dd, delV sz (lesV a1 mr) = dd := ⟨_, rfl⟩
  have hbd := fun l z => dlyQ_bd (bd_one HA1.out) hru l z
  have hdd' : dlyQ [a1] mr sz 0 = dd := hdd
  have hd0 := hbd sz 0
  rw [hdd'] at hd0
  obtain ⟨x1, x2, hx1, ok1, e2, ok2, c2, s2, way3, way0⟩ := way_rate (d := dlyQ [a1] mr) hru hbd (size := sz) ⟨by omega, by omega⟩ hdd'
  have HX1 := Lib.hid hx1; have HE2 := Lib.hid e2; have HC2 := Lib.hid c2; have HS2 := Lib.hid s2; have W3 := Lib.hid way3; have W0 := Lib.hid way0; have HRU := Lib.hid hru; have HD0 := Lib.hid hd0; have HDD := Lib.hid hdd
  have HSZ : Hid (1 ≤ sz ∧ sz ≤ 9000) := Lib.hid ⟨by omega, by omega⟩
  have hw5 : IntKind.u64.wrap (5 + dd) = 5 + dd := by rw [IntKind.wrap_u64]; omega
  have hw4 : IntKind.u64.wrap (4 + dd) = 4 + dd := by rw [IntKind.wrap_u64]; omega
  clear a2l a2h hmr hmr1 hru hbd hdd' hd0 hx1 ok1 e2 ok2 c2 s2 way3 way0 hdd m4 m5 m6
  go_enter Try.func12, Try.ntmps12
  go_wp2_with fail
  refine (plain_any w).mono ?_
  rintro e w1 ⟨rfl, k1⟩
  have R1 := Lib.hid (((Room.begin w).kept k1).box 24 #[.int .i64 3000, .int .i64 15000, .int .i64 100, .int .i64 50, .int .u64 10000000000, .int .u64 mr, .bool false, .int .i64 100000, .int .i64 1000])
  clear k1
  go_upto_region 4 with fail
  simp only [m2, m3, hmt]
  clear hmt m1 m2 m3
  go_wp2_with fail
  refine (R1.out.fqnew (rateC mr) (rate_ok HRU.out)).mono ?_
  rintro e w2 ⟨g, own, rfl, hr2⟩
  have R2 := Lib.hid hr2
  clear hr2 R1
  go_wp2_with fail
  refine (awakef_any w2).mono ?_
  rintro e w3 ⟨rfl, k3⟩
  have R3 := Lib.hid (R2.out.kept k3)
  clear k3 R2
  go_wp2_with fail
  refine (R3.out.fqenq ⟨0, 0, sz, 0, false⟩ 5 u5 u0 u0).mono ?_
  rintro e w4 ⟨rfl, own4, hr4⟩
  have R4 := Lib.hid hr4
  clear hr4 R3
  go_wp2_with fail
  refine (R4.out.fqenq ⟨0, 0, 1, 0, false⟩ 5 u5 u0 u0).mono ?_
  rintro e w5 ⟨rfl, own5, hr5⟩
  rw [← HX1.out] at hr5
  have R5 := Lib.hid (hr5.box1 22 #[.int .u64 a1])
  clear hr5 R4
  have cx1 : x1.c = rateC mr := by rw [HX1.out]; exact (enq_c _ _ _).trans (enq_c _ _ _)
  have HCX := Lib.hid cx1
  clear cx1
  go_wp2_with fail
  refine (R5.out.fqdeq (y := x2) (o := some ⟨0, 0, sz, 0, false⟩) 5 u5 (some ⟨w5.heap.size, 0, none⟩) 1 [a1] (rd_one R5.out.get1) (bd_one HA1.out) (apart_one R5.out) (by rw [HCX.out]; exact HE2.out)).mono ?_
  rintro e w6 ⟨rfl, own6, hr6⟩
  have R6 := Lib.hid (hr6.box1 34 #[.int .i64 0, .int .u64 0, .int .i64 sz, .int .u64 0, .bool false])
  clear hr6 R5
  have cR : (w6.alloc (.cells #[.int .i64 0, .int .u64 0, .int .i64 sz, .int .u64 0, .bool false] 34)).cell? ⟨w1.heap.size, 5, none⟩ = some (.int .u64 mr) := Whole.cell R6.out.get3 5
  dsimp only [Option.getD, Option.isSome, Sg.v]
  go_wp2_with fail
  refine (rles_any a1 mr HA1.out.1 HA1.out.2 HRU.out.1 HRU.out.2 _).mono ?_
  rintro e w7 ⟨rfl, rfl⟩
  go_wp2_with fail
  refine (rdel_any sz (lesV a1 mr) (by have := HSZ.out; omega) (by have := (lesV_bd HA1.out.1 HA1.out.2 HRU.out.1 HRU.out.2).1; omega) (lesV_bd HA1.out.1 HA1.out.2 HRU.out.1 HRU.out.2).2 _).mono ?_
  rintro e w8 ⟨rfl, rfl⟩
  rw [HDD.out]
  clear cR
  go_wp2_with fail
  refine (R6.out.fqflow_yes (i := 0) (by decide) HS2.out.T).mono ?_
  rintro e w9 ⟨V, rfl, hr9⟩
  obtain ⟨va, vc, rfl⟩ := sgs_shape hr9.get1
  rw [HS2.out.F] at hr9 ⊢
  have R9 := Lib.hid (hr9.box1 44 #[.int .i64 0, .int .i64 (15000 - sz), .int .i64 1, .int .u64 (5 + dd), .int .u64 0, .slice va 1 vc])
  clear hr9 R6
  dsimp only [Fl.v, List.length_cons, List.length_nil]
  have g9 : (w9.alloc (.cells #[.int .i64 0, .int .i64 (15000 - sz), .int .i64 1, .int .u64 (5 + dd), .int .u64 0, .slice va 1 vc] 44)).cell? ⟨w9.heap.size, 3, none⟩ = some (.int .u64 (5 + dd)) := Whole.cell R9.out.get1 3
  go_upto_region 14 with fail
  clear g9
  generalize World.alloc w9 _ = w10 at *
  by_cases h0 : 0 < dd
  · obtain ⟨x3, e3, ok3, c3, d3, e4⟩ := W3.out h0
    have HE3 : Hid (deqQ (dlyQ [a1] x2.c.r) x2 (4 + dd) = (x3, none)) := Lib.hid (by rw [HC2.out]; exact e3)
    have HD3 := Lib.hid d3
    obtain ⟨x4, hx4⟩ : ∃ y, (deqQ (dlyQ [a1] mr) x3 (5 + dd)).1 = y := ⟨_, rfl⟩
    have HE4 : Hid (deqQ (dlyQ [a1] x3.c.r) x3 (5 + dd) = (x4, some ⟨0, 0, 1, 0, false⟩)) := Lib.hid (by
      rw [c3]
      show deqQ (dlyQ [a1] mr) x3 (5 + dd) = _
      rw [← hx4, ← e4])
    have U4 : Hid (U64 (4 + dd)) := Lib.hid ⟨by omega, by have := HD0.out.2; omega⟩
    have U5 : Hid (U64 (5 + dd)) := Lib.hid ⟨by omega, by have := HD0.out.2; omega⟩
    have R10 := Lib.hid (R9.out.box1 22 #[.int .u64 a1])
    clear R9 e3 ok3 c3 d3 e4 hx4
    go_wp2_with fail
    refine (R10.out.fqdeq (y := x3) (o := none) (4 + dd) U4.out (some ⟨w10.heap.size, 0, none⟩) 1 [a1] (rd_one R10.out.get1) (bd_one HA1.out) (apart_one R10.out) HE3.out).mono ?_
    rintro e w11 ⟨rfl, own11, hr11⟩
    have R11 := Lib.hid (hr11.box1 34 #[.int .i64 0, .int .u64 0, .int .i64 0, .int .u64 0, .bool false])
    clear hr11 R10
    dsimp only [Option.getD, Option.isSome, Sg.zero, Sg.v]
    go_wp2_with fail
    refine R11.out.fqdog.mono ?_
    rintro e w12 ⟨rfl, hr12⟩
    rw [(dog_opt x3).1, (dog_opt x3).2, HD3.out]
    dsimp only [Option.getD, Option.isSome]
    have R12 := Lib.hid (hr12.box1 22 #[.int .u64 a1])
    clear hr12 R11
    go_wp2_with fail
    refine (R12.out.fqdeq (y := x4) (o := some ⟨0, 0, 1, 0, false⟩) (5 + dd) U5.out (some ⟨w12.heap.size, 0, none⟩) 1 [a1] (rd_one R12.out.get1) (bd_one HA1.out) (apart_one R12.out) HE4.out).mono ?_
    rintro e w13 ⟨rfl, own13, hr13⟩
    have R13 := Lib.hid (hr13.box1 34 #[.int .i64 0, .int .u64 0, .int .i64 1, .int .u64 0, .bool false])
    clear hr13 R12
    dsimp only [Option.getD, Option.isSome, Sg.v]
    go_wp2
    go_ret
    exact ⟨rfl, R13.out.bel⟩
  · obtain rfl : dd = 0 := by have := HD0.out.1; omega
    have e4 := W0.out rfl
    obtain ⟨x4, hx4⟩ : ∃ y, (deqQ (dlyQ [a1] mr) x2 5).1 = y := ⟨_, rfl⟩
    have HE4 : Hid (deqQ (dlyQ [a1] x2.c.r) x2 5 = (x4, some ⟨0, 0, 1, 0, false⟩)) := Lib.hid (by
      rw [HC2.out]
      show deqQ (dlyQ [a1] mr) x2 5 = _
      rw [← hx4, ← e4])
    have R10 := Lib.hid (R9.out.box1 22 #[.int .u64 a1])
    clear R9 e4 hx4 hw4 hw5
    go_wp2_with fail
    refine (R10.out.fqdeq (y := x4) (o := some ⟨0, 0, 1, 0, false⟩) 5 u5 (some ⟨w10.heap.size, 0, none⟩) 1 [a1] (rd_one R10.out.get1) (bd_one HA1.out) (apart_one R10.out) HE4.out).mono ?_
    rintro e w13 ⟨rfl, own13, hr13⟩
    have R13 := Lib.hid (hr13.box1 34 #[.int .i64 0, .int .u64 0, .int .i64 1, .int .u64 0, .bool false])
    clear hr13 R10
    dsimp only [Option.getD, Option.isSome, Sg.v]
    go_wp2
    go_ret
    exact ⟨rfl, R13.out.bel⟩
end Go.Proofs.Ytnljjdfajmjdjaa
