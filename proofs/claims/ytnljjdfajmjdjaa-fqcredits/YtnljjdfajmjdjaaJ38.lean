/-
  canterlaw20.FqCredits, walked. Conditions: numbers are of their kind.
-/
import Derived.Test.YtnljjdfajmjdjaaJ34
import Derived.Test.YtnljjdfajmjdjaaJ31
import Derived.LoopTactic
namespace Go.Proofs.Ytnljjdfajmjdjaa
open Go.RowKit
set_option maxRecDepth 100000
set_option linter.unusedSimpArgs false
set_option linter.unusedVariables false

theorem dly_none (l z : Int) : dlyQ [] 0 l z = 0 := by
  have h : lesV (rateAt [] z.toNat) 0 = 18446744073709551615 := by
    show lesV 18446744073709551615 0 = _
    decide
  show delV l (lesV (rateAt [] z.toNat) 0) = 0
  rw [h]
  unfold delV
  split
  · rfl
  · rw [if_pos rfl]
set_option maxRecDepth 100000 in
set_option maxHeartbeats 1000000 in
theorem credits_walk (a0 a1 : Int) (a1l : 0 ≤ a1) (a1h : a1 ≤ 18446744073709551615) (w : World) :
    Calls Try.prog 9 #[.int .i64 a0, .int .u64 a1] w fun e w' => e = .returned (.bool true) ∧ Below w.heap.size w w' := by
  obtain ⟨n0, sz, m1, m2, m3, m4, m5, m6⟩ := mod_num a0 65536 (by decide) (by decide)
  obtain ⟨gp, hgp⟩ : ∃ gp, a1 % 5000000000 = gp := ⟨_, rfl⟩
  have hgt : a1.tmod 5000000000 = gp := by rw [Int.tmod_eq_emod_of_nonneg a1l]; exact hgp
  have hgu : U64 gp := ⟨by omega, by omega⟩
  obtain ⟨low, htop⟩ := Top.is (q := 3000) (by decide) (15000 - sz)
  obtain ⟨x2, x3, he, e2, ok2, s2, e3, ok3, s3, ok4, s4⟩ := way_credit (d := dlyQ [] plainC.r) (size := sz) (gap := gp) (low := low) (fun l z => (dlyQ_bd (fun _ h => by cases h) ⟨by decide, by decide⟩ l z).1) ⟨by omega, by omega⟩ hgu (dly_none sz 0) htop
  have c2 : x2.c = plainC := (deq_c e2).trans (enq_c _ _ _)
  have HE2 := Lib.hid e2; have HS2 := Lib.hid s2; have HS3 := Lib.hid s3; have HS4 := Lib.hid s4; have HTOP := Lib.hid htop; have HGU := Lib.hid hgu
  have HE3 : Hid (deqQ (dlyQ [] x2.c.r) x2 0 = (x3, none)) := Lib.hid (by rw [c2]; exact e3)
  have HSZ : Hid (1 ≤ sz ∧ sz ≤ 65536) := Lib.hid ⟨by omega, by omega⟩
  have hws : wrap64 (15000 - sz) = 15000 - sz := by unfold wrap64; omega
  clear a1l a1h hgp hgu htop he e2 ok2 s2 e3 ok3 s3 ok4 s4 c2 m4 m5 m6
  go_enter Try.func9, Try.ntmps9
  go_wp2_with fail
  refine (plain_any w).mono ?_
  rintro e w1 ⟨rfl, k1⟩
  have R1 := Lib.hid (((Room.begin w).kept k1).box 24 #[.int .i64 3000, .int .i64 15000, .int .i64 100, .int .i64 50, .int .u64 10000000000, .int .u64 0, .bool false, .int .i64 100000, .int .i64 1000])
  clear k1
  go_upto_region 4 with fail
  simp only [m2, m3, hgt]
  clear hgt m1 m2 m3
  go_wp2_with fail
  refine (R1.out.fqnew plainC plain_ok).mono ?_
  rintro e w2 ⟨g, own, rfl, hr2⟩
  have R2 := Lib.hid hr2
  clear hr2 R1
  go_wp2_with fail
  refine (awakef_any w2).mono ?_
  rintro e w3 ⟨rfl, k3⟩
  have R3 := Lib.hid (R2.out.kept k3)
  clear k3 R2
  go_wp2_with fail
  refine (R3.out.fqenq ⟨0, 0, sz, 0, false⟩ 0 u0 u0 u0).mono ?_
  rintro e w4 ⟨rfl, own4, hr4⟩
  have R4 := Lib.hid hr4
  clear hr4 R3
  go_wp2_with fail
  refine (R4.out.fqdeq0 (y := x2) (o := some ⟨0, 0, sz, 0, false⟩) 0 u0 (by rw [enq_c]; exact HE2.out)).mono ?_
  rintro e w5 ⟨rfl, own5, hr5⟩
  have R5 := Lib.hid hr5
  clear hr5 R4
  dsimp only [Option.getD, Option.isSome, Sg.v]
  go_wp2_with fail
  refine (R5.out.fqflow_yes (i := 0) (by decide) HS2.out.T).mono ?_
  rintro e w6 ⟨V, rfl, hr6⟩
  obtain ⟨va, vc, rfl⟩ := sgs_shape hr6.get1
  rw [HS2.out.F] at hr6 ⊢
  have R6 := Lib.hid (hr6.box1 44 #[.int .i64 0, .int .i64 (15000 - sz), .int .i64 1, .int .u64 0, .int .u64 0, .slice va 0 vc])
  clear hr6 R5
  dsimp only [Fl.v, List.length_cons, List.length_nil]
  go_wp2_with fail
  refine (R6.out.fqdeq0 (y := x3) (o := none) 0 u0 HE3.out).mono ?_
  rintro e w7 ⟨rfl, own7, hr7⟩
  have R7 := Lib.hid (hr7.box1 34 #[.int .i64 0, .int .u64 0, .int .i64 0, .int .u64 0, .bool false])
  clear hr7 R6
  dsimp only [Option.getD, Option.isSome, Sg.zero, Sg.v]
  go_wp2_with fail
  refine (R7.out.fqflow_yes (i := 0) (by decide) HS3.out.T).mono ?_
  rintro e w8 ⟨V, rfl, hr8⟩
  obtain ⟨vb, vd, rfl⟩ := sgs_shape hr8.get1
  rw [HS3.out.F] at hr8 ⊢
  have R8 := Lib.hid (hr8.box1 44 #[.int .i64 0, .int .i64 low, .int .i64 0, .int .u64 0, .int .u64 0, .slice vb 0 vd])
  clear hr8 R7
  dsimp only [Fl.v, List.length_cons, List.length_nil]
  go_wp2_with fail
  refine (R8.out.fqenq ⟨0, 0, 1, 0, false⟩ gp HGU.out u0 u0).mono ?_
  rintro e w9 ⟨rfl, own9, hr9⟩
  have R9 := Lib.hid hr9
  clear hr9 R8
  obtain ⟨want, hwant⟩ : ∃ want, (if 3000000000 ≤ gp then 15000 else if 40000000 ≤ gp then max low 3000 else low) = want := ⟨_, rfl⟩
  have HW := Lib.hid hwant
  rw [hwant] at HS4
  clear hwant
  go_wp2_with fail
  refine (R9.out.fqflow_yes (i := 0) (by decide) HS4.out.T).mono ?_
  rintro e wa ⟨V, rfl, hra⟩
  obtain ⟨ve, vf, rfl⟩ := sgs_shape hra.get1
  rw [HS4.out.F] at hra ⊢
  have RA := Lib.hid (hra.box1 44 #[.int .i64 0, .int .i64 want, .int .i64 1, .int .u64 0, .int .u64 0, .slice ve 1 vf])
  clear hra R9
  dsimp only [Fl.v, List.length_cons, List.length_nil]
  go_upto_region 14 with fail
  generalize World.alloc wa _ = wb at *
  -- fqT, blk d (wa), sgsT, blk b (w8), sgsT, blk seg (w7), blk a (w6), sgsT, blk conf (w1)
  have q0 : wb.cell? ⟨w1.heap.size, 0, none⟩ = some (.int .i64 3000) := Whole.cell (RA.out.nth 8 (t := blkT w1.heap.size 24 plainV) rfl) 0
  have q1 : wb.cell? ⟨w1.heap.size, 1, none⟩ = some (.int .i64 15000) := Whole.cell (RA.out.nth 8 (t := blkT w1.heap.size 24 plainV) rfl) 1
  have p0 : wb.cell? ⟨wa.heap.size, 1, none⟩ = some (.int .i64 want) := Whole.cell RA.out.get1 1
  have p1 : wb.cell? ⟨wa.heap.size, 2, none⟩ = some (.int .i64 1) := Whole.cell RA.out.get1 2
  have p2 : wb.cell? ⟨w8.heap.size, 1, none⟩ = some (.int .i64 low) := Whole.cell RA.out.get3 1
  have p3 : wb.cell? ⟨w8.heap.size, 2, none⟩ = some (.int .i64 0) := Whole.cell RA.out.get3 2
  have p4 : wb.cell? ⟨w6.heap.size, 1, none⟩ = some (.int .i64 (15000 - sz)) := Whole.cell (RA.out.nth 6 (t := blkT w6.heap.size 44 #[.int .i64 0, .int .i64 (15000 - sz), .int .i64 1, .int .u64 0, .int .u64 0, .slice va 0 vc]) rfl) 1
  obtain ⟨ct, hct⟩ : ∃ ct, 15000 - sz = ct := ⟨_, rfl⟩
  rw [hct] at hws p4 HTOP
  have hcb : -60000 ≤ ct ∧ ct ≤ 14999 := by have := HSZ.out; omega
  have HCB := Lib.hid hcb
  go_upto_region 15 with fail
  try simp only [hct, hws]
  go_loopw [16] (fun i wr => ∃ l, i = .int .i64 l ∧ Top 3000 l low ∧ (-60000 ≤ l ∧ l ≤ 15000) ∧ wr = wb) (fun i _ => (3000 - intOf i).toNat)
  case atStart => exact ⟨ct, rfl, HTOP.out, by omega, rfl⟩
  case round =>
    obtain ⟨l, rfl, ht, hl, rfl⟩ := hrel
    have HT := Lib.hid ht; have HL := Lib.hid hl
    clear ht
    by_cases hle : l ≤ 0
    · have HLE := Lib.hid hle
      go_wp2
      go_roundw
      case rel =>
        refine ⟨l + 3000, by go_num, ?_, by omega, by first | rfl | trivial⟩
        cases HT.out with
        | done h => omega
        | more _ t => exact t
      case measure => simp [intOf]; omega
    · have hlow : low = l := by
        cases HT.out with
        | done h => rfl
        | more h _ => omega
      subst hlow
      clear HT hl
      have HPOS : Hid (0 < low) := Lib.hid (by omega)
      -- want, as the law says it
      have htop := HTOP.out
      have hle' : ¬ low ≤ 0 := hle
      by_cases hcp : 0 < ct
      · have hlc : low = ct := Top.one htop (.done hcp)
        rw [hlc] at HW HPOS p2 hle' ⊢
        clear hlc htop HTOP HCB
        by_cases g3 : 3000000000 ≤ gp
        · obtain rfl : 15000 = want := by have := HW.out; rwa [if_pos g3] at this
          clear HW
          go_wp2
          go_ret
          exact ⟨rfl, RA.out.bel⟩
        · by_cases g4 : 40000000 ≤ gp
          · have hw := HW.out
            rw [if_neg g3, if_pos g4] at hw
            clear HW
            obtain ⟨lw, hlw⟩ : ∃ lw, lw = ct := ⟨_, rfl⟩
            rcases Int.lt_trichotomy ct 3000 with h5 | h5 | h5
            · have h6 : ¬ 3000 < ct := by omega
              obtain rfl : 3000 = want := by omega
              clear hw hlw
              go_wp2
              go_ret
              exact ⟨rfl, RA.out.bel⟩
            · obtain rfl : ct = want := by omega
              have h6 : ¬ ct < 3000 := by omega
              have h7 : ¬ 3000 < ct := by omega
              clear hw hlw
              go_wp2
              go_ret
              exact ⟨rfl, RA.out.bel⟩
            · have h6 : ¬ ct < 3000 := by omega
              obtain rfl : ct = want := by omega
              clear hw hlw
              go_wp2
              go_ret
              exact ⟨rfl, RA.out.bel⟩
          · obtain rfl : ct = want := by have := HW.out; rwa [if_neg g3, if_neg g4] at this
            clear HW
            go_wp2
            go_ret
            exact ⟨rfl, RA.out.bel⟩
      · clear htop HTOP HCB
        by_cases g3 : 3000000000 ≤ gp
        · obtain rfl : 15000 = want := by have := HW.out; rwa [if_pos g3] at this
          clear HW
          go_wp2
          go_ret
          exact ⟨rfl, RA.out.bel⟩
        · by_cases g4 : 40000000 ≤ gp
          · have hw := HW.out
            rw [if_neg g3, if_pos g4] at hw
            clear HW
            obtain ⟨lw, hlw⟩ : ∃ lw, lw = low := ⟨_, rfl⟩
            rcases Int.lt_trichotomy low 3000 with h5 | h5 | h5
            · have h6 : ¬ 3000 < low := by omega
              obtain rfl : 3000 = want := by omega
              clear hw hlw
              go_wp2
              go_ret
              exact ⟨rfl, RA.out.bel⟩
            · obtain rfl : low = want := by omega
              have h6 : ¬ low < 3000 := by omega
              have h7 : ¬ 3000 < low := by omega
              clear hw hlw
              go_wp2
              go_ret
              exact ⟨rfl, RA.out.bel⟩
            · have h6 : ¬ low < 3000 := by omega
              obtain rfl : low = want := by omega
              clear hw hlw
              go_wp2
              go_ret
              exact ⟨rfl, RA.out.bel⟩
          · obtain rfl : low = want := by have := HW.out; rwa [if_neg g3, if_neg g4] at this
            clear HW
            go_wp2
            go_ret
            exact ⟨rfl, RA.out.bel⟩
end Go.Proofs.Ytnljjdfajmjdjaa
