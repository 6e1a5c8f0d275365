/-
  Proved: canterlaw05.TreeTurned answers true at every list of keys and every list of bools, and leaves its arguments as they were. Conditions: none.
-/
import Derived.Test.YtfbbmpmgceghfaaRows
import Derived.WalkKit
import Derived.ProofKit
import Derived.OpenShut
import Derived.ShutString
import Derived.Below
import Derived.Test.YtfbbmpmgceghfaaDuo
namespace Go.Proofs.Ytfbbmpmgceghfaa.treeTurned
open Go.ChangeShapes Go.WideShapes Go.ChangeAt Go.RowKit
set_option maxRecDepth 100000
set_option linter.unusedVariables false

theorem own : ownKnob Try.prog.godebug = none := by kernel_rfl
theorem laidOut : laidOutB Try.prog = true := by kernel_rfl

theorem decide_eq_iff_eq_true_iff' {p : Prop} [Decidable p] {b : Bool} : decide p = b ↔ (p ↔ b = true) := by
  cases b <;> simp

set_option maxHeartbeats 8000000 in
set_option maxRecDepth 100000 in
theorem walk (a0 : Option Addr) (cap0 : Nat) (z0 : List Key) (a1 : Option Addr) (cap1 : Nat) (z1 : List Bool) (w : World) (c0 : z0.length ≤ cap0 ∧ cap0 ≤ 9223372036854775807) (r0 : RdK w a0 z0) (c1 : z1.length ≤ 9223372036854775807) (r1 : RdB w a1 z1) :
    Calls Try.prog 4 #[.slice a0 z0.length cap0, .slice a1 z1.length cap1] w fun e w' => e = .returned (.bool true) ∧ Below w.heap.size w w' := by
  have heq := Try.neKey
  have HR := Lib.hid r0; have HRB := Lib.hid r1; clear r0 r1
  obtain ⟨hcap1, hcap2⟩ := c0
  go_enter Try.func4, Try.ntmps4
  by_cases hlong : 100 < z0.length
  · have hl1 : (100 : Int) < (z0.length : Int) := by omega
    go_wp2_with fail
    refine (awaket_any w).mono ?_
    rintro e w1 ⟨rfl, k1⟩
    have K1 := Lib.hid (k1.below (Nat.le_refl _) (fun _ h => h.elim)); clear k1
    go_wp2
    go_ret
    exact ⟨rfl, K1.out⟩
  · have hl1 : ¬ (100 : Int) < (z0.length : Int) := by omega
    have hl2 : z0.length ≤ 100 := by omega
    clear hlong
    go_wp2_with fail
    refine (Sit.new (N := 200) rfl w).mono ?_
    rintro e w1 ⟨gx, S1, rfl, h1, _⟩
    have H1 := Lib.hid h1; clear h1
    go_wp2_with fail
    refine (Duo.new H1.out (n := 200) rfl).mono ?_
    rintro e w2 ⟨gy, rfl, h2⟩
    have H2 := Lib.hid h2; clear h2 H1
    go_wp2_with fail
    refine H2.out.awake.mono ?_
    rintro e w3 ⟨rfl, h3⟩
    have H3 := Lib.hid h3; clear h3 H2
    go_wp2
    go_loopw [7] (fun a7 wr => ∃ i : Nat, i ≤ z0.length ∧ a7 = .int .i64 i ∧ Duo w wr gx 200 (ksOf 200 (z0.take i)) gy (ksOf 200 (z0.reverse.take i))) (fun a7 _ => z0.length - (intOf a7).toNat)
    case atStart => exact ⟨0, Nat.zero_le _, rfl, H3.out⟩
    case round =>
      obtain ⟨i, hi, rfl, hduo⟩ := hrel
      have HD := Lib.hid hduo; clear hduo H3
      by_cases hlt : i < z0.length
      · have hi1 : (i : Int) < (z0.length : Int) := by omega
        obtain ⟨x, hx⟩ : ∃ x, z0[i]? = some x := ⟨_, List.getElem?_eq_getElem hlt⟩
        obtain ⟨q, hq⟩ : ∃ q, z0.length = q + 1 + i := ⟨z0.length - 1 - i, by omega⟩
        obtain ⟨y, hy⟩ : ∃ y, z0[q]? = some y := ⟨_, List.getElem?_eq_getElem (by omega)⟩
        have hyr : z0.reverse[i]? = some y := by rw [List.getElem?_reverse (by omega), show z0.length - 1 - i = q by omega]; exact hy
        obtain ⟨b1, o1, rfl, hb1, c1, c2⟩ := HR.out i x hx
        obtain ⟨b2, o2, e2, hb2, c3, c4⟩ := HR.out q y hy
        cases e2
        have hqe : (z0.length : Int) - 1 - (i : Int) = (q : Int) := by omega
        have hq1 : (q : Int) < (z0.length : Int) := by omega
        have HTX := Lib.hid (take_at hx); have HTY := Lib.hid (take_at hyr)
        have HCY : Hid (∀ W, Below w.heap.size w W → W.cell? ⟨b1, o1 + q * 2, none⟩ = some (.int .u64 y.a) ∧ W.cell? ⟨b1, o1 + q * 2 + 1, none⟩ = some (.int .u64 y.b)) := Lib.hid fun W hW => ⟨(hW.cell (p := ⟨b1, _, none⟩) hb1).trans c3, (hW.cell (p := ⟨b1, _, none⟩) hb1).trans c4⟩
        have g1 := (HD.out.bel.cell (p := ⟨b1, o1 + i * 2, none⟩) hb1).trans c1
        have g2 := (HD.out.bel.cell (p := ⟨b1, o1 + i * 2 + 1, none⟩) hb1).trans c2
        clear c1 c2 c3 c4 hx hy hyr hq
        obtain ⟨xa, xb⟩ := x
        obtain ⟨ya, yb⟩ := y
        dsimp only at g1 g2 HCY
        go_wp2_with fail
        refine (HD.out.ins ⟨xa, xb⟩).mono ?_
        rintro e w4 ⟨⟨v4, rfl⟩, h4⟩
        have H4 := Lib.hid h4; clear h4 HD g1 g2
        obtain ⟨g1, g2⟩ := HCY.out _ H4.out.bel
        go_wp2_with fail
        refine (H4.out.swap.ins ⟨ya, yb⟩).mono ?_
        rintro e w5 ⟨⟨v5, rfl⟩, h5⟩
        have H5 := Lib.hid h5.swap; clear h5 H4 g1 g2
        go_wp2
        go_roundw
        case rel => exact ⟨i + 1, by omega, by go_num, by rw [HTX.out, HTY.out, ksOf_snoc, ksOf_snoc]; exact H5.out⟩
        case measure => simp [intOf]; omega
      · obtain rfl : z0.length = i := by omega
        have hkx := (ksOf_facts 200 z0 (by omega)).2
        have hky := (ksOf_facts 200 z0.reverse (by simp; omega)).2
        rw [List.take_length, List.take_of_length_le (by simp)] at HD
        have HX0 : Hid (Left z0 z1 0 0 (ksOf 200 z0)) := Lib.hid (fun x => by rw [hkx]; exact ⟨fun h => ⟨h, Hit.none (Nat.le_refl _)⟩, fun h => h.1⟩)
        have HY0 : Hid (Left z0 z1 z0.length z0.length (ksOf 200 z0.reverse)) := Lib.hid (fun x => by rw [hky, List.mem_reverse]; exact ⟨fun h => ⟨h, Hit.none (Nat.le_refl _)⟩, fun h => h.1⟩)
        clear hkx hky hi hlt
        go_wp2
        go_loopw [8] (fun a8 wr => ∃ (i : Nat) (kx ky : List Key), i ≤ z0.length ∧ a8 = .int .i64 i ∧ Left z0 z1 0 i kx ∧ Left z0 z1 (z0.length - i) z0.length ky ∧ Duo w wr gx 200 kx gy ky) (fun a8 _ => z0.length - (intOf a8).toNat)
        case atStart => exact ⟨0, _, _, Nat.zero_le _, rfl, HX0.out, HY0.out, HD.out⟩
        case round =>
          obtain ⟨i, kx, ky, hi, rfl, hX, hY, hduo⟩ := hrel
          have HD := Lib.hid hduo; clear hduo HX0 HY0
          by_cases hlt : i < z0.length
          · have hi1 : (i : Int) < (z0.length : Int) := by omega
            obtain ⟨x, hx⟩ : ∃ x, z0[i]? = some x := ⟨_, List.getElem?_eq_getElem hlt⟩
            obtain ⟨q, hq⟩ : ∃ q, z0.length = q + 1 + i := ⟨z0.length - 1 - i, by omega⟩
            obtain ⟨y, hy⟩ : ∃ y, z0[q]? = some y := ⟨_, List.getElem?_eq_getElem (by omega)⟩
            obtain ⟨b1, o1, rfl, hb1, c1, c2⟩ := HR.out i x hx
            obtain ⟨b3, o3, e2, hb3, c3, c4⟩ := HR.out q y hy
            cases e2
            have hqe : (z0.length : Int) - 1 - (i : Int) = (q : Int) := by omega
            have hq1 : (q : Int) < (z0.length : Int) := by omega
            have hX' := hX.hi (Nat.zero_le _) hx
            rw [show z0.length - i = q + 1 by omega] at hY
            have hY' := hY.lo (by omega) hy
            have HCY : Hid (∀ W, Below w.heap.size w W → W.cell? ⟨b1, o1 + q * 2, none⟩ = some (.int .u64 y.a) ∧ W.cell? ⟨b1, o1 + q * 2 + 1, none⟩ = some (.int .u64 y.b)) := Lib.hid fun W hW => ⟨(hW.cell (p := ⟨b1, _, none⟩) hb1).trans c3, (hW.cell (p := ⟨b1, _, none⟩) hb1).trans c4⟩
            have HCX : Hid (∀ W, Below w.heap.size w W → W.cell? ⟨b1, o1 + i * 2, none⟩ = some (.int .u64 x.a) ∧ W.cell? ⟨b1, o1 + i * 2 + 1, none⟩ = some (.int .u64 x.b)) := Lib.hid fun W hW => ⟨(hW.cell (p := ⟨b1, _, none⟩) hb1).trans c1, (hW.cell (p := ⟨b1, _, none⟩) hb1).trans c2⟩
            have HQ := Lib.hid hq
            clear c1 c2 c3 c4 hx hy hX hY hq
            obtain ⟨xa, xb⟩ := x
            obtain ⟨ya, yb⟩ := y
            dsimp only at HCX HCY
            by_cases hb0 : z1.length = 0
            · have hxn : ¬ (i : Int) < (z1.length : Int) := by omega
              have hyn : ¬ (q : Int) < (z1.length : Int) := by omega
              have HX := Lib.hid (hX'.2 (by rw [List.getElem?_eq_none (by omega)]; simp))
              have HY := Lib.hid (hY'.2 (by rw [List.getElem?_eq_none (by omega)]; simp))
              have H4 := HD
              clear hb0
              go_wp2
              go_roundw
              case rel => exact ⟨i + 1, _, _, by omega, by go_num, HX.out, by rw [show z0.length - (i + 1) = q by have := HQ.out; omega]; exact HY.out, H4.out⟩
              case measure => simp [intOf]; omega
            · obtain ⟨v0, hv0⟩ : ∃ v, z1[0]? = some v := ⟨_, List.getElem?_eq_getElem (by omega)⟩
              obtain ⟨b2, o2, rfl, hb2, _⟩ := HRB.out 0 v0 hv0
              have HBC : Hid (∀ j v, z1[j]? = some v → ∀ W, Below w.heap.size w W → W.cell? ⟨b2, o2 + j, none⟩ = some (.bool v)) := Lib.hid (fun j v hj W hW => by
                obtain ⟨b4, o4, e4, hb4, c5⟩ := HRB.out j v hj
                cases e4
                exact (hW.cell (p := ⟨b2, _, none⟩) hb4).trans c5)
              clear hv0 hb0
              cases hxb : z1[i]? with
              | none =>
                have hxn : ¬ (i : Int) < (z1.length : Int) := by have := List.getElem?_eq_none_iff.1 hxb; omega
                have HX := Lib.hid (hX'.2 (by rw [hxb]; simp))
                have H3 := HD
                clear hxb
                cases hyb : z1[q]? with
                | none =>
                  have hyn : ¬ (q : Int) < (z1.length : Int) := by have := List.getElem?_eq_none_iff.1 hyb; omega
                  have HY := Lib.hid (hY'.2 (by rw [hyb]; simp))
                  have H4 := H3
                  clear hyb
                  go_wp2
                  go_roundw
                  case rel => exact ⟨i + 1, _, _, by omega, by go_num, HX.out, by rw [show z0.length - (i + 1) = q by have := HQ.out; omega]; exact HY.out, H4.out⟩
                  case measure => simp [intOf]; omega
                | some v =>
                  have hyn : (q : Int) < (z1.length : Int) := by have := (List.getElem?_eq_some_iff.1 hyb).1; omega
                  have g3 := HBC.out q v hyb _ H3.out.bel
                  cases v with
                  | false =>
                    have HY := Lib.hid (hY'.2 (by rw [hyb]; simp))
                    have H4 := H3
                    clear hyb
                    go_wp2
                    go_roundw
                    case rel => exact ⟨i + 1, _, _, by omega, by go_num, HX.out, by rw [show z0.length - (i + 1) = q by have := HQ.out; omega]; exact HY.out, H4.out⟩
                    case measure => simp [intOf]; omega
                  | true =>
                    have HY := Lib.hid (hY'.1 hyb)
                    obtain ⟨g4, g5⟩ := HCY.out _ H3.out.bel
                    clear hyb
                    go_wp2_with fail
                    refine (H3.out.swap.del ⟨ya, yb⟩).mono ?_
                    rintro e w4 ⟨⟨v4, rfl⟩, h4⟩
                    have H4 := Lib.hid h4.swap; clear h4
                    go_wp2
                    go_roundw
                    case rel => exact ⟨i + 1, _, _, by omega, by go_num, HX.out, by rw [show z0.length - (i + 1) = q by have := HQ.out; omega]; exact HY.out, H4.out⟩
                    case measure => simp [intOf]; omega
              | some v =>
                have hxn : (i : Int) < (z1.length : Int) := by have := (List.getElem?_eq_some_iff.1 hxb).1; omega
                have g0 := HBC.out i v hxb _ HD.out.bel
                cases v with
                | false =>
                  have HX := Lib.hid (hX'.2 (by rw [hxb]; simp))
                  have H3 := HD
                  clear hxb
                  cases hyb : z1[q]? with
                  | none =>
                    have hyn : ¬ (q : Int) < (z1.length : Int) := by have := List.getElem?_eq_none_iff.1 hyb; omega
                    have HY := Lib.hid (hY'.2 (by rw [hyb]; simp))
                    have H4 := H3
                    clear hyb
                    go_wp2
                    go_roundw
                    case rel => exact ⟨i + 1, _, _, by omega, by go_num, HX.out, by rw [show z0.length - (i + 1) = q by have := HQ.out; omega]; exact HY.out, H4.out⟩
                    case measure => simp [intOf]; omega
                  | some v =>
                    have hyn : (q : Int) < (z1.length : Int) := by have := (List.getElem?_eq_some_iff.1 hyb).1; omega
                    have g3 := HBC.out q v hyb _ H3.out.bel
                    cases v with
                    | false =>
                      have HY := Lib.hid (hY'.2 (by rw [hyb]; simp))
                      have H4 := H3
                      clear hyb
                      go_wp2
                      go_roundw
                      case rel => exact ⟨i + 1, _, _, by omega, by go_num, HX.out, by rw [show z0.length - (i + 1) = q by have := HQ.out; omega]; exact HY.out, H4.out⟩
                      case measure => simp [intOf]; omega
                    | true =>
                      have HY := Lib.hid (hY'.1 hyb)
                      obtain ⟨g4, g5⟩ := HCY.out _ H3.out.bel
                      clear hyb
                      go_wp2_with fail
                      refine (H3.out.swap.del ⟨ya, yb⟩).mono ?_
                      rintro e w4 ⟨⟨v4, rfl⟩, h4⟩
                      have H4 := Lib.hid h4.swap; clear h4
                      go_wp2
                      go_roundw
                      case rel => exact ⟨i + 1, _, _, by omega, by go_num, HX.out, by rw [show z0.length - (i + 1) = q by have := HQ.out; omega]; exact HY.out, H4.out⟩
                      case measure => simp [intOf]; omega
                | true =>
                  have HX := Lib.hid (hX'.1 hxb)
                  obtain ⟨g1, g2⟩ := HCX.out _ HD.out.bel
                  clear hxb
                  go_wp2_with fail
                  refine (HD.out.del ⟨xa, xb⟩).mono ?_
                  rintro e w3 ⟨⟨v3, rfl⟩, h3⟩
                  have H3 := Lib.hid h3; clear h3 HD g1 g2 g0
                  cases hyb : z1[q]? with
                  | none =>
                    have hyn : ¬ (q : Int) < (z1.length : Int) := by have := List.getElem?_eq_none_iff.1 hyb; omega
                    have HY := Lib.hid (hY'.2 (by rw [hyb]; simp))
                    have H4 := H3
                    clear hyb
                    go_wp2
                    go_roundw
                    case rel => exact ⟨i + 1, _, _, by omega, by go_num, HX.out, by rw [show z0.length - (i + 1) = q by have := HQ.out; omega]; exact HY.out, H4.out⟩
                    case measure => simp [intOf]; omega
                  | some v =>
                    have hyn : (q : Int) < (z1.length : Int) := by have := (List.getElem?_eq_some_iff.1 hyb).1; omega
                    have g3 := HBC.out q v hyb _ H3.out.bel
                    cases v with
                    | false =>
                      have HY := Lib.hid (hY'.2 (by rw [hyb]; simp))
                      have H4 := H3
                      clear hyb
                      go_wp2
                      go_roundw
                      case rel => exact ⟨i + 1, _, _, by omega, by go_num, HX.out, by rw [show z0.length - (i + 1) = q by have := HQ.out; omega]; exact HY.out, H4.out⟩
                      case measure => simp [intOf]; omega
                    | true =>
                      have HY := Lib.hid (hY'.1 hyb)
                      obtain ⟨g4, g5⟩ := HCY.out _ H3.out.bel
                      clear hyb
                      go_wp2_with fail
                      refine (H3.out.swap.del ⟨ya, yb⟩).mono ?_
                      rintro e w4 ⟨⟨v4, rfl⟩, h4⟩
                      have H4 := Lib.hid h4.swap; clear h4
                      go_wp2
                      go_roundw
                      case rel => exact ⟨i + 1, _, _, by omega, by go_num, HX.out, by rw [show z0.length - (i + 1) = q by have := HQ.out; omega]; exact HY.out, H4.out⟩
                      case measure => simp [intOf]; omega
          · obtain rfl : z0.length = i := by omega
            rw [Nat.sub_self] at hY
            obtain rfl : kx = ky := sorted_ext HD.out.sorted.1 HD.out.sorted.2 (fun x => by rw [hX x, hY x])
            have HM := Lib.hid hX; clear hX hY hi hlt
            go_wp2
            go_loopw [10] (fun a10 wr => ∃ i : Nat, i ≤ z0.length ∧ a10 = .int .i64 i ∧ Duo w wr gx 200 kx gy kx) (fun a10 _ => z0.length - (intOf a10).toNat)
            case atStart => exact ⟨0, Nat.zero_le _, rfl, HD.out⟩
            case round =>
              obtain ⟨i, hi, rfl, hduo⟩ := hrel
              have HD3 := Lib.hid hduo; clear hduo HD
              by_cases hlt : i < z0.length
              · have hi1 : (i : Int) < (z0.length : Int) := by omega
                obtain ⟨x, hx⟩ : ∃ x, z0[i]? = some x := ⟨_, List.getElem?_eq_getElem hlt⟩
                obtain ⟨b1, o1, rfl, hb1, _, _⟩ := HR.out i x hx
                have HC : Hid (∀ j y, z0[j]? = some y → ∀ W, Below w.heap.size w W → W.cell? ⟨b1, o1 + j * 2, none⟩ = some (.int .u64 y.a) ∧ W.cell? ⟨b1, o1 + j * 2 + 1, none⟩ = some (.int .u64 y.b)) := Lib.hid (fun j y hj W hW => by
                  obtain ⟨b4, o4, e4, hb4, c5, c6⟩ := HR.out j y hj
                  cases e4
                  exact ⟨(hW.cell (p := ⟨b1, _, none⟩) hb4).trans c5, (hW.cell (p := ⟨b1, _, none⟩) hb4).trans c6⟩)
                have HXM : Hid (x ∈ kx ↔ ¬ Hit z0 z1 0 z0.length x) := Lib.hid (by rw [HM.out x]; exact ⟨fun h => h.2, fun h => ⟨List.mem_of_getElem? hx, h⟩⟩)
                have HXX := Lib.hid hx; clear hx
                obtain ⟨xa, xb⟩ := x
                go_wp2
                go_loopw [11, 12] (fun a11 a12 wr2 => ∃ (k : Nat) (bb : Bool), k ≤ z0.length ∧ a12 = .int .i64 k ∧ a11 = .bool bb ∧ (bb = true ↔ ¬ Hit z0 z1 0 k ⟨xa, xb⟩) ∧ Duo w wr2 gx 200 kx gy kx) (fun _ a12 _ => z0.length - (intOf a12).toNat)
                case atStart => exact ⟨0, true, Nat.zero_le _, rfl, rfl, ⟨fun _ => Hit.none (Nat.le_refl _), fun _ => rfl⟩, HD3.out⟩
                case round =>
                  obtain ⟨k, bb, hk, rfl, rfl, hbb, hduo⟩ := hrel
                  have HD4 := Lib.hid hduo; clear hduo HD3
                  by_cases hin : k < z0.length ∧ k < z1.length
                  · obtain ⟨hk1, hk2⟩ := hin
                    have hk1' : (k : Int) < (z0.length : Int) := by omega
                    have hk2' : (k : Int) < (z1.length : Int) := by omega
                    obtain ⟨y, hy⟩ : ∃ y, z0[k]? = some y := ⟨_, List.getElem?_eq_getElem hk1⟩
                    obtain ⟨v, hv⟩ : ∃ v, z1[k]? = some v := ⟨_, List.getElem?_eq_getElem hk2⟩
                    obtain ⟨b2, o2, rfl, hb2, c2⟩ := HRB.out k v hv
                    have g0 := (HD4.out.bel.cell (p := ⟨b2, o2 + k, none⟩) hb2).trans c2
                    obtain ⟨g1, g2⟩ := HC.out k y hy _ HD4.out.bel
                    obtain ⟨g3, g4⟩ := HC.out i ⟨xa, xb⟩ HXX.out _ HD4.out.bel
                    have hhit := Hit.hi (zs := z0) (bs := z1) (lo := 0) (hi := k) (x := ⟨xa, xb⟩) (Nat.zero_le _)
                    rw [hy, hv] at hhit
                    have hkb := key_beq y ⟨xa, xb⟩
                    obtain ⟨ya, yb⟩ := y
                    dsimp only at g1 g2 g3 g4 hkb
                    clear c2 hy hv
                    by_cases hyx : (⟨ya, yb⟩ : Key) = ⟨xa, xb⟩
                    · rw [decide_eq_true hyx] at hkb
                      cases bb with
                      | false =>
                        have HN : Hid (false = true ↔ ¬ Hit z0 z1 0 (k + 1) ⟨xa, xb⟩) := Lib.hid (by rw [hhit]; exact ⟨fun h => (by cases h), fun h => hbb.2 (fun h' => h (.inl h'))⟩)
                        clear hbb hhit hyx
                        go_wp2
                        go_quiet (fail)
                        go_wp2
                        go_roundw
                        case rel => exact ⟨k + 1, _, by omega, by go_num, rfl, (by simpa using HN.out), HD4.out.kept ((Keep.refl _ _).drewN _)⟩
                        case measure => simp [intOf]; omega
                      | true =>
                        cases v with
                        | false =>
                          have HN : Hid (true = true ↔ ¬ Hit z0 z1 0 (k + 1) ⟨xa, xb⟩) := Lib.hid (by rw [hhit]; exact ⟨fun _ h => h.elim (hbb.1 rfl) (fun h => by simp at h), fun _ => rfl⟩)
                          clear hbb hhit hyx
                          go_wp2
                          go_quiet (fail)
                          go_wp2
                          go_roundw
                          case rel => exact ⟨k + 1, _, by omega, by go_num, rfl, (by simpa using HN.out), HD4.out.kept ((Keep.refl _ _).drewN _)⟩
                          case measure => simp [intOf]; omega
                        | true =>
                          have HN : Hid (false = true ↔ ¬ Hit z0 z1 0 (k + 1) ⟨xa, xb⟩) := Lib.hid (by rw [hhit]; exact ⟨fun h => (by cases h), fun h => absurd (.inr ⟨rfl, by rw [hyx]⟩) h⟩)
                          clear hbb hhit hyx
                          go_wp2
                          go_quiet (fail)
                          go_wp2
                          go_roundw
                          case rel => exact ⟨k + 1, _, by omega, by go_num, rfl, (by simpa using HN.out), HD4.out.kept ((Keep.refl _ _).drewN _)⟩
                          case measure => simp [intOf]; omega
                    · rw [decide_eq_false hyx] at hkb
                      have HN : Hid (bb = true ↔ ¬ Hit z0 z1 0 (k + 1) ⟨xa, xb⟩) := Lib.hid (by rw [hhit, hbb]; exact ⟨fun h h' => h'.elim h (fun h' => hyx (by have := h'.2; simp at this; rw [this.1, this.2])), fun h h' => h (.inl h')⟩)
                      clear hbb hhit hyx
                      cases bb <;> cases v
                      · skip
                        go_wp2
                        go_quiet (fail)
                        go_wp2
                        go_roundw
                        case rel => exact ⟨k + 1, _, by omega, by go_num, rfl, (by simpa using HN.out), HD4.out.kept ((Keep.refl _ _).drewN _)⟩
                        case measure => simp [intOf]; omega
                      · skip
                        go_wp2
                        go_quiet (fail)
                        go_wp2
                        go_roundw
                        case rel => exact ⟨k + 1, _, by omega, by go_num, rfl, (by simpa using HN.out), HD4.out.kept ((Keep.refl _ _).drewN _)⟩
                        case measure => simp [intOf]; omega
                      · skip
                        go_wp2
                        go_quiet (fail)
                        go_wp2
                        go_roundw
                        case rel => exact ⟨k + 1, _, by omega, by go_num, rfl, (by simpa using HN.out), HD4.out.kept ((Keep.refl _ _).drewN _)⟩
                        case measure => simp [intOf]; omega
                      · skip
                        go_wp2
                        go_quiet (fail)
                        go_wp2
                        go_roundw
                        case rel => exact ⟨k + 1, _, by omega, by go_num, rfl, (by simpa using HN.out), HD4.out.kept ((Keep.refl _ _).drewN _)⟩
                        case measure => simp [intOf]; omega
                  · have HE : Hid (decide ((⟨xa, xb⟩ : Key) ∈ kx) = bb) := Lib.hid (by
                      have hpast : Hit z0 z1 0 z0.length ⟨xa, xb⟩ ↔ Hit z0 z1 0 k ⟨xa, xb⟩ := by
                        by_cases e : k = z0.length
                        · rw [e]
                        · exact Hit.past hk (by omega)
                      rw [decide_eq_iff_eq_true_iff']
                      rw [HXM.out, hpast, ← hbb])
                    obtain ⟨g3, g4⟩ := HC.out i ⟨xa, xb⟩ HXX.out _ HD4.out.bel
                    dsimp only at g3 g4
                    clear hbb
                    by_cases hk1 : k < z0.length
                    · have hk1' : (k : Int) < (z0.length : Int) := by omega
                      have hk2' : ¬ (k : Int) < (z1.length : Int) := by omega
                      cases bb
                      · skip
                        go_wp2_with fail
                        refine (HD4.out.has HE.out).mono ?_
                        rintro e w5 ⟨rfl, h5⟩
                        have H5 := Lib.hid h5; clear h5 HD4 g3 g4
                        obtain ⟨g3, g4⟩ := HC.out i ⟨xa, xb⟩ HXX.out _ H5.out.bel
                        dsimp only at g3 g4
                        go_wp2_with fail
                        refine (H5.out.swap.has HE.out).mono ?_
                        rintro e w6 ⟨rfl, h6⟩
                        have H6 := Lib.hid h6.swap; clear h6 H5
                        go_wp2
                        go_roundw
                        case rel => exact ⟨i + 1, by omega, by go_num, H6.out⟩
                        case measure => simp [intOf]; omega
                      · skip
                        go_wp2_with fail
                        refine (HD4.out.has HE.out).mono ?_
                        rintro e w5 ⟨rfl, h5⟩
                        have H5 := Lib.hid h5; clear h5 HD4 g3 g4
                        obtain ⟨g3, g4⟩ := HC.out i ⟨xa, xb⟩ HXX.out _ H5.out.bel
                        dsimp only at g3 g4
                        go_wp2_with fail
                        refine (H5.out.swap.has HE.out).mono ?_
                        rintro e w6 ⟨rfl, h6⟩
                        have H6 := Lib.hid h6.swap; clear h6 H5
                        go_wp2
                        go_roundw
                        case rel => exact ⟨i + 1, by omega, by go_num, H6.out⟩
                        case measure => simp [intOf]; omega
                    · have hk1' : ¬ (k : Int) < (z0.length : Int) := by omega
                      cases bb
                      · skip
                        go_wp2_with fail
                        refine (HD4.out.has HE.out).mono ?_
                        rintro e w5 ⟨rfl, h5⟩
                        have H5 := Lib.hid h5; clear h5 HD4 g3 g4
                        obtain ⟨g3, g4⟩ := HC.out i ⟨xa, xb⟩ HXX.out _ H5.out.bel
                        dsimp only at g3 g4
                        go_wp2_with fail
                        refine (H5.out.swap.has HE.out).mono ?_
                        rintro e w6 ⟨rfl, h6⟩
                        have H6 := Lib.hid h6.swap; clear h6 H5
                        go_wp2
                        go_roundw
                        case rel => exact ⟨i + 1, by omega, by go_num, H6.out⟩
                        case measure => simp [intOf]; omega
                      · skip
                        go_wp2_with fail
                        refine (HD4.out.has HE.out).mono ?_
                        rintro e w5 ⟨rfl, h5⟩
                        have H5 := Lib.hid h5; clear h5 HD4 g3 g4
                        obtain ⟨g3, g4⟩ := HC.out i ⟨xa, xb⟩ HXX.out _ H5.out.bel
                        dsimp only at g3 g4
                        go_wp2_with fail
                        refine (H5.out.swap.has HE.out).mono ?_
                        rintro e w6 ⟨rfl, h6⟩
                        have H6 := Lib.hid h6.swap; clear h6 H5
                        go_wp2
                        go_roundw
                        case rel => exact ⟨i + 1, by omega, by go_num, H6.out⟩
                        case measure => simp [intOf]; omega
              · obtain rfl : z0.length = i := by omega
                have hkl : kx.length ≤ 200 := by obtain ⟨Sx, Sy, h1, _⟩ := HD3.out.duo; exact h1.tree.few.1
                have HT : Hid (kx.take (max 1 (300 : Int).toNat) = kx) := Lib.hid (List.take_of_length_le (by simp; omega))
                clear hi hlt HM
                go_wp2_with fail
                refine (HD3.out.len rfl).mono ?_
                rintro e w5 ⟨rfl, h5⟩
                have H5 := Lib.hid h5; clear h5 HD3
                go_wp2_with fail
                refine (H5.out.swap.len rfl).mono ?_
                rintro e w6 ⟨rfl, h6⟩
                have H6 := Lib.hid h6.swap; clear h6 H5
                go_wp2_with fail
                refine H6.out.tall.mono ?_
                rintro e w7 ⟨B7, rfl, h7, b7, _⟩
                have H7 := Lib.hid h7; have HB7 := Lib.hid b7; clear h7 b7 H6
                go_wp2_with fail
                refine (H7.out.hall HB7.out ⟨HT.out, rfl⟩).mono ?_
                rintro e w8 ⟨a8, c8, rfl, r8, h8, _⟩
                have H8 := Lib.hid h8; have R8 := Lib.hid r8; clear h8 r8 H7 HB7
                go_wp2_with fail
                refine H8.out.swap.tall.mono ?_
                rintro e w9 ⟨B9, rfl, h9, b9, k9⟩
                have H9 := Lib.hid h9; have HB9 := Lib.hid b9; have R9 := Lib.hid (R8.out.kept k9); clear h9 b9 k9 H8 R8
                go_wp2_with fail
                refine (H9.out.hall HB9.out ⟨HT.out, rfl⟩).mono ?_
                rintro e w10 ⟨a10, c10, rfl, r10, h10, k10⟩
                have H10 := Lib.hid h10.swap; have R10 := Lib.hid r10; have R10' := Lib.hid (R9.out.kept k10); clear h10 r10 k10 H9 HB9 R9
                go_wp2_with fail
                refine (plain_key a8 a10 _ _ c8 c10 kx w10 rfl rfl (by omega) R10'.out R10.out).mono ?_
                rintro e w11 ⟨rfl, k11⟩
                have H11 := Lib.hid (H10.out.kept k11); clear k11 H10 R10 R10'
                go_wp2_with fail
                refine H11.out.low.mono ?_
                rintro e w12 ⟨rfl, h12⟩
                have H12 := Lib.hid h12; clear h12 H11
                go_wp2_with fail
                refine H12.out.swap.low.mono ?_
                rintro e w13 ⟨rfl, h13⟩
                have H13 := Lib.hid h13.bel; clear h13 H12
                go_wp2
                go_ret
                exact ⟨by first | rfl | simp, H13.out⟩

set_option maxRecDepth 100000 in
theorem lifted (os : Os) (started : os.Started) (H : Type) (enc : TypeId × Value → H) :
    ReturnsInHanded {} Try.checked os 4 .any (Rows.treeTurnedSpec.pre6 enc Try.prog Try.f4 Rows.treeTurnedRow.domain false) (Rows.treeTurnedSpec.post enc Try.prog Try.f4 false true false false) := by
  refine returnsInHanded_of_change (C := Try.checked) own started (by kernel_rfl) Try.func4
    (ChangeSpec.witness6 (enc := enc) (C := Try.checked) false ⟨#[], #[.slice none 0 0, .slice none 0 0], []⟩ 8 (by kernel_rfl) (by kernel_rfl) (by kernel_rfl) (by kernel_rfl)) ?_
  intro W base args ds gs before hval0 hW hcnd _
  have hval : ∀ (j : Nat) t v, Try.f4.params[j]? = some t → args[j]? = some v → Value.okWide Try.prog W .any base t v := hval0
  have hW' := hW
  obtain ⟨p, q, hA0, hV, rfl, hfz, hnd⟩ := hW
  have hA : DataW.TrodAll enc Try.prog W 0 (fun _ => true) true Try.f4.params.toList args.toList ds p := hA0
  rw [Try.params4] at hA hval
  obtain ⟨v0, vs0, d0, ds0, p0, q0, hargs, rfl, rfl, h0, r0'⟩ := trodAll_cons hA
  obtain ⟨v1, vs1, d1, ds1, p1, q1, rfl, rfl, rfl, h1, r1'⟩ := trodAll_cons r0'
  obtain ⟨rfl, rfl, rfl⟩ := trodAll_nil r1'
  obtain rfl : args = #[v0, v1] := by cases args; simp_all
  obtain ⟨rfl, rfl⟩ := trodVars_none hV
  obtain ⟨a0, len0, cap0, rfl⟩ := okWide_slice Try.underlying22 (hval 0 22 v0 rfl rfl)
  have k0 := h0
  have lt0 : ∀ x ∈ p0, x.block < W.heap.size := by obtain ⟨m, hm⟩ := k0; exact DataW.trod_lt m _ _ _ hm
  obtain ⟨z0, hz0, hc0, hd0, _, r0⟩ := open_keys h0
  subst hz0
  obtain ⟨a1, len1, cap1, rfl⟩ := okWide_slice Try.underlying43 (hval 1 43 v1 rfl rfl)
  have k1 := h1
  have lt1 : ∀ x ∈ p1, x.block < W.heap.size := by obtain ⟨m, hm⟩ := k1; exact DataW.trod_lt m _ _ _ hm
  obtain ⟨z1, hz1, hc1, r1⟩ := open_bools h1
  subst hz1
  clear hA0 hval0
  refine (walk a0 cap0 z0 a1 cap1 z1 W ⟨hc0, hd0⟩ r0 hc1 r1).mono fun e W' ⟨he, bel⟩ => ?_
  subst he
  exact ⟨_, rfl, _, _, _, [], _, [], hW', trodAll_mk1 (shut_bool Try.underlying4 _), (trodAll_cons_mk (Below.trod laidOut (by kernel_rfl) (of_decide_eq_true (by kernel_rfl)) k0 bel lt0) (trodAll_cons_mk (Below.trod laidOut (by kernel_rfl) (of_decide_eq_true (by kernel_rfl)) k1 bel lt1) trodAll_mk0)), rfl, bel.frame _, fun h => by cases h⟩

theorem over : Rows.treeTurnedRow.holds Try.pinned (OpenSpec.ofChange Rows.treeTurnedSpec) :=
  OpenClaim.holds_of_wide 4 Try.f4 rfl rfl rfl rfl rfl rfl rfl ⟨rfl, rfl, rfl, rfl, rfl⟩ rfl rfl rfl rfl rfl (by kernel_rfl) Try.func4 (by kernel_rfl)
    (of_decide_eq_true (by kernel_rfl)) (by unfold Func.isWrapper; first | (rw [if_pos (by decide +kernel)]; kernel_rfl) | (rw [if_neg (by decide +kernel)]; exact ⟨rfl, rfl⟩))
    (fun os started H enc _ => lifted os started H enc)

theorem proved : Rows.TreeTurnedSaid := over
end Go.Proofs.Ytfbbmpmgceghfaa.treeTurned
namespace Go.Proofs.Ytfbbmpmgceghfaa
theorem treeTurned_holds : Rows.TreeTurnedSaid := treeTurned.proved
#print axioms treeTurned_holds
end Go.Proofs.Ytfbbmpmgceghfaa
