/-
  The call of package tso (Size) answers what the document says, at all numbers of their kinds; the document's own (canterref01.Size) likewise; no block is turned. Conditions: none beyond that the arguments are numbers of their kind.
-/
import Derived.Test.YtbeicnabafapnaaTsoMath
import Derived.Test.YtbeicnabafapnaaNum
import Derived.Test.YtbeicnabafapnaaChecked
import Derived.WalkSpells
import Derived.LoopTactic
import Derived.LoopN
import Derived.Deep.LoopGhost
import Derived.Deep.DeepCutAuto
import Derived.Deep.CutBlock
import Derived.Lib.Hide
set_option linter.unusedVariables false
namespace Go.Proofs.Ytbeicnabafapnaa
open Go.RowKit

set_option maxHeartbeats 400000 in
theorem size_any (r m : Int) (r0 : 0 ≤ r) (r1 : r ≤ 18446744073709551615) (w : World) :
    Calls Try.prog 8 #[.int .u64 r, .int .i64 m] w fun e w' => e = .returned (.int .i64 (sizeT r m)) ∧ w = w' := by
  have HE : Hid (segsT r (heldT m) * heldT m = sizeT r m) := Lib.hid rfl
  have hh : heldT m = if m < 100 then 100 else if 9000 < m then 9000 else m := rfl
  have HS := Lib.hid (WkT.start r (heldT m))
  generalize sizeT r m = V at *
  have q0 : 0 ≤ r / 1024 := by omega
  have q1 : r / 1024 ≤ 18446744073709551615 := by omega
  by_cases g1 : m ≤ 100
  · have hm : heldT m = 100 := by rw [hh]; split <;> omega
    rw [hm] at HE HS
    clear hh hm
    have g2 : ¬ 9000 < m := by omega
    have g3 : ¬ 100 < m := by omega
    go_enter Try.func8, Try.ntmps8
    go_wp2
    go_step3
    go_wp2
    go_step3
    go_wp2
    generalize hq : r / 1024 = q at *
    have HQ := Lib.hid hq; clear hq
    go_loopg [6, 7] 655 (fun j a6 a7 wr => ∃ s : Int, a6 = .int .i64 s ∧ a7 = .int .i64 (s + 100) ∧ WkT r 100 j s ∧ wr = w)
    case atStart => exact ⟨200, rfl, rfl, HS.out, rfl⟩
    case round =>
      obtain ⟨s, rfl, rfl, hk, rfl⟩ := hrel
      have s0 := hk.low (by omega)
      have s1 := hk.high (by omega) (by omega)
      have HK := Lib.hid hk
      clear hk HS
      have hw : IntKind.u64.wrap (s + 100) = s + 100 := by rw [IntKind.wrap_u64]; omega
      by_cases e1 : 65536 < s + 100
      · have HV : Hid (V = s) := Lib.hid (HE.out.symm.trans (HK.out.full (by omega) (by omega) e1))
        go_wp2
        try rw [Exit.noGoto_ret]
        go_ret
        exact ⟨ret_i (by first | exact HV.out.symm | exact hv.trans HV.out.symm), rfl⟩
      · by_cases e2 : q < s + 100
        · have HV : Hid (V = s) := Lib.hid (HE.out.symm.trans (HK.out.over (by omega) (by rw [HQ.out]; exact e2)))
          have e3 : s + 100 ≤ 65536 := by omega
          clear e1
          go_wp2
          try rw [Exit.noGoto_ret]
          go_ret
          exact ⟨ret_i (by first | exact HV.out.symm | exact hv.trans HV.out.symm), rfl⟩
        · have e3 : s + 100 ≤ 65536 := by omega
          have e4 : s + 100 ≤ q := by omega
          have HN := Lib.hid (HK.out.next (by omega) e3 (by rw [HQ.out]; exact e4))
          have e5 : s + 100 + 100 ≤ 74536 := by omega
          clear e1 e2 HK
          go_wp2
          go_roundg (gk - 1)
          case measure => have := HN.out.1; omega
          case rel => exact ⟨_, rfl, rfl, HN.out.2, rfl⟩

  · by_cases g2 : 9000 < m
    · have hm : heldT m = 9000 := by rw [hh, if_neg (by omega), if_pos g2]
      rw [hm] at HE HS
      clear hh hm
      go_enter Try.func8, Try.ntmps8
      go_wp2
      go_step3
      go_wp2
      go_step3
      go_wp2
      generalize hq : r / 1024 = q at *
      have HQ := Lib.hid hq; clear hq
      go_loopg [6, 7] 655 (fun j a6 a7 wr => ∃ s : Int, a6 = .int .i64 s ∧ a7 = .int .i64 (s + 9000) ∧ WkT r 9000 j s ∧ wr = w)
      case atStart => exact ⟨18000, rfl, rfl, HS.out, rfl⟩
      case round =>
        obtain ⟨s, rfl, rfl, hk, rfl⟩ := hrel
        have s0 := hk.low (by omega)
        have s1 := hk.high (by omega) (by omega)
        have HK := Lib.hid hk
        clear hk HS
        have hw : IntKind.u64.wrap (s + 9000) = s + 9000 := by rw [IntKind.wrap_u64]; omega
        by_cases e1 : 65536 < s + 9000
        · have HV : Hid (V = s) := Lib.hid (HE.out.symm.trans (HK.out.full (by omega) (by omega) e1))
          go_wp2
          try rw [Exit.noGoto_ret]
          go_ret
          exact ⟨ret_i (by first | exact HV.out.symm | exact hv.trans HV.out.symm), rfl⟩
        · by_cases e2 : q < s + 9000
          · have HV : Hid (V = s) := Lib.hid (HE.out.symm.trans (HK.out.over (by omega) (by rw [HQ.out]; exact e2)))
            have e3 : s + 9000 ≤ 65536 := by omega
            clear e1
            go_wp2
            try rw [Exit.noGoto_ret]
            go_ret
            exact ⟨ret_i (by first | exact HV.out.symm | exact hv.trans HV.out.symm), rfl⟩
          · have e3 : s + 9000 ≤ 65536 := by omega
            have e4 : s + 9000 ≤ q := by omega
            have HN := Lib.hid (HK.out.next (by omega) e3 (by rw [HQ.out]; exact e4))
            have e5 : s + 9000 + 9000 ≤ 74536 := by omega
            clear e1 e2 HK
            go_wp2
            go_roundg (gk - 1)
            case measure => have := HN.out.1; omega
            case rel => exact ⟨_, rfl, rfl, HN.out.2, rfl⟩

    · have hm : heldT m = m := by rw [hh, if_neg (by omega), if_neg g2]
      rw [hm] at HE HS
      clear hh hm
      have g3 : 100 < m := by omega
      have g4 : m ≤ 9000 := by omega
      go_enter Try.func8, Try.ntmps8
      go_wp2
      go_step3
      go_wp2
      go_step3
      go_wp2
      generalize hq : r / 1024 = q at *
      have HQ := Lib.hid hq; clear hq
      go_loopg [6, 7] 655 (fun j a6 a7 wr => ∃ s : Int, a6 = .int .i64 s ∧ a7 = .int .i64 (s + m) ∧ WkT r m j s ∧ wr = w)
      case atStart => exact ⟨2 * m, rfl, rfl, HS.out, rfl⟩
      case round =>
        obtain ⟨s, rfl, rfl, hk, rfl⟩ := hrel
        have s0 := hk.low (by omega)
        have s1 := hk.high (by omega) (by omega)
        have HK := Lib.hid hk
        clear hk HS
        have hw : IntKind.u64.wrap (s + m) = s + m := by rw [IntKind.wrap_u64]; omega
        by_cases e1 : 65536 < s + m
        · have HV : Hid (V = s) := Lib.hid (HE.out.symm.trans (HK.out.full (by omega) (by omega) e1))
          go_wp2
          try rw [Exit.noGoto_ret]
          go_ret
          exact ⟨ret_i (by first | exact HV.out.symm | exact hv.trans HV.out.symm), rfl⟩
        · by_cases e2 : q < s + m
          · have HV : Hid (V = s) := Lib.hid (HE.out.symm.trans (HK.out.over (by omega) (by rw [HQ.out]; exact e2)))
            have e3 : s + m ≤ 65536 := by omega
            clear e1
            go_wp2
            try rw [Exit.noGoto_ret]
            go_ret
            exact ⟨ret_i (by first | exact HV.out.symm | exact hv.trans HV.out.symm), rfl⟩
          · have e3 : s + m ≤ 65536 := by omega
            have e4 : s + m ≤ q := by omega
            have HN := Lib.hid (HK.out.next (by omega) e3 (by rw [HQ.out]; exact e4))
            have e5 : s + m + m ≤ 74536 := by omega
            clear e1 e2 HK
            go_wp2
            go_roundg (gk - 1)
            case measure => have := HN.out.1; omega
            case rel => exact ⟨_, rfl, rfl, HN.out.2, rfl⟩

set_option maxHeartbeats 400000 in
theorem rsize_any (r m : Int) (r0 : 0 ≤ r) (r1 : r ≤ 18446744073709551615) (w : World) :
    Calls Try.prog 9 #[.int .u64 r, .int .i64 m] w fun e w' => e = .returned (.int .i64 (sizeT r m)) ∧ w = w' := by
  have hE : segsT r (heldT m) * heldT m = sizeT r m := rfl
  have hh : heldT m = if m < 100 then 100 else if 9000 < m then 9000 else m := rfl
  have hb := And.intro (held_low m) (held_high m)
  generalize sizeT r m = V at *
  generalize heldT m = h at *
  have HH := Lib.hid hh
  have h7 := most_low hb.1 hb.2
  have h8 := most_high hb.1
  unfold segsT mostT at hE
  unfold mostT at h7 h8
  have q0 : 0 ≤ r / 1024 := by omega
  have q1 : r / 1024 ≤ 18446744073709551615 := by omega
  have a0 : 0 ≤ r / 1024 / h := Int.ediv_nonneg q0 (by omega)
  have a1 : r / 1024 / h ≤ 18446744073709551615 := Int.le_trans (Int.ediv_le_self _ q0) q1
  have hz : (h == 0) = false := by rw [beq_eq_false_iff_ne]; omega
  have hz2 : h ≠ 0 := by omega
  have hx1 : (r / 1024).tdiv h = r / 1024 / h := Int.tdiv_eq_ediv_of_nonneg q0
  have hx2 : (65536 : Int).tdiv h = 65536 / h := Int.tdiv_eq_ediv_of_nonneg (by decide)
  have hw : IntKind.u64.wrap h = h := by rw [IntKind.wrap_u64]; omega
  generalize ha : r / 1024 / h = a at *
  generalize hb2 : 65536 / h = b at *
  have HE := Lib.hid hE
  have hmu : 7 * h ≤ 65536 ∧ b * h ≤ 65536 ∧ (min a b < 2 ∨ (min a b * h ≤ 65536 ∧ 200 ≤ min a b * h)) := by
    have h1 : b * h ≤ 65536 := by rw [← hb2]; exact Int.ediv_mul_le _ hz2
    refine ⟨by omega, h1, ?_⟩
    rcases Int.lt_or_le (min a b) 2 with g | g
    · exact .inl g
    · have := Int.mul_le_mul_of_nonneg_right (show min a b ≤ b by omega) (show 0 ≤ h by omega)
      have := Int.mul_le_mul g hb.1 (by omega) (by omega)
      exact .inr ⟨by omega, by omega⟩
  have HM := Lib.hid hmu
  have h0 := hb.1
  have h1 := hb.2
  clear hh hE ha hb2 hmu hb
  go_enter Try.func9, Try.ntmps9
  go_upto_region 1 with fail
  go_cut [1] (fun s wx => s = .int .i64 h ∧ wx = w)
  case first =>
    by_cases g1 : m ≤ 100
    · have HV : Hid (h = 100) := Lib.hid (by rw [HH.out]; split <;> omega)
      have g2 : ¬ 9000 < m := by omega
      have g3 : ¬ 100 < m := by omega
      clear h7 h8 a0 a1 hx1 hx2 h0 h1 hz hz2 hw q0 q1
      go_wp2
      go_meet
      case rel => exact ⟨by rw [HV.out], rfl⟩
    · by_cases g2 : 9000 < m
      · have HV : Hid (h = 9000) := Lib.hid (by rw [HH.out, if_neg (by omega), if_pos g2])
        clear h7 h8 a0 a1 hx1 hx2 h0 h1 hz hz2 hw q0 q1
        go_wp2
        go_meet
        case rel => exact ⟨by rw [HV.out], rfl⟩
      · have HV : Hid (h = m) := Lib.hid (by rw [HH.out, if_neg (by omega), if_neg g2])
        have g3 : 100 < m := by omega
        clear h7 h8 a0 a1 hx1 hx2 h0 h1 hz hz2 hw q0 q1
        go_wp2
        go_meet
        case rel => exact ⟨by rw [HV.out], rfl⟩
  case rest =>
    obtain ⟨rfl, rfl⟩ := hcut
    by_cases g1 : b < a
    · have HV : Hid (V = b * h) := Lib.hid (by rw [← HE.out, Int.min_eq_right (by omega), if_neg (by omega)])
      have hv : wrap64 (b * h) = b * h := by
        have := HM.out.2.1
        have := Int.mul_nonneg (show 0 ≤ b by omega) (show 0 ≤ h by omega)
        unfold wrap64; omega
      have g2 : 2 < b := by omega
      go_wp2
      go_ret
      exact ⟨ret_i (by first | exact HV.out.symm | exact hv.trans HV.out.symm), rfl⟩
    · by_cases g2 : 2 < a
      · have HV : Hid (V = a * h) := Lib.hid (by rw [← HE.out, Int.min_eq_left (by omega), if_neg (by omega)])
        have hv : wrap64 (a * h) = a * h := by
          obtain ⟨_, m1, m2⟩ := HM.out
          rw [Int.min_eq_left (by omega)] at m2
          rcases m2 with m2 | m2
          · omega
          · unfold wrap64; omega
        go_wp2
        go_ret
        exact ⟨ret_i (by first | exact HV.out.symm | exact hv.trans HV.out.symm), rfl⟩
      · have HV : Hid (V = 2 * h) := Lib.hid (by
          rw [← HE.out, Int.min_eq_left (by omega)]
          rcases Int.lt_or_le a 2 with g | g
          · rw [if_pos g]
          · rw [if_neg (by omega), show a = 2 by omega])
        have hv : wrap64 (2 * h) = 2 * h := by unfold wrap64; omega
        go_wp2
        go_ret
        exact ⟨ret_i (by first | exact HV.out.symm | exact hv.trans HV.out.symm), rfl⟩

/-! ### with the answer given -/
theorem size_is {r m v : Int} (e : sizeT r m = v) (r0 : 0 ≤ r) (r1 : r ≤ 18446744073709551615) (w : World) :
    Calls Try.prog 8 #[.int .u64 r, .int .i64 m] w fun e w' => e = .returned (.int .i64 v) ∧ w = w' := e ▸ size_any r m r0 r1 w
set_option maxHeartbeats 400000 in
theorem awaket_any (w : World) : Calls Try.prog 7 #[] w fun e w' => e = .returned (.bool true) ∧ w = w' := by
  go_enter Try.func7, Try.ntmps7
  go_wp2_with fail
  refine (size_is (v := 2000) (by decide) (by decide) (by decide) _).mono ?_
  rintro e w' ⟨rfl, rfl⟩
  go_wp2_with fail
  refine (size_is (v := 65000) (by decide) (by decide) (by decide) _).mono ?_
  rintro e w' ⟨rfl, rfl⟩
  go_wp2
  go_ret
  exact ⟨rfl, rfl⟩
end Go.Proofs.Ytbeicnabafapnaa
