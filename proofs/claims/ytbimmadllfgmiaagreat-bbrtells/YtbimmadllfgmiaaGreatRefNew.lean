/-
  The document's own model: NewModel. Conditions: mss is a number of 64 bits.
-/
import Derived.Test.YtbimmadllfgmiaaGreatRefMdl
import Derived.Test.YtbimmadllfgmiaaGreatRefTgt
import Derived.Test.YtbimmadllfgmiaaGreatBbrNew
set_option linter.unusedVariables false
set_option linter.unusedSimpArgs false
namespace Go.Proofs.YtbimmadllfgmiaaGreat
open Go.RowKit
set_option maxRecDepth 100000
set_option maxHeartbeats 4000000 in
theorem rmnew_any (m : Int) (w : World) (hm : Num m) : Calls Tryz.prog 5 #[.int .u64 m] w fun e w' => ∃ g k, e = .returned (.pointer (some ⟨g, 0, none⟩)) ∧ w.heap.size ≤ g ∧ w.heap.size ≤ k ∧ RM w' g k (newM (clampS m)) 739 ∧ Keep (fun _ => False) w w' := by
  obtain ⟨h, hh⟩ : ∃ h, clampS m = h := ⟨_, rfl⟩
  have hb : 100 ≤ h ∧ h ≤ 9000 := hh ▸ clampS_bd
  rw [hh]
  go_enter Tryz.func5, Tryz.ntmps5
  go_upto_region 1 with fail
  go_cut [0] (fun s0 wx => s0 = .int .u64 h ∧ wx = w)
  case first =>
    by_cases h1 : m < 100
    · have HH : Hid (h = 100) := Lib.hid (by rw [← hh]; simp [clampS, h1])
      have h2 : m < 9000 := by omega
      have hn : ¬ 100 < m := by omega
      clear hh hb hm
      go_wp2
      go_meet
      exact ⟨by rw [HH.out], rfl⟩
    · by_cases h2 : m = 100
      · have HH : Hid (h = 100) := Lib.hid (by rw [← hh, h2]; decide)
        subst h2
        clear hh hb hm h1
        go_wp2
        go_meet
        exact ⟨by rw [HH.out], rfl⟩
      · have h3 : 100 < m := by omega
        rcases Int.lt_trichotomy m 9000 with hl | hl | hl
        · have HH : Hid (h = m) := Lib.hid (by rw [← hh]; unfold clampS; rw [if_neg h1, if_neg (by omega)])
          have hn : ¬ 9000 < m := by omega
          clear hh hb hm h2
          go_wp2
          go_meet
          exact ⟨by rw [HH.out], rfl⟩
        · have HH : Hid (h = 9000) := Lib.hid (by rw [← hh, hl]; decide)
          subst hl
          clear hh hb hm h1 h2 h3
          go_wp2
          go_meet
          exact ⟨by rw [HH.out], rfl⟩
        · have HH : Hid (h = 9000) := Lib.hid (by rw [← hh]; unfold clampS; rw [if_neg h1, if_pos hl])
          have hn : ¬ m < 9000 := by omega
          clear hh hb hm h2
          go_wp2
          go_meet
          exact ⟨by rw [HH.out], rfl⟩
  case rest =>
    obtain ⟨rfl, rfl⟩ := hcut
    have hw1 : IntKind.u64.wrap (10 * h) = 10 * h := by rw [IntKind.wrap_u64]; omega
    have hw2 : IntKind.u64.wrap (10 * h * 1000) = 1000 * (10 * h) := by rw [IntKind.wrap_u64]; omega
    have hr : 0 ≤ 1000 * (10 * h) ∧ 1000 * (10 * h) ≤ 18446744073709551615 := ⟨by omega, by omega⟩
    have HR := Lib.hid hr
    clear hr hb hm hh
    go_wp2_with fail
    refine (rnew_false 10 ⟨by decide, by decide⟩ _).mono ?_
    rintro e w1 ⟨rfl, h1, k1⟩
    have HW := Lib.hid h1
    have K1 := Lib.hid k1
    clear h1 k1
    generalize hk : wc.heap.size = k at HW ⊢
    have HK : Hid (wc.heap.size ≤ k) := Lib.hid (by omega)
    clear hk
    go_upto_region 3 with fail
    generalize hw3 : World.alloc w1 _ = w2
    generalize hg : w1.heap.size = g
    have HM0 : Hid (RM w2 g k { newM h with t := 0, w := 0 } 739) := Lib.hid (by
      rw [← hw3, ← hg]
      exact ⟨⟨⟨false, 0, 0⟩, Part.of_whole (Whole.new w1 83 (rmL { newM h with t := 0, w := 0 } k 739 ⟨false, 0, 0⟩).toArray), fun h => (by cases h), fun h => (by rcases h with h | h <;> cases h)⟩, HW.out.alloc _, Nat.ne_of_gt HW.out.lt⟩)
    have K2 : Hid (Keep (fun _ => False) wc w2) := Lib.hid (by rw [← hw3]; exact K1.out.alloc _)
    have HG : Hid (wc.heap.size ≤ g) := Lib.hid (by rw [← hg]; exact K1.out.size)
    clear hw3 hg HW K1
    have m2 := HM0.out.own'.2.2.1
    have f2 := HM0.out.free 25
    have HM1 := Lib.hid (HM0.out.put (y := { newM h with t := 0 }) (H := 739) 25 (.int .u64 (10 * h)) (by decide) (fun _ => rfl) rfl rfl rfl)
    have K3 := Lib.hid (K2.out.setCell (p := ⟨g, 25, none⟩) (.inr HG.out) (.int .u64 (10 * h)))
    go_upto_region 4 with fail
    clear m2 f2 HM0 K2
    generalize World.setCell _ _ _ = w3 at *
    have m2 : w3.cell? ⟨g, 25, none⟩ = some (.int .u64 (10 * h)) := HM1.out.own'.2.2.1
    have m1 : w3.cell? ⟨g, 24, none⟩ = some (.int .u64 0) := HM1.out.own'.2.1
    have f1 := HM1.out.free 24
    have HM2 := Lib.hid (HM1.out.put (y := newM h) (H := 739) 24 (.int .u64 (rateV (1000 * (10 * h)) 739)) (by decide) (fun _ => rfl) rfl rfl rfl)
    have K4 := Lib.hid (K3.out.setCell (p := ⟨g, 24, none⟩) (.inr HG.out) (.int .u64 (rateV (1000 * (10 * h)) 739)))
    go_wp2_with fail
    refine (rrate_any _ _ HR.out.1 HR.out.2 (by decide) (by decide) _).mono ?_
    rintro e w' ⟨rfl, rfl⟩
    go_wp2
    go_ret
    exact ⟨g, k, rfl, HG.out, HK.out, HM2.out, K4.out⟩
end Go.Proofs.YtbimmadllfgmiaaGreat
