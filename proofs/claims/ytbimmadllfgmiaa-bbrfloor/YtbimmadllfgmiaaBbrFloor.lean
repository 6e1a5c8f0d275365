/-
  Proved: canterlaw17.BbrFloor answers true at every mss and every list of samples, and leaves its arguments as they were. Conditions: none.
-/
import Derived.Test.YtbimmadllfgmiaaRows
import Derived.WalkKit
import Derived.ProofKit
import Derived.OpenShut
import Derived.ShutString
import Derived.Below
import Derived.Test.YtbimmadllfgmiaaAwakeM
import Derived.Test.YtbimmadllfgmiaaBbrMore
import Derived.Test.YtbimmadllfgmiaaOpenS
import Derived.OwnWalk
namespace Go.Proofs.Ytbimmadllfgmiaa.bbrFloor
open Go.ChangeShapes Go.WideShapes Go.ChangeAt Go.RowKit
set_option maxRecDepth 100000
set_option linter.unusedVariables false

theorem own : ownKnob Try.prog.godebug = none := by kernel_rfl
theorem laidOut : laidOutB Try.prog = true := by kernel_rfl


set_option maxHeartbeats 4000000 in
set_option maxRecDepth 100000 in
theorem walk (a0 : Int) (a1 : Option Addr) (cap1 : Nat) (z1 : List SplF) (w : World) (w0 : (Lit.int .u64 a0).wf = true) (c1 : z1.length ≤ 9223372036854775807) (r1 : RdL 9 cells9 w a1 z1) :
    Calls Try.prog 3 #[.int .u64 a0, .slice a1 z1.length cap1] w fun e w' => e = .returned (.bool true) ∧ Below w.heap.size w w' := by
  obtain ⟨v0, v1⟩ := bounds_u64 w0
  clear w0
  obtain ⟨h, hh⟩ : ∃ h, clampS a0 = h := ⟨_, rfl⟩
  have hb : 100 ≤ h ∧ h ≤ 9000 := hh ▸ clampS_bd
  have HR := Lib.hid r1
  clear r1
  go_enter Try.func3, Try.ntmps3
  go_wp2_with fail
  refine ((Room.begin w).modnew ⟨v0, v1⟩).mono ?_
  rintro e w1 ⟨g, rfl, r1⟩
  rw [hh] at r1
  have R1 := Lib.hid r1; clear r1
  go_wp2_with fail
  refine R1.out.awakem.mono ?_
  rintro e w3 ⟨rfl, r3⟩
  have R3 := Lib.hid r3; clear r3 R1
  go_upto_region 4 with fail
  go_cut [0] (fun s0 wx => s0 = .int .u64 h ∧ wx = w3)
  case first =>
    by_cases h1 : a0 < 100
    · have HH : Hid (h = 100) := Lib.hid (by rw [← hh]; simp [clampS, h1])
      have hn : ¬ 9000 < a0 := by omega
      have hn2 : a0 < 9000 := by omega
      have hn3 : ¬ 100 < a0 := by omega
      clear hh hb
      go_wp2
      go_meet
      exact ⟨by rw [HH.out], rfl⟩
    · by_cases h2 : a0 = 100
      · have HH : Hid (h = 100) := Lib.hid (by rw [← hh, h2]; decide)
        subst h2
        clear hh hb h1
        go_wp2
        go_meet
        exact ⟨by rw [HH.out], rfl⟩
      · have h3 : 100 < a0 := by omega
        rcases Int.lt_trichotomy a0 9000 with hl | hl | hl
        · have HH : Hid (h = a0) := Lib.hid (by rw [← hh]; unfold clampS; rw [if_neg h1, if_neg (by omega)])
          have hn : ¬ 9000 < a0 := by omega
          clear hh hb h2
          go_wp2
          go_meet
          exact ⟨by rw [HH.out], rfl⟩
        · have HH : Hid (h = 9000) := Lib.hid (by rw [← hh, hl]; decide)
          subst hl
          clear hh hb h1 h2 h3
          go_wp2
          go_meet
          exact ⟨by rw [HH.out], rfl⟩
        · have HH : Hid (h = 9000) := Lib.hid (by rw [← hh]; unfold clampS; rw [if_neg h1, if_pos hl])
          have hn : ¬ a0 < 9000 := by omega
          clear hh hb h2
          go_wp2
          go_meet
          exact ⟨by rw [HH.out], rfl⟩
  case rest =>
  obtain ⟨rfl, rfl⟩ := hcut
  have HB := Lib.hid hb
  have HT0 : Hid (1 ≤ (newM h).t) := Lib.hid (by
    show 1 ≤ rateV (1000 * (10 * h)) 739
    unfold rateV mulDivV
    rw [if_neg (by omega), if_neg (by decide)]
    split <;> omega)
  clear hh hb v0 v1
  go_wp2
  go_loopg [6] 100 (fun j i wr => ∃ (k : Nat) (x : Mdl), k + j = 100 ∧ k ≤ z1.length ∧ i = .int .i64 k ∧ x.s = h ∧ 1 ≤ x.t ∧ x.r.c ≤ k ∧ Room w wr [modT g x])
  case atStart => exact ⟨0, _, by omega, Nat.zero_le _, rfl, rfl, HT0.out, Int.le_refl _, R3.out⟩
  case round =>
    obtain ⟨k, x, hk100, hk1, rfl, hxs, hxt, hxc, hRm⟩ := hrel
    have HM := Lib.hid hRm; clear hRm R3
    by_cases hlt : k < z1.length ∧ k < 100
    · obtain ⟨hl1, hl2⟩ := hlt
      obtain ⟨⟨s, hs⟩, hjob⟩ : ∃ j, z1[k]? = some j := ⟨_, List.getElem?_eq_getElem hl1⟩
      obtain ⟨b, off, rfl, hbw, -⟩ := HR.out k _ hjob
      have HBW := Lib.hid hbw
      have HS : Hid (∀ W, Below w.heap.size w W → W.cell? ⟨b, off + k * 9, none⟩ = some (.int .u64 s.n) ∧ W.cell? ⟨b, off + k * 9 + 1, none⟩ = some (.int .u64 s.d) ∧ W.cell? ⟨b, off + k * 9 + 2, none⟩ = some (.int .u64 s.p) ∧ W.cell? ⟨b, off + k * 9 + 3, none⟩ = some (.int .u64 s.i) ∧ W.cell? ⟨b, off + k * 9 + 4, none⟩ = some (.int .u64 s.r) ∧ W.cell? ⟨b, off + k * 9 + 5, none⟩ = some (.int .u64 s.a) ∧ W.cell? ⟨b, off + k * 9 + 6, none⟩ = some (.int .u64 s.o) ∧ W.cell? ⟨b, off + k * 9 + 7, none⟩ = some (.int .u64 s.f) ∧ W.cell? ⟨b, off + k * 9 + 8, none⟩ = some (.bool s.l)) := Lib.hid (fun W hbel => by
        obtain ⟨_, _, e, _, hc⟩ := HR.out.below hbel k _ hjob
        cases e
        exact ⟨hc 0 _ rfl, hc 1 _ rfl, hc 2 _ rfl, hc 3 _ rfl, hc 4 _ rfl, hc 5 _ rfl, hc 6 _ rfl, hc 7 _ rfl, hc 8 _ rfl⟩)
      have HSF := Lib.hid hs
      clear hjob hs hbw
      have hi1 : (k : Int) < (z1.length : Int) := by omega
      have hi2 : (k : Int) < 100 := by omega
      have hw2 : IntKind.u64.wrap (2 * h) = 2 * h := by have := HB.out; rw [IntKind.wrap_u64]; omega
      have hw4 : IntKind.u64.wrap (4 * h) = 4 * h := by have := HB.out; rw [IntKind.wrap_u64]; omega
      have HTN : Hid (Num (2 * h)) := Lib.hid (by have := HB.out; exact ⟨by omega, by omega⟩)
      have HC : Hid (x.r.c < 18446744073709551615) := Lib.hid (by omega)
      obtain ⟨y, hy⟩ : ∃ y, updM x s (2 * h) = y := ⟨_, rfl⟩
      have HE := Lib.hid hy
      have HX : Hid (y.s = h ∧ 1 ≤ y.t ∧ y.r.c ≤ (k + 1 : Nat)) := Lib.hid ⟨by rw [← hy, upd_s]; exact hxs, by rw [← hy]; exact upd_rate hxt, by rw [← hy, upd_rc]; split <;> omega⟩
      have HFL : Hid (4 * h ≤ y.w ∧ (y.m = 3 → y.w = 4 * h)) := Lib.hid (by
        have := upd_floor (x := x) (s := s) (tso := 2 * h) (by rw [hxs]; exact HB.out.1) (by rw [hxs]; exact HB.out.2)
        rw [hy, hxs] at this
        exact this)
      clear HR hy hxs hxt hxc
      obtain ⟨c0, c1, c2, c3, c4, c5, c6, c7, c8⟩ := HS.out _ HM.out.bel
      have hbl : b < wr.heap.size := Nat.lt_of_lt_of_le HBW.out HM.out.bel.size
      go_wp2_with fail
      refine (HM.out.modupd HE.out rfl HSF.out HTN.out HC.out).mono ?_
      rintro e w4 ⟨rfl, r4⟩
      have R4 := Lib.hid r4; clear r4 HM c0 c1 c2 c3 c4 c5 c6 c7 c8 hbl
      have hyf := R4.out.get0.fit
      have q0 : (y.t == 0) = false := by have := HX.out.2.1; simp; omega
      have q1 : decide (y.w < 4 * h) = false := by have := HFL.out.1; simp; omega
      have q1' : ¬ y.w < 4 * h := by have := HFL.out.1; omega
      have q3 : ¬ y.m < 0 := by have := hyf.m0; omega
      have q4 : ¬ 3 < y.m := by have := hyf.m3; omega
      have q5 : ¬ y.c.p < 0 := by have := hyf.c.p0; omega
      have q6 : ¬ 8 ≤ y.c.p := by have := hyf.c.p7; omega
      have R5 := Lib.hid (R4.out.alloc (.cells (staC y) 28))
      clear hyf
      by_cases h3 : y.m = 3
      · have q2 : (y.m == 3) = true := by simp [h3]
        have q7 : (y.w != 4 * h) = false := by have := HFL.out.2 h3; simp [this]
        clear h3
        go_wp2
        go_roundg (gk - 1)
        case measure => omega
        case rel => exact ⟨k + 1, y, by omega, by omega, by go_num, HX.out.1, HX.out.2.1, HX.out.2.2, R5.out⟩
      · have q2 : (y.m == 3) = false := by simp [h3]
        clear h3
        go_wp2
        go_roundg (gk - 1)
        case measure => omega
        case rel => exact ⟨k + 1, y, by omega, by omega, by go_num, HX.out.1, HX.out.2.1, HX.out.2.2, R5.out⟩
    · by_cases hl1 : k < z1.length
      · have hi1 : (k : Int) < (z1.length : Int) := by omega
        have hi2 : ¬ (k : Int) < 100 := by omega
        go_wp2
        go_ret
        exact ⟨rfl, HM.out.bel⟩
      · have hi1 : ¬ (k : Int) < (z1.length : Int) := by omega
        go_wp2
        go_ret
        exact ⟨rfl, HM.out.bel⟩

set_option maxRecDepth 100000 in
theorem lifted (os : Os) (started : os.Started) (H : Type) (enc : TypeId × Value → H) :
    ReturnsInHanded {} Try.checked os 3 .any (Rows.bbrFloorSpec.pre6 enc Try.prog Try.f3 Rows.bbrFloorRow.domain false) (Rows.bbrFloorSpec.post enc Try.prog Try.f3 false true false false) := by
  refine returnsInHanded_of_change (C := Try.checked) own started (by kernel_rfl) Try.func3
    (ChangeSpec.witness6 (enc := enc) (C := Try.checked) false ⟨#[], #[.int .u64 0, .slice none 0 0], []⟩ 8 (by kernel_rfl) (by kernel_rfl) (by kernel_rfl) (by kernel_rfl)) ?_
  intro W base args ds gs before hval0 hW hcnd _
  have hval : ∀ (j : Nat) t v, Try.f3.params[j]? = some t → args[j]? = some v → Value.okWide Try.prog W .any base t v := hval0
  have hW' := hW
  obtain ⟨p, q, hA0, hV, rfl, hfz, hnd⟩ := hW
  have hA : DataW.TrodAll enc Try.prog W 0 (fun _ => true) true Try.f3.params.toList args.toList ds p := hA0
  rw [Try.params3] at hA hval
  obtain ⟨v0, vs0, d0, ds0, p0, q0, hargs, rfl, rfl, h0, r0'⟩ := trodAll_cons hA
  obtain ⟨v1, vs1, d1, ds1, p1, q1, rfl, rfl, rfl, h1, r1'⟩ := trodAll_cons r0'
  obtain ⟨rfl, rfl, rfl⟩ := trodAll_nil r1'
  obtain rfl : args = #[v0, v1] := by cases args; simp_all
  obtain ⟨rfl, rfl⟩ := trodVars_none hV
  obtain ⟨a0, rfl, rfl, rfl, w0⟩ := open_int Try.underlying22 (hval 0 22 v0 rfl rfl) h0
  obtain ⟨a1, len1, cap1, rfl⟩ := okWide_slice Try.underlying23 (hval 1 23 v1 rfl rfl)
  have k1 := h1
  have lt1 : ∀ x ∈ p1, x.block < W.heap.size := by obtain ⟨m, hm⟩ := k1; exact DataW.trod_lt m _ _ _ hm
  obtain ⟨z1, hz1, hc1, r1⟩ := open_spls h1
  subst hz1
  clear hA0 hval0
  refine (walk a0 a1 cap1 z1 W w0 hc1 r1).mono fun e W' ⟨he, bel⟩ => ?_
  subst he
  exact ⟨_, rfl, _, _, _, [], _, [], hW', trodAll_mk1 (shut_bool Try.underlying4 _), (trodAll_cons_mk (shut_int Try.underlying22 w0) (trodAll_cons_mk (Below.trod laidOut (by kernel_rfl) (of_decide_eq_true (by kernel_rfl)) k1 bel lt1) trodAll_mk0)), rfl, bel.frame _, fun h => by cases h⟩

theorem over : Rows.bbrFloorRow.holds Try.pinned (OpenSpec.ofChange Rows.bbrFloorSpec) :=
  OpenClaim.holds_of_wide 3 Try.f3 rfl rfl rfl rfl rfl rfl rfl ⟨rfl, rfl, rfl, rfl, rfl⟩ rfl rfl rfl rfl rfl (by kernel_rfl) Try.func3 (by kernel_rfl)
    (of_decide_eq_true (by kernel_rfl)) (by unfold Func.isWrapper; first | (rw [if_pos (by decide +kernel)]; kernel_rfl) | (rw [if_neg (by decide +kernel)]; exact ⟨rfl, rfl⟩))
    (fun os started H enc _ => lifted os started H enc)

theorem proved : Rows.BbrFloorSaid := over
end Go.Proofs.Ytbimmadllfgmiaa.bbrFloor
namespace Go.Proofs.Ytbimmadllfgmiaa
theorem bbrFloor_holds : Rows.BbrFloorSaid := bbrFloor.proved
#print axioms bbrFloor_holds
end Go.Proofs.Ytbimmadllfgmiaa
