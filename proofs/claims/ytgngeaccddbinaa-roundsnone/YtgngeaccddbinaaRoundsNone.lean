/-
  Proved: canterlaw11.RoundsNone answers true at every list of samples, and leaves its argument as it was. Conditions: none.
-/
import Derived.Test.YtgngeaccddbinaaRows
import Derived.WalkKit
import Derived.ProofKit
import Derived.OpenShut
import Derived.ShutString
import Derived.Below
import Derived.Test.YtgngeaccddbinaaAwakeO
import Derived.Test.YtgngeaccddbinaaOpenS
import Derived.OwnWalk
namespace Go.Proofs.Ytgngeaccddbinaa.roundsNone
open Go.ChangeShapes Go.WideShapes Go.ChangeAt Go.RowKit
set_option linter.unusedVariables false

theorem own : ownKnob Try.prog.godebug = none := by kernel_rfl
theorem laidOut : laidOutB Try.prog = true := by kernel_rfl

theorem sub1 {a : Thing} {L : List Thing} : [a].Sublist (a :: L) := List.Sublist.cons_cons _ (List.nil_sublist _)

set_option maxHeartbeats 4000000 in
set_option maxRecDepth 100000 in
theorem walk (a0 : Option Addr) (cap0 : Nat) (z0 : List SplF) (w : World) (c0 : z0.length ≤ 9223372036854775807) (r0 : RdL 9 cells9 w a0 z0) :
    Calls Try.prog 5 #[.slice a0 z0.length cap0] w fun e w' => e = .returned (.bool true) ∧ Below w.heap.size w w' := by
  have HR := Lib.hid r0
  clear r0
  go_enter Try.func5, Try.ntmps5
  go_wp2_with fail
  refine ((Room.begin w).ronew).mono ?_
  rintro e w1 ⟨rfl, r1⟩
  have R1 := Lib.hid r1; clear r1
  generalize w.heap.size = g at *
  go_wp2_with fail
  refine R1.out.awakeo.mono ?_
  rintro e w3 ⟨rfl, r3⟩
  have R3 := Lib.hid r3; clear r3 R1
  go_wp2
  go_loopg [4, 5] 60 (fun j v i wr => ∃ (k : Nat) (x : Rst), k + j = 60 ∧ k ≤ z0.length ∧ i = .int .i64 k ∧ v = .int .u64 x.c ∧ 0 ≤ x.c ∧ x.c ≤ k ∧ Room w wr [rndT g x])
  case atStart => exact ⟨0, _, by omega, Nat.zero_le _, rfl, rfl, by decide, by decide, R3.out⟩
  case round =>
    obtain ⟨k, x, hk60, hk1, rfl, rfl, hx0, hx, hRm⟩ := hrel
    have HM := Lib.hid hRm; clear hRm R3
    by_cases hlt : k < z0.length ∧ k < 60
    · obtain ⟨hl1, hl2⟩ := hlt
      obtain ⟨⟨s, hs⟩, hjob⟩ : ∃ j, z0[k]? = some j := ⟨_, List.getElem?_eq_getElem hl1⟩
      obtain ⟨b, off, rfl, hbw, -⟩ := HR.out k _ hjob
      have HBW := Lib.hid hbw
      have HS : Hid (∀ W, Below w.heap.size w W → W.cell? ⟨b, off + k * 9, none⟩ = some (.int .u64 s.n) ∧ W.cell? ⟨b, off + k * 9 + 1, none⟩ = some (.int .u64 s.d) ∧ W.cell? ⟨b, off + k * 9 + 2, none⟩ = some (.int .u64 s.p) ∧ W.cell? ⟨b, off + k * 9 + 3, none⟩ = some (.int .u64 s.i) ∧ W.cell? ⟨b, off + k * 9 + 4, none⟩ = some (.int .u64 s.r) ∧ W.cell? ⟨b, off + k * 9 + 5, none⟩ = some (.int .u64 s.a) ∧ W.cell? ⟨b, off + k * 9 + 6, none⟩ = some (.int .u64 s.o) ∧ W.cell? ⟨b, off + k * 9 + 7, none⟩ = some (.int .u64 s.f) ∧ W.cell? ⟨b, off + k * 9 + 8, none⟩ = some (.bool s.l)) := Lib.hid (fun W hbel => by
        obtain ⟨_, _, e, _, hc⟩ := HR.out.below hbel k _ hjob
        cases e
        exact ⟨hc 0 _ rfl, hc 1 _ rfl, hc 2 _ rfl, hc 3 _ rfl, hc 4 _ rfl, hc 5 _ rfl, hc 6 _ rfl, hc 7 _ rfl, hc 8 _ rfl⟩)
      have hi1 : (k : Int) < (z0.length : Int) := by omega
      have hi2 : (k : Int) < 60 := by omega
      have hwr : IntKind.u64.wrap (x.c + 1) = x.c + 1 := by rw [IntKind.wrap_u64]; omega
      have ND := Lib.hid hs.d
      have HC : Hid (x.c < 18446744073709551615) := Lib.hid (by omega)
      have HE0 : Hid (begR x ⟨s.n, s.d, s.p, s.i, s.r, 0, s.o, s.f, s.l⟩ = false ∧ updR x ⟨s.n, s.d, s.p, s.i, s.r, 0, s.o, s.f, s.l⟩ = x) := Lib.hid (by simp [updR, begR])
      have HQ : Hid (0 ≤ x.c ∧ x.c ≤ k) := Lib.hid ⟨hx0, hx⟩
      clear hjob hs HR hx hx0 hbw
      obtain ⟨c0, c1, c2, c3, c4, c5, c6, c7, c8⟩ := HS.out _ HM.out.bel
      have hbl : b < wr.heap.size := Nat.lt_of_lt_of_le HBW.out HM.out.bel.size
      go_wp2_with fail
      have R4 := Lib.hid (HM.out.box1 32 #[.int .u64 s.n, .int .u64 s.d, .int .u64 s.p, .int .u64 s.i, .int .u64 s.r, .int .u64 0, .int .u64 s.o, .int .u64 s.f, .bool s.l])
      clear c0 c1 c2 c3 c4 c5 c6 c7 c8 hbl
      refine (R4.out.rupd HE0.out ND.out HC.out).mono ?_
      rintro e w4 ⟨rfl, r4⟩
      clear R4
      have R4 := Lib.hid (r4.less sub1); clear r4 HM
      go_wp2_with fail
      refine (R4.out.rcount rfl).mono ?_
      rintro e w' ⟨rfl, rfl⟩
      have hcc : (x.c != x.c) = false := by simp
      obtain ⟨y, hy⟩ : ∃ y, updR x s = y := ⟨_, rfl⟩
      cases hB : begR x s
      · have HE : Hid (begR x s = false ∧ updR x s = y) := Lib.hid ⟨hB, hy⟩
        have hyc : y.c = x.c := by rw [← hy, updR_c, hB]; simp
        have hne : (x.c == x.c + 1) = false := by simp; omega
        have HYC := Lib.hid hyc
        clear hB hy hyc
        have hbl : b < w4.heap.size := Nat.lt_of_lt_of_le HBW.out R4.out.bel.size
        obtain ⟨c0, c1, c2, c3, c4, c5, c6, c7, c8⟩ := HS.out _ R4.out.bel
        go_wp2_with fail
        refine (R4.out.rupd (s := s) HE.out ND.out HC.out).mono ?_
        rintro e w5 ⟨rfl, r5⟩
        have R5 := Lib.hid r5; clear r5 R4 c0 c1 c2 c3 c4 c5 c6 c7 c8 hbl
        go_wp2_with fail
        refine (R5.out.rcount HYC.out).mono ?_
        rintro e w' ⟨rfl, rfl⟩
        go_wp2_with fail
        refine (R5.out.rcount HYC.out).mono ?_
        rintro e w' ⟨rfl, rfl⟩
        go_wp2_with fail
        refine (R5.out.rcount HYC.out).mono ?_
        rintro e w' ⟨rfl, rfl⟩
        go_wp2
        go_roundg (gk - 1)
        case measure => omega
        case rel => exact ⟨k + 1, y, by omega, by omega, by go_num, by rw [HYC.out], by rw [HYC.out]; exact HQ.out.1, by rw [HYC.out]; have := HQ.out.2; omega, R5.out⟩
      · have HE : Hid (begR x s = true ∧ updR x s = y) := Lib.hid ⟨hB, hy⟩
        have hyc : y.c = x.c + 1 := by rw [← hy, updR_c, hB]; simp
        have hne : (x.c + 1 == x.c + 1) = true := by simp
        have HYC := Lib.hid hyc
        clear hB hy hyc
        have hbl : b < w4.heap.size := Nat.lt_of_lt_of_le HBW.out R4.out.bel.size
        obtain ⟨c0, c1, c2, c3, c4, c5, c6, c7, c8⟩ := HS.out _ R4.out.bel
        go_wp2_with fail
        refine (R4.out.rupd (s := s) HE.out ND.out HC.out).mono ?_
        rintro e w5 ⟨rfl, r5⟩
        have R5 := Lib.hid r5; clear r5 R4 c0 c1 c2 c3 c4 c5 c6 c7 c8 hbl
        go_wp2_with fail
        refine (R5.out.rcount HYC.out).mono ?_
        rintro e w' ⟨rfl, rfl⟩
        go_wp2_with fail
        refine (R5.out.rcount HYC.out).mono ?_
        rintro e w' ⟨rfl, rfl⟩
        go_wp2
        go_roundg (gk - 1)
        case measure => omega
        case rel => exact ⟨k + 1, y, by omega, by omega, by go_num, by rw [HYC.out], by rw [HYC.out]; have := HQ.out.1; omega, by rw [HYC.out]; have := HQ.out.2; omega, R5.out⟩
    · by_cases hl1 : k < z0.length
      · have hi1 : (k : Int) < (z0.length : Int) := by omega
        have hi2 : ¬ (k : Int) < 60 := by omega
        go_wp2
        go_ret
        exact ⟨rfl, HM.out.bel⟩
      · have hi1 : ¬ (k : Int) < (z0.length : Int) := by omega
        go_wp2
        go_ret
        exact ⟨rfl, HM.out.bel⟩

set_option maxRecDepth 100000 in
theorem lifted (os : Os) (started : os.Started) (H : Type) (enc : TypeId × Value → H) :
    ReturnsInHanded {} Try.checked os 5 .any (Rows.roundsNoneSpec.pre6 enc Try.prog Try.f5 Rows.roundsNoneRow.domain false) (Rows.roundsNoneSpec.post enc Try.prog Try.f5 false true false false) := by
  refine returnsInHanded_of_change (C := Try.checked) own started (by kernel_rfl) Try.func5
    (ChangeSpec.witness6 (enc := enc) (C := Try.checked) false ⟨#[], #[.slice none 0 0], []⟩ 8 (by kernel_rfl) (by kernel_rfl) (by kernel_rfl) (by kernel_rfl)) ?_
  intro W base args ds gs before hval0 hW hcnd _
  have hval : ∀ (j : Nat) t v, Try.f5.params[j]? = some t → args[j]? = some v → Value.okWide Try.prog W .any base t v := hval0
  have hW' := hW
  obtain ⟨p, q, hA0, hV, rfl, hfz, hnd⟩ := hW
  have hA : DataW.TrodAll enc Try.prog W 0 (fun _ => true) true Try.f5.params.toList args.toList ds p := hA0
  rw [Try.params5] at hA hval
  obtain ⟨v0, vs0, d0, ds0, p0, q0, hargs, rfl, rfl, h0, r0'⟩ := trodAll_cons hA
  obtain ⟨rfl, rfl, rfl⟩ := trodAll_nil r0'
  obtain rfl : args = #[v0] := by cases args; simp_all
  obtain ⟨rfl, rfl⟩ := trodVars_none hV
  obtain ⟨a0, len0, cap0, rfl⟩ := okWide_slice Try.underlying22 (hval 0 22 v0 rfl rfl)
  have k0 := h0
  have lt0 : ∀ x ∈ p0, x.block < W.heap.size := by obtain ⟨m, hm⟩ := k0; exact DataW.trod_lt m _ _ _ hm
  obtain ⟨z0, hz0, hc0, r0⟩ := open_spls h0
  subst hz0
  clear hA0 hval0
  refine (walk a0 cap0 z0 W hc0 r0).mono fun e W' ⟨he, bel⟩ => ?_
  subst he
  exact ⟨_, rfl, _, _, _, [], _, [], hW', trodAll_mk1 (shut_bool Try.underlying4 _), (trodAll_cons_mk (Below.trod laidOut (by kernel_rfl) (of_decide_eq_true (by kernel_rfl)) k0 bel lt0) trodAll_mk0), rfl, bel.frame _, fun h => by cases h⟩

theorem over : Rows.roundsNoneRow.holds Try.pinned (OpenSpec.ofChange Rows.roundsNoneSpec) :=
  OpenClaim.holds_of_wide 5 Try.f5 rfl rfl rfl rfl rfl rfl rfl ⟨rfl, rfl, rfl, rfl, rfl⟩ rfl rfl rfl rfl rfl (by kernel_rfl) Try.func5 (by kernel_rfl)
    (of_decide_eq_true (by kernel_rfl)) (by unfold Func.isWrapper; first | (rw [if_pos (by decide +kernel)]; kernel_rfl) | (rw [if_neg (by decide +kernel)]; exact ⟨rfl, rfl⟩))
    (fun os started H enc _ => lifted os started H enc)

theorem proved : Rows.RoundsNoneSaid := over
end Go.Proofs.Ytgngeaccddbinaa.roundsNone
namespace Go.Proofs.Ytgngeaccddbinaa
theorem roundsNone_holds : Rows.RoundsNoneSaid := roundsNone.proved
#print axioms roundsNone_holds
end Go.Proofs.Ytgngeaccddbinaa
