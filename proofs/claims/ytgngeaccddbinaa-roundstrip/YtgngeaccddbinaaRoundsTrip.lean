/-
  Proved: canterlaw11.RoundsTrip answers true at every three numbers, and leaves its arguments as they were. Conditions: none.
-/
import Derived.Test.YtgngeaccddbinaaRows
import Derived.WalkKit
import Derived.ProofKit
import Derived.OpenShut
import Derived.ShutString
import Derived.Test.YtgngeaccddbinaaRndTrip
import Derived.OwnWalk
namespace Go.Proofs.Ytgngeaccddbinaa.roundsTrip
open Go.ChangeShapes Go.WideShapes Go.ChangeAt Go.RowKit
open Go.ChangeMaps (open_string shut_string)
set_option linter.unusedVariables false

theorem own : ownKnob Try.prog.godebug = none := by kernel_rfl



set_option maxHeartbeats 4000000 in
set_option maxRecDepth 100000 in
theorem walk (a0 : Int) (a1 : Int) (a2 : Int) (w0 : (Lit.int .u64 a0).wf = true) (w1 : (Lit.int .i64 a1).wf = true) (w2 : (Lit.int .i64 a2).wf = true) (w : World) :
    Calls Try.prog 4 #[.int .u64 a0, .int .i64 a1, .int .i64 a2] w fun e w' => e = .returned (.bool true) ∧ Below w.heap.size w w' := by
  have b0 := bounds_u64 w0
  clear w0 w1 w2
  obtain ⟨u, hu⟩ : ∃ u : Nat, IntKind.u64.wrap a1 = (u : Int) := ⟨(IntKind.u64.wrap a1).toNat, by rw [IntKind.wrap_u64]; omega⟩
  obtain ⟨t, ht⟩ : ∃ t : Nat, (u : Int) % 10 = (t : Int) := ⟨u % 10, by omega⟩
  obtain ⟨u', hu'⟩ : ∃ u' : Nat, IntKind.u64.wrap a2 = (u' : Int) := ⟨(IntKind.u64.wrap a2).toNat, by rw [IntKind.wrap_u64]; omega⟩
  obtain ⟨n, hn⟩ : ∃ n : Nat, (u' : Int) % 10 = (n : Int) := ⟨u' % 10, by omega⟩
  have ht1 : t < 10 := by omega
  have hn1 : n < 10 := by omega
  go_enter Try.func4, Try.ntmps4
  go_wp2_with fail
  obtain ⟨Z, hZ⟩ : ∃ Z : Nat, 1 + a0 % 10000 = (Z : Int) := ⟨(1 + a0 % 10000).toNat, by omega⟩
  obtain ⟨T, hT⟩ : ∃ T : Nat, 1 + (t : Int) = (T : Int) := ⟨1 + t, by omega⟩
  obtain ⟨N, hN⟩ : ∃ N : Nat, 1 + (n : Int) = (N : Int) := ⟨1 + n, by omega⟩
  have hZ0 : 1 ≤ Z := by omega
  have hZ1 : Z ≤ 10000 := by omega
  have hT0 : 1 ≤ T := by omega
  have hT1 : T ≤ 10 := by omega
  have hN0 : 1 ≤ N := by omega
  have hN1 : N ≤ 10 := by omega
  rw [hZ, hT, hN]
  clear hZ hT hN hu ht hu' hn b0 ht1 hn1
  refine ((Room.begin w).ronew).mono ?_
  rintro e w1 ⟨rfl, r1⟩
  have R1 := Lib.hid r1; clear r1
  generalize w.heap.size = g at *
  go_wp2_with fail
  refine R1.out.awakeo.mono ?_
  rintro e w2 ⟨rfl, r2⟩
  have R2 := Lib.hid r2; clear r2 R1
  obtain ⟨M, hM⟩ : ∃ M : Nat, M = N * T := ⟨_, rfl⟩
  have hMb : M ≤ 100 := by subst hM; exact Nat.mul_le_mul hN1 hT1
  have hNT : (N : Int) * (T : Int) = (M : Int) := by rw [hM, Int.natCast_mul]
  have HMM := Lib.hid hM
  clear hM
  go_wp2
  go_loopw [8, 9] (fun st i wr => ∃ (q : Nat) (x : Rst), 1 ≤ q ∧ q ≤ M + 1 ∧ i = .int .i64 q ∧ st = .int .i64 x.c ∧ Trp T Z (q - 1) x ∧ Room w wr [rndT g x]) (fun _ i _ => M + 1 - (intOf i).toNat)
  case atStart => exact ⟨1, newR, by omega, by omega, rfl, rfl, trp_new T Z, R2.out⟩
  case round =>
    obtain ⟨q, x, hq0, hqM, rfl, rfl, hS, hR⟩ := hrel
    have HM := Lib.hid hR; clear hR R2
    obtain ⟨hc0, hc1⟩ := trp_c hS hT0
    by_cases hlt : q ≤ M
    · have hi1 : (q : Int) ≤ (M : Int) := by omega
      have hq1 : q - 1 + 1 = q := by omega
      have hwq : IntKind.u64.wrap (q : Int) = (q : Int) := by rw [IntKind.wrap_u64]; omega
      by_cases hqT : T < q
      · have hqt : (T : Int) < (q : Int) := by omega
        obtain ⟨e, he⟩ : ∃ e : Nat, e = q - T := ⟨_, rfl⟩
        have heI : (q : Int) - (T : Int) = (e : Int) := by omega
        have hwe : IntKind.u64.wrap (e : Int) = (e : Int) := by rw [IntKind.wrap_u64]; omega
        obtain ⟨p, hpe⟩ : ∃ p : Nat, p = e * Z := ⟨_, rfl⟩
        have hpb : p ≤ 1000000 := by subst hpe; exact Nat.mul_le_mul (show e ≤ 100 by omega) hZ1
        have heZ : (e : Int) * (Z : Int) = (p : Int) := by rw [hpe, Int.natCast_mul]
        have hwp : IntKind.u64.wrap (p : Int) = (p : Int) := by rw [IntKind.wrap_u64]; omega
        have hp : p = if T < q then (q - T) * Z else 0 := by rw [if_pos hqT, hpe, he]
        obtain ⟨pI, hPI⟩ : ∃ pI : Int, pI = (p : Int) := ⟨_, rfl⟩
        have hpX := hPI
        clear hpe he
        rw [← hPI] at heZ hwp
        have hpI0 : 0 ≤ pI := by omega
        have hpIb : pI ≤ 1000000 := by omega
        clear hpX
        obtain ⟨D, hD⟩ : ∃ D : Nat, D = q * Z := ⟨_, rfl⟩
        have hDb : D ≤ 1000000 := by subst hD; exact Nat.mul_le_mul (show q ≤ 100 by omega) hZ1
        have hqZ : (q : Int) * (Z : Int) = (D : Int) := by rw [hD, Int.natCast_mul]
        have hwD : IntKind.u64.wrap (D : Int) = (D : Int) := by rw [IntKind.wrap_u64]; omega
        have hst := trp_step (p := p) (d := D) hS hT0 hZ0 (by rw [hD, hq1]) (by rw [hq1]; exact hp)
        rw [hq1, ← hPI] at hst
        have HST : Hid (Trp T Z (q + 1 - 1) (updR x (trpS Z pI D))) := Lib.hid hst
        have ND : Hid (Num (trpS Z pI D).d) := Lib.hid ⟨by show 0 ≤ (D : Int); omega, by show (D : Int) ≤ _; omega⟩
        have HC : Hid (x.c < 18446744073709551615) := Lib.hid (by omega)
        obtain ⟨y, hy⟩ : ∃ y, updR x (trpS Z pI D) = y := ⟨_, rfl⟩
        rw [hy] at HST
        cases hB : begR x (trpS Z pI D)
        · have HE : Hid (begR x (trpS Z pI D) = false ∧ updR x (trpS Z pI D) = y) := Lib.hid ⟨hB, hy⟩
          have HYC : Hid (x.c = y.c) := Lib.hid (by rw [← hy, updR_c, hB]; simp)
          clear hB hy hst hS hp hD hq1 hPI
          (try subst hp0)
          go_wp2_with fail
          refine (HM.out.rupd (s := trpS Z _ D) HE.out ND.out HC.out).mono ?_
          rintro e w4 ⟨rfl, r4⟩
          have R4 := Lib.hid r4; clear r4 HM
          go_wp2
          go_roundw
          case rel => exact ⟨q + 1, y, by omega, by omega, by go_num, congrArg (Value.int .i64) HYC.out, HST.out, R4.out⟩
          case measure => simp [intOf]; omega
        · have HE : Hid (begR x (trpS Z pI D) = true ∧ updR x (trpS Z pI D) = y) := Lib.hid ⟨hB, hy⟩
          have HYC : Hid (x.c + 1 = y.c) := Lib.hid (by rw [← hy, updR_c, hB]; simp)
          clear hB hy hst hS hp hD hq1 hPI
          (try subst hp0)
          go_wp2_with fail
          refine (HM.out.rupd (s := trpS Z _ D) HE.out ND.out HC.out).mono ?_
          rintro e w4 ⟨rfl, r4⟩
          have R4 := Lib.hid r4; clear r4 HM
          go_wp2
          go_roundw
          case rel => exact ⟨q + 1, y, by omega, by omega, by go_num, congrArg (Value.int .i64) HYC.out, HST.out, R4.out⟩
          case measure => simp [intOf]; omega
      · have hqt : ¬ (T : Int) < (q : Int) := by omega
        obtain ⟨p, hp0⟩ : ∃ p : Nat, p = 0 := ⟨_, rfl⟩
        have hp : p = if T < q then (q - T) * Z else 0 := by rw [if_neg hqT, hp0]
        obtain ⟨pI, hPI⟩ : ∃ pI : Int, pI = (p : Int) := ⟨_, rfl⟩
        have hp1 : pI = 0 := by rw [hPI, hp0]; rfl
        clear hp0
        have hp0 := hp1
        clear hp1
        obtain ⟨D, hD⟩ : ∃ D : Nat, D = q * Z := ⟨_, rfl⟩
        have hDb : D ≤ 1000000 := by subst hD; exact Nat.mul_le_mul (show q ≤ 100 by omega) hZ1
        have hqZ : (q : Int) * (Z : Int) = (D : Int) := by rw [hD, Int.natCast_mul]
        have hwD : IntKind.u64.wrap (D : Int) = (D : Int) := by rw [IntKind.wrap_u64]; omega
        have hst := trp_step (p := p) (d := D) hS hT0 hZ0 (by rw [hD, hq1]) (by rw [hq1]; exact hp)
        rw [hq1, ← hPI] at hst
        have HST : Hid (Trp T Z (q + 1 - 1) (updR x (trpS Z pI D))) := Lib.hid hst
        have ND : Hid (Num (trpS Z pI D).d) := Lib.hid ⟨by show 0 ≤ (D : Int); omega, by show (D : Int) ≤ _; omega⟩
        have HC : Hid (x.c < 18446744073709551615) := Lib.hid (by omega)
        obtain ⟨y, hy⟩ : ∃ y, updR x (trpS Z pI D) = y := ⟨_, rfl⟩
        rw [hy] at HST
        cases hB : begR x (trpS Z pI D)
        · have HE : Hid (begR x (trpS Z pI D) = false ∧ updR x (trpS Z pI D) = y) := Lib.hid ⟨hB, hy⟩
          have HYC : Hid (x.c = y.c) := Lib.hid (by rw [← hy, updR_c, hB]; simp)
          clear hB hy hst hS hp hD hq1 hPI
          (try subst hp0)
          go_wp2_with fail
          refine (HM.out.rupd (s := trpS Z _ D) HE.out ND.out HC.out).mono ?_
          rintro e w4 ⟨rfl, r4⟩
          have R4 := Lib.hid r4; clear r4 HM
          go_wp2
          go_roundw
          case rel => exact ⟨q + 1, y, by omega, by omega, by go_num, congrArg (Value.int .i64) HYC.out, HST.out, R4.out⟩
          case measure => simp [intOf]; omega
        · have HE : Hid (begR x (trpS Z pI D) = true ∧ updR x (trpS Z pI D) = y) := Lib.hid ⟨hB, hy⟩
          have HYC : Hid (x.c + 1 = y.c) := Lib.hid (by rw [← hy, updR_c, hB]; simp)
          clear hB hy hst hS hp hD hq1 hPI
          (try subst hp0)
          go_wp2_with fail
          refine (HM.out.rupd (s := trpS Z _ D) HE.out ND.out HC.out).mono ?_
          rintro e w4 ⟨rfl, r4⟩
          have R4 := Lib.hid r4; clear r4 HM
          go_wp2
          go_roundw
          case rel => exact ⟨q + 1, y, by omega, by omega, by go_num, congrArg (Value.int .i64) HYC.out, HST.out, R4.out⟩
          case measure => simp [intOf]; omega
    · have hi1 : ¬ (q : Int) ≤ (M : Int) := by omega
      have hq2 : q - 1 = N * T := by rw [← HMM.out]; omega
      rw [hq2] at hS
      have hxc := trp_end hS hT0 hN0
      have HXC := Lib.hid hxc
      rw [hxc]
      have hwN : IntKind.i64.wrap (N : Int) = (N : Int) := by rw [IntKind.wrap_i64]; omega
      have hle : (N : Int) ≤ (N : Int) + 1 := by omega
      clear hxc hS hc0 hc1 hq2
      go_wp2_with fail
      refine (HM.out.rcount HXC.out).mono ?_
      rintro e w4 ⟨rfl, rfl⟩
      go_wp2
      go_ret
      exact ⟨rfl, HM.out.bel⟩

set_option maxRecDepth 100000 in
theorem lifted (os : Os) (started : os.Started) (H : Type) (enc : TypeId × Value → H) :
    ReturnsInHanded {} Try.checked os 4 .any (Rows.roundsTripSpec.pre6 enc Try.prog Try.f4 Rows.roundsTripRow.domain false) (Rows.roundsTripSpec.post enc Try.prog Try.f4 false true false false) := by
  refine returnsInHanded_of_change (C := Try.checked) own started (by kernel_rfl) Try.func4
    (ChangeSpec.witness6 (enc := enc) (C := Try.checked) false ⟨#[], #[.int .u64 0, .int .i64 0, .int .i64 0], []⟩ 8 (by kernel_rfl) (by kernel_rfl) (by kernel_rfl) (by kernel_rfl)) ?_
  intro W base args ds gs before hval0 hW hcnd _
  have hval : ∀ (j : Nat) t v, Try.f4.params[j]? = some t → args[j]? = some v → Value.okWide Try.prog W .any base t v := hval0
  have hW' := hW
  obtain ⟨p, q, hA0, hV, rfl, hfz, hnd⟩ := hW
  have hA : DataW.TrodAll enc Try.prog W 0 (fun _ => true) true Try.f4.params.toList args.toList ds p := hA0
  rw [Try.params4] at hA hval
  obtain ⟨v0, vs0, d0, ds0, p0, q0, hargs, rfl, rfl, h0, r0⟩ := trodAll_cons hA
  obtain ⟨v1, vs1, d1, ds1, p1, q1, rfl, rfl, rfl, h1, r1⟩ := trodAll_cons r0
  obtain ⟨v2, vs2, d2, ds2, p2, q2, rfl, rfl, rfl, h2, r2⟩ := trodAll_cons r1
  obtain ⟨rfl, rfl, rfl⟩ := trodAll_nil r2
  obtain rfl : args = #[v0, v1, v2] := by cases args; simp_all
  obtain ⟨rfl, rfl⟩ := trodVars_none hV
  obtain ⟨a0, rfl, rfl, rfl, w0⟩ := open_int Try.underlying26 (hval 0 26 v0 rfl rfl) h0
  obtain ⟨a1, rfl, rfl, rfl, w1⟩ := open_int Try.underlying3 (hval 1 3 v1 rfl rfl) h1
  obtain ⟨a2, rfl, rfl, rfl, w2⟩ := open_int Try.underlying3 (hval 2 3 v2 rfl rfl) h2
  clear hA0 hval0
  simp only [List.append_nil] at hW'
  refine (walk a0 a1 a2 w0 w1 w2 W).mono fun e W' ⟨he, hg⟩ => ?_
  subst he
  exact ⟨_, rfl, _, _, _, [], _, [], hW', trodAll_mk1 (shut_bool Try.underlying4 _), (trodAll_cons_mk (shut_int Try.underlying26 w0) (trodAll_cons_mk (shut_int Try.underlying3 w1) (trodAll_cons_mk (shut_int Try.underlying3 w2) trodAll_mk0))), rfl, hg.frame _, fun h => by cases h⟩

theorem over : Rows.roundsTripRow.holds Try.pinned (OpenSpec.ofChange Rows.roundsTripSpec) :=
  OpenClaim.holds_of_wide 4 Try.f4 rfl rfl rfl rfl rfl rfl rfl ⟨rfl, rfl, rfl, rfl, rfl⟩ rfl rfl rfl rfl rfl (by kernel_rfl) Try.func4 (by kernel_rfl)
    (of_decide_eq_true (by kernel_rfl)) (by unfold Func.isWrapper; first | (rw [if_pos (by decide +kernel)]; kernel_rfl) | (rw [if_neg (by decide +kernel)]; exact ⟨rfl, rfl⟩))
    (fun os started H enc _ => lifted os started H enc)

theorem proved : Rows.RoundsTripSaid :=
  over
end Go.Proofs.Ytgngeaccddbinaa.roundsTrip
namespace Go.Proofs.Ytgngeaccddbinaa
theorem roundsTrip_holds : Rows.RoundsTripSaid := roundsTrip.proved
#print axioms roundsTrip_holds
end Go.Proofs.Ytgngeaccddbinaa
