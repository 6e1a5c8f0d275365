/-
  Proved: canterlaw10.SamplerSteady answers true at every four numbers, and leaves its arguments as they were. Conditions: none.
-/
import Derived.Test.YtiilbdmldonipaaRows
import Derived.WalkKit
import Derived.ProofKit
import Derived.OpenShut
import Derived.ShutString
import Derived.Test.YtiilbdmldonipaaSamRow
import Derived.Test.YtiilbdmldonipaaSamSteady
import Derived.OwnWalk
namespace Go.Proofs.Ytiilbdmldonipaa.samplerSteady
open Go.ChangeShapes Go.WideShapes Go.ChangeAt Go.RowKit
open Go.ChangeMaps (open_string shut_string)
set_option linter.unusedVariables false

theorem own : ownKnob Try.prog.godebug = none := by kernel_rfl

/-- How many are under way. -/
def fly (T Z k : Nat) : Nat := (if k ≤ T then k else T) * Z
theorem sJ_fit {T G Z j : Nat} (hG : G ≤ 1000000) (hZ : Z ≤ 100000) (hj : j ≤ 40) : (sJ T G Z j).Fit := by
  have b1 : j * G ≤ 40 * 1000000 := Nat.mul_le_mul hj hG
  have b2 : (j + 1 - T) * Z ≤ 41 * 100000 := Nat.mul_le_mul (by omega) hZ
  have b3 : (j - T) * G ≤ 40 * 1000000 := Nat.mul_le_mul (by omega) hG
  refine ⟨⟨Int.natCast_nonneg _, ?_⟩, ⟨Int.natCast_nonneg _, ?_⟩, ⟨Int.natCast_nonneg _, ?_⟩, ⟨Int.natCast_nonneg _, ?_⟩⟩
  · show ((j * G : Nat) : Int) ≤ _; omega
  · show (((j + 1 - T) * Z : Nat) : Int) ≤ _; omega
  · show ((if j < T then 0 else j * G : Nat) : Int) ≤ _; split <;> omega
  · show ((if T = 1 then j * G else (j - T) * G : Nat) : Int) ≤ _; split <;> omega
def sJs (T G Z k : Nat) : List Snt := (List.range k).map (sJ T G Z)
theorem sJs_len (T G Z k : Nat) : (sJs T G Z k).length = k := by simp [sJs]
theorem sJs_more (T G Z k : Nat) : sJs T G Z k ++ [sJ T G Z k] = sJs T G Z (k + 1) := by simp [sJs, List.range_succ]
theorem sJs_get {T G Z k j : Nat} (h : j < k) : (sJs T G Z k)[j]? = some (sJ T G Z j) := by simp [sJs, h]

set_option maxHeartbeats 4000000 in
set_option maxRecDepth 100000 in
theorem walk (a0 : Int) (a1 : Int) (a2 : Int) (a3 : Int) (w0 : (Lit.int .u64 a0).wf = true) (w1 : (Lit.int .u64 a1).wf = true) (w2 : (Lit.int .i64 a2).wf = true) (w3 : (Lit.int .i64 a3).wf = true) (w : World) :
    Calls Try.prog 4 #[.int .u64 a0, .int .u64 a1, .int .i64 a2, .int .i64 a3] w fun e w' => e = .returned (.bool true) ∧ Below w.heap.size w w' := by
  have b0 := bounds_u64 w0
  have b1 := bounds_u64 w1
  clear w0 w1 w2 w3
  obtain ⟨u, hu⟩ : ∃ u : Nat, IntKind.u64.wrap a2 = (u : Int) := ⟨(IntKind.u64.wrap a2).toNat, by rw [IntKind.wrap_u64]; omega⟩
  obtain ⟨t, ht⟩ : ∃ t : Nat, (u : Int) % 10 = (t : Int) := ⟨u % 10, by omega⟩
  obtain ⟨u', hu'⟩ : ∃ u' : Nat, IntKind.u64.wrap a3 = (u' : Int) := ⟨(IntKind.u64.wrap a3).toNat, by rw [IntKind.wrap_u64]; omega⟩
  obtain ⟨n, hn⟩ : ∃ n : Nat, (u' : Int) % 30 = (n : Int) := ⟨u' % 30, by omega⟩
  have ht1 : t < 10 := by omega
  have hn1 : n < 30 := by omega
  go_enter Try.func4, Try.ntmps4
  go_wp2_with fail
  obtain ⟨G, hG⟩ : ∃ G : Nat, 1 + a0 % 1000000 = (G : Int) := ⟨(1 + a0 % 1000000).toNat, by omega⟩
  obtain ⟨Z, hZ⟩ : ∃ Z : Nat, 1 + a1 % 100000 = (Z : Int) := ⟨(1 + a1 % 100000).toNat, by omega⟩
  obtain ⟨T, hT⟩ : ∃ T : Nat, 1 + (t : Int) = (T : Int) := ⟨1 + t, by omega⟩
  obtain ⟨N, hN⟩ : ∃ N : Nat, 1 + (n : Int) = (N : Int) := ⟨1 + n, by omega⟩
  have hG0 : 1 ≤ G := by omega
  have hG1 : G ≤ 1000000 := by omega
  have hZ0 : 1 ≤ Z := by omega
  have hZ1 : Z ≤ 100000 := by omega
  have hT0 : 1 ≤ T := by omega
  have hT1 : T ≤ 10 := by omega
  have hN0 : 1 ≤ N := by omega
  have hN1 : N ≤ 30 := by omega
  rw [hG, hZ, hT, hN]
  clear hG hZ hT hN hu ht hu' hn b0 b1 ht1 hn1
  refine ((Room.begin w).snew).mono ?_
  rintro e w1 ⟨rfl, r1⟩
  have R1 := Lib.hid r1; clear r1
  generalize w.heap.size = g at *
  go_wp2_with fail
  refine R1.out.awakes.mono ?_
  rintro e w2 ⟨rfl, r2⟩
  have R2 := Lib.hid r2; clear r2 R1
  go_wp2
  go_loopw [10, 11, 12] (fun v fl i wr => ∃ (k : Nat) (x : Smp), k ≤ N + T ∧ i = .int .i64 k ∧ fl = .int .u64 ((fly T Z k : Nat) : Int) ∧ Std T G Z k x ∧ Room w wr [samT g x, sntsT v (sJs T G Z k)]) (fun _ _ i _ => N + T - (intOf i).toNat)
  case atStart => exact ⟨0, _, Nat.zero_le _, rfl, by unfold fly; rw [if_pos (Nat.zero_le _), Nat.zero_mul]; rfl, std_new hT0, (R2.out.add (t := sntsT (.slice none 0 0) []) (snts_nil _) (Keep.refl _ _) (fun k e => (by cases e))).perm (List.Perm.swap _ _ _)⟩
  case round =>
    obtain ⟨k, x, hk, rfl, rfl, hS, hR⟩ := hrel
    obtain ⟨a, c, rfl⟩ := snts_shape hR.get1
    rw [sJs_len] at hR ⊢
    have HS := Lib.hid hS; have HR := Lib.hid hR; clear hS hR R2
    by_cases hlt : k < N + T
    · have hi1 : (k : Int) < (N : Int) + (T : Int) := by omega
      have hwk : IntKind.u64.wrap (k : Int) = (k : Int) := by rw [IntKind.wrap_u64]; omega
      obtain ⟨M, hMN⟩ : ∃ M : Nat, M = k * G := ⟨_, rfl⟩
      have hM : (k : Int) * (G : Int) = (M : Int) := by rw [hMN, Int.natCast_mul]
      have hMb : M ≤ 40000000 := by subst hMN; exact Nat.mul_le_mul (show k ≤ 40 by omega) hG1
      have NM : Hid (Num (M : Int)) := Lib.hid ⟨by omega, by omega⟩
      have HLM := Lib.hid (sJs_more T G Z k)
      have HLL := sJs_len T G Z k
      obtain ⟨L, hL⟩ : ∃ L, sJs T G Z k = L := ⟨_, rfl⟩
      obtain ⟨q, hq⟩ : ∃ q, sJ T G Z k = q := ⟨_, rfl⟩
      by_cases hkT : T ≤ k
      · have hkt : (T : Int) ≤ (k : Int) := by omega
        obtain ⟨j, hj⟩ : ∃ j, k = T + j := ⟨k - T, by omega⟩
        have hjI : (k : Int) - (T : Int) = (j : Int) := by omega
        have hS' : Std T G Z (T + j) x := hj ▸ HS.out
        obtain ⟨p, I, hV, hp, hI1, hI2, hX, hsent, hstd⟩ := std_high hS' hT0 hZ0 hG0 hZ1 hG1 (by omega)
        rw [← hj, ← hMN] at hV hsent hstd
        obtain ⟨D, hD⟩ : ∃ D : Nat, (j + 1) * Z = D := ⟨_, rfl⟩
        have hDb : D ≤ 4100000 := by subst hD; exact Nat.mul_le_mul (show j + 1 ≤ 41 by omega) hZ1
        obtain ⟨RT, hRT⟩ : ∃ RT : Nat, G * T = RT := ⟨_, rfl⟩
        have hRTb : RT ≤ 10000000 := by subst hRT; rw [Nat.mul_comm]; exact Nat.mul_le_mul hT1 hG1
        have hGT : (G : Int) * (T : Int) = (RT : Int) := by rw [← hRT, Int.natCast_mul]
        obtain ⟨F', hF'⟩ : ∃ F' : Nat, (T - 1) * Z = F' := ⟨_, rfl⟩
        have hF'b : F' ≤ 4000000 := by subst hF'; exact Nat.mul_le_mul (show T - 1 ≤ 40 by omega) hZ1
        rw [hD] at hV hp hX
        rw [hRT] at hV
        rw [hF'] at hsent hstd
        have hfl : fly T Z k = F' + Z := by
          have e : (if k ≤ T then k else T) = T := by split <;> omega
          unfold fly
          rw [e, ← hF', ← Nat.succ_mul, show (T - 1).succ = T by omega]
        have HFL : Hid ((F' : Int) + (Z : Int) = ((fly T Z (k + 1) : Nat) : Int)) := Lib.hid (by
          unfold fly; rw [if_neg (by omega), ← hF', show T * Z = (T - 1) * Z + Z by rw [← Nat.succ_mul, show (T - 1).succ = T by omega]]; omega)
        have hjk : (sJs T G Z k)[j]? = some (sJ T G Z j) := sJs_get (by omega)
        obtain ⟨qj, hqj⟩ : ∃ qj, sJ T G Z j = qj := ⟨_, rfl⟩
        have hfit : qj.Fit := hqj ▸ sJ_fit hG1 hZ1 (by omega)
        rw [hq] at hsent
        obtain ⟨y, hy⟩ : ∃ y, ackS x (M : Int) (Z : Int) (sJ T G Z j) = y := ⟨_, rfl⟩
        rw [hy] at hV hsent hstd
        rw [hqj] at hy hjk
        obtain ⟨y', hy'⟩ : ∃ y', sentS (takeS y) (M : Int) (F' : Int) = y' := ⟨_, rfl⟩
        rw [hy'] at hstd
        have HSN : Hid (sentV (takeS y) (M : Int) (F' : Int) = q ∧ sentS (takeS y) (M : Int) (F' : Int) = y') := Lib.hid ⟨hsent, hy'⟩
        have HST := Lib.hid hstd
        have HV := Lib.hid (hV (F' : Int))
        have HY := Lib.hid hy
        have HQF := Lib.hid hfit
        have NZ : Hid (Num (Z : Int)) := Lib.hid ⟨by omega, by omega⟩
        rw [hfl]
        rw [hL] at HR HLM HLL hjk
        rw [hq] at HLM
        obtain ⟨r, rfl, c0, c1, c2, c3, c4⟩ := snts_get HR.out.get1 HLL.symm hjk
        have hFI : ((F' + Z : Nat) : Int) = (F' : Int) + (Z : Int) := by omega
        rw [hFI]
        have hFZ : (F' : Int) + (Z : Int) - (Z : Int) = (F' : Int) := by omega
        have hwT : IntKind.u64.wrap (T : Int) = (T : Int) := by rw [IntKind.wrap_u64]; omega
        have hpD : (p : Int) ≤ (D : Int) := by omega
        have hIz : ((I : Int) == 0) = false := by simp; omega
        have hXX : Hid (T ≤ j → ∃ X : Nat, ((D : Int) - (p : Int)) * (G : Int) = (X : Int) ∧ (Z : Int) * (I : Int) = (X : Int) ∧ X ≤ 4000000000000) := Lib.hid (fun hTj => ⟨Z * I, by
          have e := hX hTj
          have e' : (((D - p) * G : Nat) : Int) = ((Z * I : Nat) : Int) := by rw [e]
          rw [Int.natCast_mul, Int.ofNat_sub (by omega)] at e'
          exact e', by rw [Int.natCast_mul], Nat.mul_le_mul hZ1 hI2⟩)
        have HJ := Lib.hid hj
        clear hj hV hX hsent hstd hy hy' hq hqj hL hF' hRT hD hfl hMN HS hS' hfit hjk hFI
        go_wp2_with fail
        refine (HR.out.sack HY.out NM.out NZ.out HQF.out).mono ?_
        rintro e w3 ⟨⟨_, rfl⟩, r3⟩
        have R3 := Lib.hid r3
        clear r3 HR c0 c1 c2 c3 c4 HY HQF NZ
        go_wp2_with fail
        refine (R3.out.stake ⟨HV.out, rfl⟩ NM.out).mono ?_
        rintro e w4 ⟨rfl, r4⟩
        have R5 := Lib.hid (r4.alloc (.cells #[.int .u64 (M : Int), .int .u64 (D : Int), .int .u64 (p : Int), .int .u64 (I : Int), .int .u64 (RT : Int), .int .u64 (Z : Int), .int .u64 0, .int .u64 (F' : Int), .bool false] 38))
        clear r4 R3 HV
        have hZZ : ((Z : Int) != (Z : Int)) = false := by simp
        have hRR : ((RT : Int) != (RT : Int)) = false := by simp
        have hDp : ¬ (D : Int) < (p : Int) := by omega
        by_cases h2 : 2 * T ≤ k
        · have h2I : 2 * (T : Int) ≤ (k : Int) := by omega
          obtain ⟨X, hX1, hX2, hX3⟩ := hXX.out (by have := HJ.out; omega)
          have hXe : ((X : Int) != (X : Int)) = false := by simp
          clear hXX
          go_wp2_with fail
          refine (R5.out.ssent HSN.out NM.out).mono ?_
          rintro e w6 ⟨rfl, r6⟩
          have R6 := Lib.hid (r6.alloc (.cells #[.int .u64 q.t, .int .u64 q.d, .int .u64 q.u, .int .u64 q.f, .bool q.l] 32))
          clear r6 R5
          obtain ⟨i0, hi, hz0, hz1, hz2⟩ := Try.partsSnt
          have HI := Lib.hid hi; have HZ0 := Lib.hid hz0; have HZ1 := Lib.hid hz1; have HZ2 := Lib.hid hz2; clear hi hz0 hz1 hz2
          go_wp2_with (at_builtin; refine wpList_append_rows rfl _ _ 30 rfl 32 i0 _ 5 40 Try.underlying30 HI.out HZ0.out HZ1.out HZ2.out rfl (by decide) _ L.length (flatS L) rfl R6.out.get1 (some ⟨w6.heap.size, 0, none⟩) 1 1 (cells5 q) rfl rfl (fun h => (by cases h)) (row_news w6 (cells5 q) 32) (one_cells5 _) (by unfold maxLen; omega) (by omega) ?_; intro v' w7 hown hk7 hnew7 _; have R7 := Lib.hid (R6.out.step1 (t' := sntsT v' (L ++ [q])) (snts_more hown) hk7 hnew7); clear hown hk7 hnew7)
          go_roundw
          case rel => exact ⟨k + 1, y', by omega, by go_num, congrArg (Value.int .u64) HFL.out, HST.out, by rw [← HLM.out]; exact R7.out⟩
          case measure => simp [intOf]; omega
        · have h2I : ¬ 2 * (T : Int) ≤ (k : Int) := by omega
          clear hXX
          go_wp2_with fail
          refine (R5.out.ssent HSN.out NM.out).mono ?_
          rintro e w6 ⟨rfl, r6⟩
          have R6 := Lib.hid (r6.alloc (.cells #[.int .u64 q.t, .int .u64 q.d, .int .u64 q.u, .int .u64 q.f, .bool q.l] 32))
          clear r6 R5
          obtain ⟨i0, hi, hz0, hz1, hz2⟩ := Try.partsSnt
          have HI := Lib.hid hi; have HZ0 := Lib.hid hz0; have HZ1 := Lib.hid hz1; have HZ2 := Lib.hid hz2; clear hi hz0 hz1 hz2
          go_wp2_with (at_builtin; refine wpList_append_rows rfl _ _ 30 rfl 32 i0 _ 5 40 Try.underlying30 HI.out HZ0.out HZ1.out HZ2.out rfl (by decide) _ L.length (flatS L) rfl R6.out.get1 (some ⟨w6.heap.size, 0, none⟩) 1 1 (cells5 q) rfl rfl (fun h => (by cases h)) (row_news w6 (cells5 q) 32) (one_cells5 _) (by unfold maxLen; omega) (by omega) ?_; intro v' w7 hown hk7 hnew7 _; have R7 := Lib.hid (R6.out.step1 (t' := sntsT v' (L ++ [q])) (snts_more hown) hk7 hnew7); clear hown hk7 hnew7)
          go_roundw
          case rel => exact ⟨k + 1, y', by omega, by go_num, congrArg (Value.int .u64) HFL.out, HST.out, by rw [← HLM.out]; exact R7.out⟩
          case measure => simp [intOf]; omega
      · have hkt : ¬ (T : Int) ≤ (k : Int) := by omega
        obtain ⟨F, hF⟩ : ∃ F : Nat, F = k * Z := ⟨_, rfl⟩
        have hfl : fly T Z k = F := by unfold fly; rw [if_pos (by omega), hF]
        have hFb : F ≤ 4000000 := by subst hF; exact Nat.mul_le_mul (show k ≤ 40 by omega) hZ1
        have HFL : Hid ((F : Int) + (Z : Int) = ((fly T Z (k + 1) : Nat) : Int)) := Lib.hid (by
          unfold fly; rw [if_pos (by omega), Nat.succ_mul, ← hF]; omega)
        have hlow := std_low HS.out hZ0 (by omega)
        rw [← hMN, ← hF, hq] at hlow
        obtain ⟨y', hy'⟩ : ∃ y', sentS x (M : Int) (F : Int) = y' := ⟨_, rfl⟩
        rw [hy'] at hlow
        have HSN : Hid (sentV x (M : Int) (F : Int) = q ∧ sentS x (M : Int) (F : Int) = y') := Lib.hid ⟨hlow.1, hy'⟩
        have HST := Lib.hid hlow.2
        rw [hfl]
        rw [hL] at HR HLM HLL
        rw [hq] at HLM
        clear hlow hy' hq hL hF hfl hMN HS
        go_wp2_with fail
        have R5 := HR
        refine (R5.out.ssent HSN.out NM.out).mono ?_
        rintro e w6 ⟨rfl, r6⟩
        have R6 := Lib.hid (r6.alloc (.cells #[.int .u64 q.t, .int .u64 q.d, .int .u64 q.u, .int .u64 q.f, .bool q.l] 32))
        clear r6 R5
        obtain ⟨i0, hi, hz0, hz1, hz2⟩ := Try.partsSnt
        have HI := Lib.hid hi; have HZ0 := Lib.hid hz0; have HZ1 := Lib.hid hz1; have HZ2 := Lib.hid hz2; clear hi hz0 hz1 hz2
        go_wp2_with (at_builtin; refine wpList_append_rows rfl _ _ 30 rfl 32 i0 _ 5 40 Try.underlying30 HI.out HZ0.out HZ1.out HZ2.out rfl (by decide) _ L.length (flatS L) rfl R6.out.get1 (some ⟨w6.heap.size, 0, none⟩) 1 1 (cells5 q) rfl rfl (fun h => (by cases h)) (row_news w6 (cells5 q) 32) (one_cells5 _) (by unfold maxLen; omega) (by omega) ?_; intro v' w7 hown hk7 hnew7 _; have R7 := Lib.hid (R6.out.step1 (t' := sntsT v' (L ++ [q])) (snts_more hown) hk7 hnew7); clear hown hk7 hnew7)
        go_roundw
        case rel => exact ⟨k + 1, y', by omega, by go_num, congrArg (Value.int .u64) HFL.out, HST.out, by rw [← HLM.out]; exact R7.out⟩
        case measure => simp [intOf]; omega
    · obtain rfl : k = N + T := by omega
      have hi1 : ¬ ((N + T : Nat) : Int) < (N : Int) + (T : Int) := by omega
      go_wp2
      go_ret
      exact ⟨rfl, HR.out.bel⟩

set_option maxRecDepth 100000 in
theorem lifted (os : Os) (started : os.Started) (H : Type) (enc : TypeId × Value → H) :
    ReturnsInHanded {} Try.checked os 4 .any (Rows.samplerSteadySpec.pre6 enc Try.prog Try.f4 Rows.samplerSteadyRow.domain false) (Rows.samplerSteadySpec.post enc Try.prog Try.f4 false true false false) := by
  refine returnsInHanded_of_change (C := Try.checked) own started (by kernel_rfl) Try.func4
    (ChangeSpec.witness6 (enc := enc) (C := Try.checked) false ⟨#[], #[.int .u64 0, .int .u64 0, .int .i64 0, .int .i64 0], []⟩ 8 (by kernel_rfl) (by kernel_rfl) (by kernel_rfl) (by kernel_rfl)) ?_
  intro W base args ds gs before hval0 hW hcnd _
  have hval : ∀ (j : Nat) t v, Try.f4.params[j]? = some t → args[j]? = some v → Value.okWide Try.prog W .any base t v := hval0
  have hW' := hW
  obtain ⟨p, q, hA0, hV, rfl, hfz, hnd⟩ := hW
  have hA : DataW.TrodAll enc Try.prog W 0 (fun _ => true) true Try.f4.params.toList args.toList ds p := hA0
  rw [Try.params4] at hA hval
  obtain ⟨v0, vs0, d0, ds0, p0, q0, hargs, rfl, rfl, h0, r0⟩ := trodAll_cons hA
  obtain ⟨v1, vs1, d1, ds1, p1, q1, rfl, rfl, rfl, h1, r1⟩ := trodAll_cons r0
  obtain ⟨v2, vs2, d2, ds2, p2, q2, rfl, rfl, rfl, h2, r2⟩ := trodAll_cons r1
  obtain ⟨v3, vs3, d3, ds3, p3, q3, rfl, rfl, rfl, h3, r3⟩ := trodAll_cons r2
  obtain ⟨rfl, rfl, rfl⟩ := trodAll_nil r3
  obtain rfl : args = #[v0, v1, v2, v3] := by cases args; simp_all
  obtain ⟨rfl, rfl⟩ := trodVars_none hV
  obtain ⟨a0, rfl, rfl, rfl, w0⟩ := open_int Try.underlying26 (hval 0 26 v0 rfl rfl) h0
  obtain ⟨a1, rfl, rfl, rfl, w1⟩ := open_int Try.underlying26 (hval 1 26 v1 rfl rfl) h1
  obtain ⟨a2, rfl, rfl, rfl, w2⟩ := open_int Try.underlying3 (hval 2 3 v2 rfl rfl) h2
  obtain ⟨a3, rfl, rfl, rfl, w3⟩ := open_int Try.underlying3 (hval 3 3 v3 rfl rfl) h3
  clear hA0 hval0
  simp only [List.append_nil] at hW'
  refine (walk a0 a1 a2 a3 w0 w1 w2 w3 W).mono fun e W' ⟨he, hg⟩ => ?_
  subst he
  exact ⟨_, rfl, _, _, _, [], _, [], hW', trodAll_mk1 (shut_bool Try.underlying4 _), (trodAll_cons_mk (shut_int Try.underlying26 w0) (trodAll_cons_mk (shut_int Try.underlying26 w1) (trodAll_cons_mk (shut_int Try.underlying3 w2) (trodAll_cons_mk (shut_int Try.underlying3 w3) trodAll_mk0)))), rfl, hg.frame _, fun h => by cases h⟩

theorem over : Rows.samplerSteadyRow.holds Try.pinned (OpenSpec.ofChange Rows.samplerSteadySpec) :=
  OpenClaim.holds_of_wide 4 Try.f4 rfl rfl rfl rfl rfl rfl rfl ⟨rfl, rfl, rfl, rfl, rfl⟩ rfl rfl rfl rfl rfl (by kernel_rfl) Try.func4 (by kernel_rfl)
    (of_decide_eq_true (by kernel_rfl)) (by unfold Func.isWrapper; first | (rw [if_pos (by decide +kernel)]; kernel_rfl) | (rw [if_neg (by decide +kernel)]; exact ⟨rfl, rfl⟩))
    (fun os started H enc _ => lifted os started H enc)

theorem proved : Rows.SamplerSteadySaid :=
  over
end Go.Proofs.Ytiilbdmldonipaa.samplerSteady
namespace Go.Proofs.Ytiilbdmldonipaa
theorem samplerSteady_holds : Rows.SamplerSteadySaid := samplerSteady.proved
#print axioms samplerSteady_holds
end Go.Proofs.Ytiilbdmldonipaa
