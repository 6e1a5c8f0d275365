/-
  Proved: canterlaw10.SamplerLimited answers true at every number, and leaves its argument as it was. Conditions: none.
-/
import Derived.Test.YtiilbdmldonipaaRows
import Derived.WalkKit
import Derived.ProofKit
import Derived.OpenShut
import Derived.ShutString
import Derived.Test.YtiilbdmldonipaaSamRoom
namespace Go.Proofs.Ytiilbdmldonipaa.samplerLimited
open Go.ChangeShapes Go.WideShapes Go.ChangeAt Go.RowKit
open Go.ChangeMaps (open_string shut_string)
set_option linter.unusedVariables false

theorem own : ownKnob Try.prog.godebug = none := by kernel_rfl

section
variable {Z : Int}
theorem lim1 (h : 1 ≤ Z) (h' : Z ≤ 1000) : limS newS Z = ⟨0, 0, 0, Z, 0, false, 0, 0, false, 0, 0⟩ := by
  have e : topI (satAdd 0 Z) 1 = Z := by
    rw [satAdd_le (by omega)]; unfold topI; split <;> omega
  show (⟨0, 0, 0, topI (satAdd 0 Z) 1, 0, false, 0, 0, false, 0, 0⟩ : Smp) = _
  rw [e]
theorem lim2 (h : 1 ≤ Z) : sentV ⟨0, 0, 0, Z, 0, false, 0, 0, false, 0, 0⟩ 1 Z = ⟨1, 0, 0, 0, true⟩ ∧ sentS ⟨0, 0, 0, Z, 0, false, 0, 0, false, 0, 0⟩ 1 Z = ⟨0, 0, 0, Z, 0, false, 0, 0, false, 0, 0⟩ := by
  have e : (Z != 0) = true := by simp; omega
  refine ⟨(if_neg (by omega)).trans ?_, if_neg (by omega)⟩
  show (⟨1, 0, 0, 0, Z != 0⟩ : Snt) = _
  rw [e]
theorem lim3 (h : 1 ≤ Z) (h' : Z ≤ 1000) : ackS ⟨0, 0, 0, Z, 0, false, 0, 0, false, 0, 0⟩ 2 Z ⟨0, 0, 0, 0, false⟩ = ⟨Z, 2, 0, Z, Z, true, 0, 0, false, 0, 2⟩ := by
  have e : satAdd 0 Z = Z := (satAdd_le (by omega)).trans (by omega)
  have m : markS ⟨0, 0, 0, Z, 0, false, 0, 0, false, 0, 0⟩ Z = Z := by show (if Z < satAdd 0 Z then 0 else Z) = Z; rw [e]; exact if_neg (by omega)
  refine (if_pos (.inl rfl)).trans ?_
  rw [m]
  show (⟨satAdd 0 Z, 2, 0, Z, satAdd 0 Z, true, 0, 0, false, satSub 0 0, satSub 2 0⟩ : Smp) = _
  rw [e]
  rfl
theorem lim4 (h : 1 ≤ Z) : sentV ⟨Z, 2, 0, Z, Z, true, 0, 0, false, 0, 2⟩ 2 Z = ⟨2, Z, 2, 0, true⟩ ∧ sentS ⟨Z, 2, 0, Z, Z, true, 0, 0, false, 0, 2⟩ 2 Z = ⟨Z, 2, 0, Z, Z, true, 0, 0, false, 0, 2⟩ := by
  have e : (Z != 0) = true := by simp; omega
  refine ⟨(if_neg (by omega)).trans ?_, if_neg (by omega)⟩
  show (⟨2, Z, 2, 0, Z != 0⟩ : Snt) = _
  rw [e]
theorem lim5 (h : 1 ≤ Z) (h' : Z ≤ 1000) : ackS ⟨Z, 2, 0, Z, Z, true, 0, 0, false, 0, 2⟩ 3 Z ⟨1, 0, 0, 0, true⟩ = ⟨Z + Z, 3, 1, 0, Z + Z, true, 0, 0, true, 1, 2⟩ := by
  have e : satAdd Z Z = Z + Z := satAdd_le (by omega)
  have m : markS ⟨Z, 2, 0, Z, Z, true, 0, 0, false, 0, 2⟩ Z = 0 := by show (if Z < satAdd Z Z then 0 else Z) = 0; rw [e]; exact if_pos (by omega)
  refine (if_pos (.inr (Int.le_refl _))).trans ?_
  rw [m]
  show (⟨satAdd Z Z, 3, 1, 0, satAdd Z Z, true, 0, 0, true, satSub 1 0, satSub 3 1⟩ : Smp) = _
  rw [e]
  rfl
theorem lim6 (h : 1 ≤ Z) : sentV ⟨Z + Z, 3, 1, 0, Z + Z, true, 0, 0, true, 1, 2⟩ 3 Z = ⟨3, Z + Z, 3, 1, false⟩ ∧ sentS ⟨Z + Z, 3, 1, 0, Z + Z, true, 0, 0, true, 1, 2⟩ 3 Z = ⟨Z + Z, 3, 1, 0, Z + Z, true, 0, 0, true, 1, 2⟩ := ⟨if_neg (by omega), if_neg (by omega)⟩
end

set_option maxHeartbeats 2000000 in
set_option maxRecDepth 100000 in
theorem walk (a0 : Int) (w0 : (Lit.int .u64 a0).wf = true) (w : World) :
    Calls Try.prog 5 #[.int .u64 a0] w fun e w' => e = .returned (.bool true) ∧ Below w.heap.size w w' := by
  have b0 := bounds_u64 w0
  clear w0
  go_enter Try.func5, Try.ntmps5
  go_wp2_with fail
  obtain ⟨Z, hZ⟩ : ∃ Z, 1 + a0 % 1000 = Z := ⟨_, rfl⟩
  have hZ0 : 1 ≤ Z := by omega
  have hZ1 : Z ≤ 1000 := by omega
  have NZ : Hid (Num Z) := Lib.hid ⟨by omega, by omega⟩
  rw [hZ]
  clear hZ b0
  refine ((Room.begin w).snew).mono ?_
  rintro e w1 ⟨rfl, r1⟩
  have R1 := Lib.hid r1; clear r1
  generalize w.heap.size = g at *
  go_wp2_with fail
  refine R1.out.awakes.mono ?_
  rintro e w2 ⟨rfl, r2⟩
  have R2 := Lib.hid r2; clear r2 R1
  go_wp2_with fail
  refine (R2.out.ssent aws1 num0).mono ?_
  rintro e w3 ⟨rfl, r3⟩
  have R3 := Lib.hid (r3.box1 32 #[.int .u64 0, .int .u64 0, .int .u64 0, .int .u64 0, .bool false]); clear r3 R2
  go_wp2_with fail
  refine (R3.out.slim (lim1 hZ0 hZ1) NZ.out).mono ?_
  rintro e w4 ⟨⟨_, rfl⟩, r4⟩
  have R4 := Lib.hid r4; clear r4 R3
  generalize w3.heap.size = bA at *
  go_wp2_with fail
  refine (R4.out.ssent (lim2 hZ0) (num_lit (a := 1) (by decide))).mono ?_
  rintro e w5 ⟨rfl, r5⟩
  have R5 := Lib.hid (r5.box1 32 #[.int .u64 1, .int .u64 0, .int .u64 0, .int .u64 0, .bool true]); clear r5 R4
  have WA : Hid (Whole (w5.alloc (.cells #[.int .u64 1, .int .u64 0, .int .u64 0, .int .u64 0, .bool true] 32)) bA 32 #[.int .u64 0, .int .u64 0, .int .u64 0, .int .u64 0, .bool false]) := Lib.hid R5.out.get2
  have c0 := WA.out.cell 0; have c1 := WA.out.cell 1; have c2 := WA.out.cell 2; have c3 := WA.out.cell 3; have c4 := WA.out.cell 4
  simp only [List.getElem?_toArray, List.getElem?_cons_succ, List.getElem?_cons_zero] at c0 c1 c2 c3 c4
  go_upto_region 9 with fail
  generalize hw : World.alloc w5 _ = w6 at *
  generalize w5.heap.size = bB at *
  clear hw
  go_wp2_with fail
  refine (R5.out.sack (z := ⟨0, 0, 0, 0, false⟩) (lim3 hZ0 hZ1) (num_lit (a := 2) (by decide)) NZ.out ⟨num0, num0, num0, num0⟩).mono ?_
  rintro e w7 ⟨⟨_, rfl⟩, r7⟩
  have R7 := Lib.hid r7; clear r7 R5 WA c0 c1 c2 c3 c4
  go_wp2_with fail
  refine (R7.out.ssent (lim4 hZ0) (num_lit (a := 2) (by decide))).mono ?_
  rintro e w8 ⟨rfl, r8⟩
  have R8 := Lib.hid (r8.box1 32 #[.int .u64 2, .int .u64 Z, .int .u64 2, .int .u64 0, .bool true]); clear r8 R7
  go_upto_region 11 with fail
  generalize hw : World.alloc w8 _ = w9 at *
  generalize w8.heap.size = bC at *
  clear hw
  have WB : Hid (Whole w9 bB 32 #[.int .u64 1, .int .u64 0, .int .u64 0, .int .u64 0, .bool true]) := Lib.hid R8.out.get2
  have c0 := WB.out.cell 0; have c1 := WB.out.cell 1; have c2 := WB.out.cell 2; have c3 := WB.out.cell 3; have c4 := WB.out.cell 4
  simp only [List.getElem?_toArray, List.getElem?_cons_succ, List.getElem?_cons_zero] at c0 c1 c2 c3 c4
  go_wp2_with fail
  refine (R8.out.sack (z := ⟨1, 0, 0, 0, true⟩) (lim5 hZ0 hZ1) (num_lit (a := 3) (by decide)) NZ.out ⟨num_lit (a := 1) (by decide), num0, num0, num0⟩).mono ?_
  rintro e w10 ⟨⟨_, rfl⟩, r10⟩
  have R10 := Lib.hid r10; clear r10 R8 WB c0 c1 c2 c3 c4
  go_wp2_with fail
  refine (R10.out.ssent (lim6 hZ0) (num_lit (a := 3) (by decide))).mono ?_
  rintro e w11 ⟨rfl, r11⟩
  have R11 := Lib.hid (r11.box1 32 #[.int .u64 3, .int .u64 (Z + Z), .int .u64 3, .int .u64 1, .bool false]); clear r11 R10
  go_upto_region 14 with fail
  generalize hw : World.alloc w11 _ = w12 at *
  generalize w11.heap.size = bD at *
  clear hw
  have WA : Hid (Whole w12 bA 32 #[.int .u64 0, .int .u64 0, .int .u64 0, .int .u64 0, .bool false]) := Lib.hid (R11.out.get (t := blkT bA 32 #[.int .u64 0, .int .u64 0, .int .u64 0, .int .u64 0, .bool false]) (by simp))
  have c0 := WA.out.cell 0; have c1 := WA.out.cell 1; have c2 := WA.out.cell 2; have c3 := WA.out.cell 3; have c4 := WA.out.cell 4
  simp only [List.getElem?_toArray, List.getElem?_cons_succ, List.getElem?_cons_zero] at c0 c1 c2 c3 c4
  go_wp2_with fail
  refine (sack_nil 1 Z ⟨0, 0, 0, 0, false⟩ _).mono ?_
  rintro e w13 ⟨⟨_, rfl⟩, k13⟩
  have R13 := Lib.hid (R11.out.kept k13); clear k13 R11 WA c0 c1 c2 c3 c4
  go_wp2_with fail
  refine (slim_nil 1 _).mono ?_
  rintro e w14 ⟨⟨_, rfl⟩, rfl⟩
  have cA : w13.cell? ⟨bA, 4, none⟩ = some (.bool false) := Whole.cell (R13.out.get (t := blkT bA 32 #[.int .u64 0, .int .u64 0, .int .u64 0, .int .u64 0, .bool false]) (by simp)) 4
  have cB : w13.cell? ⟨bB, 4, none⟩ = some (.bool true) := Whole.cell (R13.out.get (t := blkT bB 32 #[.int .u64 1, .int .u64 0, .int .u64 0, .int .u64 0, .bool true]) (by simp)) 4
  have cC : w13.cell? ⟨bC, 4, none⟩ = some (.bool true) := Whole.cell (R13.out.get (t := blkT bC 32 #[.int .u64 2, .int .u64 Z, .int .u64 2, .int .u64 0, .bool true]) (by simp)) 4
  have cD : w13.cell? ⟨bD, 4, none⟩ = some (.bool false) := Whole.cell (R13.out.get (t := blkT bD 32 #[.int .u64 3, .int .u64 (Z + Z), .int .u64 3, .int .u64 1, .bool false]) (by simp)) 4
  have B13 := Lib.hid R13.out.bel
  clear R13
  go_wp2_with fail
  refine (sdel_nil _).mono ?_
  rintro e w14 ⟨rfl, rfl⟩
  go_wp2_with fail
  refine (ssent_nil 1 1 _).mono ?_
  rintro e w14 ⟨rfl, k14⟩
  have K14 := Lib.hid (B13.out.trans (k14.below B13.out.size (fun _ h => h.elim))); clear k14
  go_wp2_with fail
  refine (stake_nil 1 1 1 _).mono ?_
  rintro e w15 ⟨rfl, k15⟩
  have K15 := Lib.hid (K14.out.trans (k15.below K14.out.size (fun _ h => h.elim))); clear k15
  go_wp2
  go_ret
  exact ⟨rfl, K15.out⟩

set_option maxRecDepth 100000 in
theorem lifted (os : Os) (started : os.Started) (H : Type) (enc : TypeId × Value → H) :
    ReturnsInHanded {} Try.checked os 5 .any (Rows.samplerLimitedSpec.pre6 enc Try.prog Try.f5 Rows.samplerLimitedRow.domain false) (Rows.samplerLimitedSpec.post enc Try.prog Try.f5 false true false false) := by
  refine returnsInHanded_of_change (C := Try.checked) own started (by kernel_rfl) Try.func5
    (ChangeSpec.witness6 (enc := enc) (C := Try.checked) false ⟨#[], #[.int .u64 0], []⟩ 8 (by kernel_rfl) (by kernel_rfl) (by kernel_rfl) (by kernel_rfl)) ?_
  intro W base args ds gs before hval0 hW hcnd _
  have hval : ∀ (j : Nat) t v, Try.f5.params[j]? = some t → args[j]? = some v → Value.okWide Try.prog W .any base t v := hval0
  have hW' := hW
  obtain ⟨p, q, hA0, hV, rfl, hfz, hnd⟩ := hW
  have hA : DataW.TrodAll enc Try.prog W 0 (fun _ => true) true Try.f5.params.toList args.toList ds p := hA0
  rw [Try.params5] at hA hval
  obtain ⟨v0, vs0, d0, ds0, p0, q0, hargs, rfl, rfl, h0, r0⟩ := trodAll_cons hA
  obtain ⟨rfl, rfl, rfl⟩ := trodAll_nil r0
  obtain rfl : args = #[v0] := by cases args; simp_all
  obtain ⟨rfl, rfl⟩ := trodVars_none hV
  obtain ⟨a0, rfl, rfl, rfl, w0⟩ := open_int Try.underlying26 (hval 0 26 v0 rfl rfl) h0
  clear hA0 hval0
  simp only [List.append_nil] at hW'
  refine (walk a0 w0 W).mono fun e W' ⟨he, hg⟩ => ?_
  subst he
  exact ⟨_, rfl, _, _, _, [], _, [], hW', trodAll_mk1 (shut_bool Try.underlying4 _), (trodAll_cons_mk (shut_int Try.underlying26 w0) trodAll_mk0), rfl, hg.frame _, fun h => by cases h⟩

theorem over : Rows.samplerLimitedRow.holds Try.pinned (OpenSpec.ofChange Rows.samplerLimitedSpec) :=
  OpenClaim.holds_of_wide 5 Try.f5 rfl rfl rfl rfl rfl rfl rfl ⟨rfl, rfl, rfl, rfl, rfl⟩ rfl rfl rfl rfl rfl (by kernel_rfl) Try.func5 (by kernel_rfl)
    (of_decide_eq_true (by kernel_rfl)) (by unfold Func.isWrapper; first | (rw [if_pos (by decide +kernel)]; kernel_rfl) | (rw [if_neg (by decide +kernel)]; exact ⟨rfl, rfl⟩))
    (fun os started H enc _ => lifted os started H enc)

theorem proved : Rows.SamplerLimitedSaid :=
  over
end Go.Proofs.Ytiilbdmldonipaa.samplerLimited
namespace Go.Proofs.Ytiilbdmldonipaa
theorem samplerLimited_holds : Rows.SamplerLimitedSaid := samplerLimited.proved
#print axioms samplerLimited_holds
end Go.Proofs.Ytiilbdmldonipaa
