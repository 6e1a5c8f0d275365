/-
  Proved: canterlaw05.TreeNil answers true at every key, and leaves its argument as it was. Conditions: none.
-/
import Derived.Test.YtnbfleocnpgmlaaRows
import Derived.WalkKit
import Derived.ProofKit
import Derived.OpenShut
import Derived.ShutString
import Derived.Below
import Derived.Test.YtnbfleocnpgmlaaSit
namespace Go.Proofs.Ytnbfleocnpgmlaa.treeNil
open Go.ChangeShapes Go.WideShapes Go.ChangeAt Go.RowKit
set_option linter.unusedVariables false

theorem own : ownKnob Try.prog.godebug = none := by kernel_rfl
theorem laidOut : laidOutB Try.prog = true := by kernel_rfl

theorem ins_full (k : Key) : insE 0 [] k = 5 ∧ insS 0 [] k = [] := by unfold insE insS; simp
theorem del_empty (k : Key) : delE [] k = 7 ∧ delS [] k = [] := by unfold delE delS; simp

set_option maxHeartbeats 4000000 in
set_option maxRecDepth 100000 in
theorem walk (a0 : Key) (w : World)  :
    Calls Try.prog 6 #[kv a0] w fun e w' => e = .returned (.bool true) ∧ Below w.heap.size w w' := by
  obtain ⟨aa, ab⟩ := a0
  simp only [kv]
  have W0 := Whole.new w 25 #[.int .u64 aa, .int .u64 ab]
  have B0 : Hid (Below w.heap.size w (w.alloc (.cells #[.int .u64 aa, .int .u64 ab] 25))) := Lib.hid (((Keep.refl (fun _ => False) w).alloc _).below (Nat.le_refl _) (fun _ h => h.elim))
  go_enter Try.func6, Try.ntmps6
  go_wp2_with fail
  generalize w.alloc (.cells #[.int .u64 aa, .int .u64 ab] 25) = w1 at *
  refine (tmin_nil w1).mono ?_
  rintro e w2 ⟨rfl, k2⟩
  have W2 := (W0.keep k2 (fun h => h)).alloc (.cells #[.int .u64 0, .int .u64 0] 25)
  have B2 : Hid (Below w.heap.size w (w2.alloc (.cells #[.int .u64 0, .int .u64 0] 25))) := Lib.hid (B0.out.trans ((k2.alloc _).below (B0.out.size) (fun _ h => h.elim)))
  clear k2 W0 B0
  simp only [kv]
  have c0 := W2.cell 0; have c1 := W2.cell 1
  go_wp2_with fail
  generalize w2.alloc (.cells #[.int .u64 0, .int .u64 0] 25) = w3 at *
  refine (tnext_nil ⟨aa, ab⟩ w3).mono ?_
  rintro e w4 ⟨rfl, k4⟩
  have W4 := (W2.keep k4 (fun h => h)).alloc (.cells #[.int .u64 0, .int .u64 0] 25)
  have B4 : Hid (Below w.heap.size w (w4.alloc (.cells #[.int .u64 0, .int .u64 0] 25))) := Lib.hid (B2.out.trans ((k4.alloc _).below (B2.out.size) (fun _ h => h.elim)))
  clear k4 W2 B2 c0 c1
  simp only [kv]
  go_wp2_with fail
  generalize w4.alloc (.cells #[.int .u64 0, .int .u64 0] 25) = wB at *
  refine (Sit.new (N := 0) rfl wB).mono ?_
  rintro e w5 ⟨g, S5, rfl, h5, _⟩
  have H5 := Lib.hid h5; clear h5
  go_wp2_with fail
  refine (H5.out.min (k := ⟨0, 0⟩) (c := false) ⟨rfl, rfl⟩).mono ?_
  rintro e w6 ⟨rfl, h6, _⟩
  have H6 := Lib.hid (h6.alloc (.cells #[.int .u64 0, .int .u64 0] 25)); clear h6 H5
  simp only [kv]
  go_wp2_with fail
  generalize w6.alloc (.cells #[.int .u64 0, .int .u64 0] 25) = w7 at *
  refine H6.out.awake.mono ?_
  rintro e w8 ⟨rfl, h8, _⟩
  have H8 := Lib.hid h8; clear h8 H6
  have c0 := (H8.out.whole W4).cell 0; have c1 := (H8.out.whole W4).cell 1
  go_wp2_with fail
  refine (tins_nil ⟨aa, ab⟩ w8).mono ?_
  rintro e w9 ⟨rfl, k9⟩
  have H9 := Lib.hid (H8.out.kept k9); clear k9 H8 c0 c1
  have c0 := (H9.out.whole W4).cell 0; have c1 := (H9.out.whole W4).cell 1
  go_wp2_with fail
  refine (tdel_nil ⟨aa, ab⟩ w9).mono ?_
  rintro e w10 ⟨rfl, k10⟩
  have H10 := Lib.hid (H9.out.kept k10); clear k10 H9 c0 c1
  have c0 := (H10.out.whole W4).cell 0; have c1 := (H10.out.whole W4).cell 1
  go_wp2_with fail
  refine (thas_nil ⟨aa, ab⟩ w10).mono ?_
  rintro e w11 ⟨rfl, k11⟩
  have H11 := Lib.hid (H10.out.kept k11); clear k11 H10 c0 c1
  go_wp2_with fail
  refine (tlen_nil w11).mono ?_
  rintro e w' ⟨rfl, rfl⟩
  go_wp2_with fail
  refine (theight_nil _).mono ?_
  rintro e w' ⟨rfl, rfl⟩
  go_wp2_with fail
  refine (tall_any none _).mono ?_
  rintro e w12 ⟨rfl, hw12⟩
  have HB12 := Lib.hid (hw12 ▸ Boxed.new w' 26 (.pointer none) : Boxed w12 w'.heap.size 26 (.pointer none))
  have H12 := Lib.hid (hw12 ▸ H11.out.alloc (.cells #[.pointer none] 26) : Sit wB w12 S5 g 0 [])
  clear hw12 H11
  go_wp2_with fail
  refine (hallk_nil _ 3 w12 HB12.out).mono ?_
  rintro e w13 ⟨rfl, k13⟩
  have H13 := Lib.hid (H12.out.kept k13); clear k13 H12 HB12
  have c0 := (H13.out.whole W4).cell 0; have c1 := (H13.out.whole W4).cell 1
  go_wp2_with fail
  refine (H13.out.ins (ins_full ⟨aa, ab⟩)).mono ?_
  rintro e w14 ⟨rfl, S14, h14, _⟩
  have H14 := Lib.hid h14; clear h14 H13 c0 c1
  have c0 := (H14.out.whole W4).cell 0; have c1 := (H14.out.whole W4).cell 1
  go_wp2_with fail
  refine (H14.out.del (del_empty ⟨aa, ab⟩)).mono ?_
  rintro e w15 ⟨rfl, S15, h15, _⟩
  have H15 := Lib.hid h15; clear h15 H14 c0 c1
  go_wp2_with fail
  refine (theight_any _ H15.out.tree).mono ?_
  rintro e w16 ⟨x, rfl, hx, hx2, k16⟩
  have H16 := Lib.hid (H15.out.kept k16); clear k16
  obtain rfl : x = 0 := by have h0 : ¬ (0 < x) := fun h => by have := hx2.1 h; simp at this
                           omega
  clear hx hx2
  go_wp2
  go_ret
  exact ⟨rfl, B4.out.trans (H16.out.bel.mono B4.out.size)⟩

set_option maxRecDepth 100000 in
theorem lifted (os : Os) (started : os.Started) (H : Type) (enc : TypeId × Value → H) :
    ReturnsInHanded {} Try.checked os 6 .any (Rows.treeNilSpec.pre6 enc Try.prog Try.f6 Rows.treeNilRow.domain false) (Rows.treeNilSpec.post enc Try.prog Try.f6 false true false false) := by
  refine returnsInHanded_of_change (C := Try.checked) own started (by kernel_rfl) Try.func6
    (ChangeSpec.witness6 (enc := enc) (C := Try.checked) false ⟨#[], #[.agg #[.int .u64 0, .int .u64 0]], []⟩ 8 (by kernel_rfl) (by kernel_rfl) (by kernel_rfl) (by kernel_rfl)) ?_
  intro W base args ds gs before hval0 hW hcnd _
  have hval : ∀ (j : Nat) t v, Try.f6.params[j]? = some t → args[j]? = some v → Value.okWide Try.prog W .any base t v := hval0
  have hW' := hW
  obtain ⟨p, q, hA0, hV, rfl, hfz, hnd⟩ := hW
  have hA : DataW.TrodAll enc Try.prog W 0 (fun _ => true) true Try.f6.params.toList args.toList ds p := hA0
  rw [Try.params6] at hA hval
  obtain ⟨v0, vs0, d0, ds0, p0, q0, hargs, rfl, rfl, h0, r0'⟩ := trodAll_cons hA
  obtain ⟨rfl, rfl, rfl⟩ := trodAll_nil r0'
  obtain rfl : args = #[v0] := by cases args; simp_all
  obtain ⟨rfl, rfl⟩ := trodVars_none hV
  have k0 := h0
  have lt0 : ∀ x ∈ p0, x.block < W.heap.size := by obtain ⟨m, hm⟩ := k0; exact DataW.trod_lt m _ _ _ hm
  obtain ⟨a0, rfl⟩ := open_key (hval 0 25 v0 rfl rfl) h0
  clear hA0 hval0
  refine (walk a0 W ).mono fun e W' ⟨he, bel⟩ => ?_
  subst he
  exact ⟨_, rfl, _, _, _, [], _, [], hW', trodAll_mk1 (shut_bool Try.underlying4 _), (trodAll_cons_mk (Below.trod laidOut (by kernel_rfl) (of_decide_eq_true (by kernel_rfl)) k0 bel lt0) trodAll_mk0), rfl, bel.frame _, fun h => by cases h⟩

theorem over : Rows.treeNilRow.holds Try.pinned (OpenSpec.ofChange Rows.treeNilSpec) :=
  OpenClaim.holds_of_wide 6 Try.f6 rfl rfl rfl rfl rfl rfl rfl ⟨rfl, rfl, rfl, rfl, rfl⟩ rfl rfl rfl rfl rfl (by kernel_rfl) Try.func6 (by kernel_rfl)
    (of_decide_eq_true (by kernel_rfl)) (by unfold Func.isWrapper; first | (rw [if_pos (by decide +kernel)]; kernel_rfl) | (rw [if_neg (by decide +kernel)]; exact ⟨rfl, rfl⟩))
    (fun os started H enc _ => lifted os started H enc)

theorem proved : Rows.TreeNilSaid := over
end Go.Proofs.Ytnbfleocnpgmlaa.treeNil
namespace Go.Proofs.Ytnbfleocnpgmlaa
theorem treeNil_holds : Rows.TreeNilSaid := treeNil.proved
#print axioms treeNil_holds
end Go.Proofs.Ytnbfleocnpgmlaa
