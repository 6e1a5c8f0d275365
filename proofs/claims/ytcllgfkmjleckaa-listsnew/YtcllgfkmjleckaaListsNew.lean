/-
  Proved: canterlaw19.ListsNew answers true at every two numbers, and leaves its arguments as they were. Conditions: none.
-/
import Derived.Test.YtcllgfkmjleckaaRows
import Derived.WalkKit
import Derived.ProofKit
import Derived.OpenShut
import Derived.ShutString
import Derived.Test.YtcllgfkmjleckaaAwakeLs
namespace Go.Proofs.Ytcllgfkmjleckaa.listsNew
open Go.ChangeShapes Go.WideShapes Go.ChangeAt Go.RowKit
open Go.ChangeMaps (open_string shut_string)
set_option linter.unusedVariables false

theorem own : ownKnob Try.prog.godebug = none := by kernel_rfl

/-- a, a + 1, .. : k of them. -/
def up (a : Int) (k : Nat) : List Int := (List.range k).map fun (i : Nat) => a + (i : Int)
theorem one_more : ∀ k : Nat, k < 5 → (pushV [] (up 0 k) (k : Int) = 0 ∧ pushN [] (up 0 k) (k : Int) false = [] ∧ pushO [] (up 0 k) (k : Int) false = up 0 (k + 1)) := by decide
theorem one_new : ∀ o : Nat, o < 5 → ∀ k : Nat, k < 3 → (pushV (up 5 k) (up 0 o) (5 + (k : Int)) = 0 ∧ pushN (up 5 k) (up 0 o) (5 + (k : Int)) true = up 5 (k + 1) ∧ pushO (up 5 k) (up 0 o) (5 + (k : Int)) true = up 0 o) := by decide
theorem one_back1 : ∀ o : Nat, o < 5 → ∀ f : Nat, f < 4 → ∀ k : Nat, k < f → (headS (up (5 + (k : Int)) (f - k)) (up 0 o ++ up 5 k) = 5 + (k : Int) ∧ headF (up (5 + (k : Int)) (f - k)) (up 0 o ++ up 5 k) = true ∧ headB (up (5 + (k : Int)) (f - k)) (up 0 o ++ up 5 k) = true) := by decide
theorem one_back2 : ∀ o : Nat, o < 5 → ∀ f : Nat, f < 4 → ∀ k : Nat, k < f → (placeV (up (5 + (k : Int)) (f - k)) (up 0 o ++ up 5 k) (5 + (k : Int)) = 1 ∧ dropN (up (5 + (k : Int)) (f - k)) = up (5 + ((k + 1 : Nat) : Int)) (f - (k + 1))) := by decide
theorem one_back3 : ∀ o : Nat, o < 5 → ∀ f : Nat, f < 4 → ∀ k : Nat, k < f → (backO (up (5 + (k : Int)) (f - k)) (up 0 o ++ up 5 k) = up 0 o ++ up 5 (k + 1) ∧ placeV (up (5 + ((k + 1 : Nat) : Int)) (f - (k + 1))) (up 0 o ++ up 5 (k + 1)) (5 + (k : Int)) = 2) := by decide
theorem one_back (o : Nat) (ho : o < 5) (f : Nat) (hf : f < 4) (k : Nat) (hk : k < f) : (headS (up (5 + (k : Int)) (f - k)) (up 0 o ++ up 5 k) = 5 + (k : Int) ∧ headF (up (5 + (k : Int)) (f - k)) (up 0 o ++ up 5 k) = true ∧ headB (up (5 + (k : Int)) (f - k)) (up 0 o ++ up 5 k) = true) ∧ (placeV (up (5 + (k : Int)) (f - k)) (up 0 o ++ up 5 k) (5 + (k : Int)) = 1 ∧
    dropN (up (5 + (k : Int)) (f - k)) = up (5 + ((k + 1 : Nat) : Int)) (f - (k + 1)) ∧ backO (up (5 + (k : Int)) (f - k)) (up 0 o ++ up 5 k) = up 0 o ++ up 5 (k + 1) ∧ placeV (up (5 + ((k + 1 : Nat) : Int)) (f - (k + 1))) (up 0 o ++ up 5 (k + 1)) (5 + (k : Int)) = 2) :=
  ⟨one_back1 o ho f hf k hk, (one_back2 o ho f hf k hk).1, (one_back2 o ho f hf k hk).2, (one_back3 o ho f hf k hk).1, (one_back3 o ho f hf k hk).2⟩
theorem one_drop : ∀ o : Nat, o < 5 → ∀ f : Nat, f < 4 → ∀ k : Nat, k < o → ((headS [] (up (k : Int) (o - k) ++ up 5 f) = (k : Int) ∧ headF [] (up (k : Int) (o - k) ++ up 5 f) = false ∧ headB [] (up (k : Int) (o - k) ++ up 5 f) = true) ∧
    (dropO [] (up (k : Int) (o - k) ++ up 5 f) = up ((k + 1 : Nat) : Int) (o - (k + 1)) ++ up 5 f ∧ placeV [] (up ((k + 1 : Nat) : Int) (o - (k + 1)) ++ up 5 f) (k : Int) = 0)) := by decide
theorem one_last : ∀ f : Nat, f < 4 → 1 ≤ f → (headS [] (up 5 f) = 5 ∧ headF [] (up 5 f) = false ∧ headB [] (up 5 f) = true ∧ ((5 : Int) ∈ up 5 f) ∧ (5 : Int) ∉ (up 5 f).erase 5) := by decide

set_option maxHeartbeats 4000000 in
set_option maxRecDepth 100000 in
theorem walk (a0 : Int) (a1 : Int) (w0 : (Lit.int .i64 a0).wf = true) (w1 : (Lit.int .i64 a1).wf = true) (w : World) :
    Calls Try.prog 5 #[.int .i64 a0, .int .i64 a1] w fun e w' => e = .returned (.bool true) ∧ Below w.heap.size w w' := by
  clear w0 w1
  obtain ⟨u, hu⟩ : ∃ u : Nat, IntKind.u64.wrap a0 = (u : Int) := ⟨(IntKind.u64.wrap a0).toNat, by rw [IntKind.wrap_u64]; omega⟩
  obtain ⟨u', hu'⟩ : ∃ u : Nat, IntKind.u64.wrap a1 = (u : Int) := ⟨(IntKind.u64.wrap a1).toNat, by rw [IntKind.wrap_u64]; omega⟩
  have HR := Lib.hid (Room.begin w)
  go_enter Try.func5, Try.ntmps5
  go_wp2_with fail
  obtain ⟨o, ho⟩ : ∃ o : Nat, (u : Int) % 5 = (o : Int) := ⟨u % 5, by omega⟩
  obtain ⟨f, hf⟩ : ∃ f : Nat, 1 + (u' : Int) % 3 = (f : Int) := ⟨1 + u' % 3, by omega⟩
  have ho5 : o < 5 := by omega
  have hf4 : f < 4 := by omega
  have hf1 : 1 ≤ f := by omega
  rw [ho, hf]
  clear ho hf hu hu'
  refine HR.out.lsnew.mono ?_
  rintro e w1 ⟨rfl, h1⟩
  have R1 := Lib.hid h1; clear h1
  generalize hg : w.heap.size = g at *
  have HG := Lib.hid hg; clear hg
  go_wp2_with fail
  refine (awakels_any _).mono ?_
  rintro e w2 ⟨rfl, k2⟩
  have R2 := Lib.hid (R1.out.kept k2); clear k2 R1
  go_wp2
  go_loopw [6] (fun i wr => ∃ (k : Nat), k ≤ o ∧ i = .int .i64 k ∧ Room w wr [lsT g [] (up 0 k)]) (fun i _ => o - (intOf i).toNat)
  case atStart => exact ⟨0, by omega, rfl, R2.out⟩
  case round =>
    obtain ⟨k, hk, rfl, hR⟩ := hrel
    have R := Lib.hid hR; clear hR R2
    by_cases hlt : k < o
    · have hi1 : (k : Int) < (o : Int) := by omega
      have hs := one_more k (by omega)
      have HS := Lib.hid hs; clear hs
      go_wp2_with fail
      refine (R.out.lspush false HS.out.1 HS.out.2.1 HS.out.2.2).mono ?_
      rintro e w3 ⟨rfl, h3⟩
      have R3 := Lib.hid h3; clear h3 R HS
      go_wp2
      go_roundw
      case rel => exact ⟨k + 1, by omega, by go_num, R3.out⟩
      case measure => simp [intOf]; omega
    · obtain rfl : k = o := by omega
      clear hk hlt
      go_wp2
      go_loopw [7] (fun i wr => ∃ (j : Nat), j ≤ f ∧ i = .int .i64 j ∧ Room w wr [lsT g (up 5 j) (up 0 k)]) (fun i _ => f - (intOf i).toNat)
      case atStart => exact ⟨0, by omega, rfl, R.out⟩
      case round =>
        obtain ⟨j, hj, rfl, hR⟩ := hrel
        clear R
        have R := Lib.hid hR; clear hR
        by_cases hlt : j < f
        · have hi1 : (j : Int) < (f : Int) := by omega
          have HS := Lib.hid (one_new k ho5 j (by omega))
          have hw5 : IntKind.i64.wrap (5 + (j : Int)) = 5 + (j : Int) := by rw [IntKind.wrap_i64]; omega
          go_wp2_with fail
          refine (R.out.lspush true HS.out.1 HS.out.2.1 HS.out.2.2).mono ?_
          rintro e w3 ⟨rfl, h3⟩
          have R3 := Lib.hid h3; clear h3 R HS
          go_wp2
          go_roundw
          case rel => exact ⟨j + 1, by omega, by go_num, R3.out⟩
          case measure => simp [intOf]; omega
        · obtain rfl : j = f := by omega
          clear hj hlt
          go_wp2
          go_loopw [8] (fun i wr => ∃ (t : Nat), t ≤ j ∧ i = .int .i64 t ∧ Room w wr [lsT g (up (5 + (t : Int)) (j - t)) (up 0 k ++ up 5 t)]) (fun i _ => j - (intOf i).toNat)
          case atStart => exact ⟨0, by omega, rfl, by simpa [up] using R.out⟩
          case round =>
            obtain ⟨t, ht, rfl, hR⟩ := hrel
            clear R
            have R := Lib.hid hR; clear hR
            by_cases hlt : t < j
            · have hi1 : (t : Int) < (j : Int) := by omega
              have HS := Lib.hid (one_back k ho5 j hf4 t hlt)
              have hw5 : IntKind.i64.wrap (5 + (t : Int)) = 5 + (t : Int) := by rw [IntKind.wrap_i64]; omega
              have hq : ((5 + (t : Int)) != (5 + (t : Int))) = false := by simp
              go_wp2_with fail
              refine (R.out.lshead HS.out.1.1 HS.out.1.2.1 HS.out.1.2.2).mono ?_
              rintro e w3 ⟨rfl, h3⟩
              have R3 := Lib.hid h3; clear h3 R
              go_wp2_with fail
              refine (R3.out.lsplace HS.out.2.1).mono ?_
              rintro e w4 ⟨rfl, h4⟩
              have R4 := Lib.hid h4; clear h4 R3
              go_wp2_with fail
              refine (R4.out.lsback HS.out.1.2.2 HS.out.2.2.1 HS.out.2.2.2.1).mono ?_
              rintro e w5 ⟨rfl, h5⟩
              have R5 := Lib.hid h5; clear h5 R4
              go_wp2_with fail
              refine (R5.out.lsplace HS.out.2.2.2.2).mono ?_
              rintro e w6 ⟨rfl, h6⟩
              have R6 := Lib.hid h6; clear h6 R5
              go_wp2
              go_roundw
              case rel => exact ⟨t + 1, by omega, by go_num, R6.out⟩
              case measure => simp [intOf]; omega
            · obtain rfl : t = j := by omega
              clear ht hlt
              go_wp2
              go_loopw [12] (fun i wr => ∃ (q : Nat), q ≤ k ∧ i = .int .i64 q ∧ Room w wr [lsT g [] (up (q : Int) (k - q) ++ up 5 t)]) (fun i _ => k - (intOf i).toNat)
              case atStart => exact ⟨0, by omega, rfl, by simpa [up] using R.out⟩
              case round =>
                obtain ⟨q, hq, rfl, hR⟩ := hrel
                clear R
                have R := Lib.hid hR; clear hR
                by_cases hlt : q < k
                · have hi1 : (q : Int) < (k : Int) := by omega
                  have HS := Lib.hid (one_drop k ho5 t hf4 q hlt)
                  have hqq : ((q : Int) != (q : Int)) = false := by simp
                  go_wp2_with fail
                  refine (R.out.lshead HS.out.1.1 HS.out.1.2.1 HS.out.1.2.2).mono ?_
                  rintro e w3 ⟨rfl, h3⟩
                  have R3 := Lib.hid h3; clear h3 R
                  go_wp2_with fail
                  refine (R3.out.lsdrop HS.out.1.2.2 rfl HS.out.2.1).mono ?_
                  rintro e w5 ⟨rfl, h5⟩
                  have R5 := Lib.hid h5; clear h5 R3
                  go_wp2_with fail
                  refine (R5.out.lsplace HS.out.2.2).mono ?_
                  rintro e w6 ⟨rfl, h6⟩
                  have R6 := Lib.hid h6; clear h6 R5
                  go_wp2
                  go_roundw
                  case rel => exact ⟨q + 1, by omega, by go_num, R6.out⟩
                  case measure => simp [intOf]; omega
                · obtain rfl : q = k := by omega
                  clear hq hlt
                  have HS := Lib.hid (one_last t hf4 hf1)
                  have R0 : Hid (Room w wr [lsT g [] (up 5 t)]) := Lib.hid (by simpa [up] using R.out)
                  clear R
                  go_wp2_with fail
                  refine (R0.out.lshead HS.out.1 HS.out.2.1 HS.out.2.2.1).mono ?_
                  rintro e w3 ⟨rfl, h3⟩
                  have R3 := Lib.hid h3; clear h3 R0
                  go_wp2_with fail
                  refine (R3.out.lsremove (s := 5) (b := true) (by simp [HS.out.2.2.2.1]) rfl rfl).mono ?_
                  rintro e w4 ⟨rfl, h4⟩
                  have R4 := Lib.hid h4; clear h4 R3
                  go_wp2_with fail
                  refine (R4.out.lsremove (s := 5) (b := false) (by simp [HS.out.2.2.2.2]) rfl rfl).mono ?_
                  rintro e w5 ⟨rfl, h5⟩
                  have R5 := Lib.hid h5; clear h5 R4
                  go_wp2
                  go_ret
                  exact ⟨rfl, HG.out ▸ R5.out.bel⟩

set_option maxRecDepth 100000 in
theorem lifted (os : Os) (started : os.Started) (H : Type) (enc : TypeId × Value → H) :
    ReturnsInHanded {} Try.checked os 5 .any (Rows.listsNewSpec.pre6 enc Try.prog Try.f5 Rows.listsNewRow.domain false) (Rows.listsNewSpec.post enc Try.prog Try.f5 false true false false) := by
  refine returnsInHanded_of_change (C := Try.checked) own started (by kernel_rfl) Try.func5
    (ChangeSpec.witness6 (enc := enc) (C := Try.checked) false ⟨#[], #[.int .i64 0, .int .i64 0], []⟩ 8 (by kernel_rfl) (by kernel_rfl) (by kernel_rfl) (by kernel_rfl)) ?_
  intro W base args ds gs before hval0 hW hcnd _
  have hval : ∀ (j : Nat) t v, Try.f5.params[j]? = some t → args[j]? = some v → Value.okWide Try.prog W .any base t v := hval0
  have hW' := hW
  obtain ⟨p, q, hA0, hV, rfl, hfz, hnd⟩ := hW
  have hA : DataW.TrodAll enc Try.prog W 0 (fun _ => true) true Try.f5.params.toList args.toList ds p := hA0
  rw [Try.params5] at hA hval
  obtain ⟨v0, vs0, d0, ds0, p0, q0, hargs, rfl, rfl, h0, r0⟩ := trodAll_cons hA
  obtain ⟨v1, vs1, d1, ds1, p1, q1, rfl, rfl, rfl, h1, r1⟩ := trodAll_cons r0
  obtain ⟨rfl, rfl, rfl⟩ := trodAll_nil r1
  obtain rfl : args = #[v0, v1] := by cases args; simp_all
  obtain ⟨rfl, rfl⟩ := trodVars_none hV
  obtain ⟨a0, rfl, rfl, rfl, w0⟩ := open_int Try.underlying3 (hval 0 3 v0 rfl rfl) h0
  obtain ⟨a1, rfl, rfl, rfl, w1⟩ := open_int Try.underlying3 (hval 1 3 v1 rfl rfl) h1
  clear hA0 hval0
  simp only [List.append_nil] at hW'
  refine (walk a0 a1 w0 w1 W).mono fun e W' ⟨he, hg⟩ => ?_
  subst he
  exact ⟨_, rfl, _, _, _, [], _, [], hW', trodAll_mk1 (shut_bool Try.underlying4 _), (trodAll_cons_mk (shut_int Try.underlying3 w0) (trodAll_cons_mk (shut_int Try.underlying3 w1) trodAll_mk0)), rfl, hg.frame _, fun h => by cases h⟩

theorem over : Rows.listsNewRow.holds Try.pinned (OpenSpec.ofChange Rows.listsNewSpec) :=
  OpenClaim.holds_of_wide 5 Try.f5 rfl rfl rfl rfl rfl rfl rfl ⟨rfl, rfl, rfl, rfl, rfl⟩ rfl rfl rfl rfl rfl (by kernel_rfl) Try.func5 (by kernel_rfl)
    (of_decide_eq_true (by kernel_rfl)) (by unfold Func.isWrapper; first | (rw [if_pos (by decide +kernel)]; kernel_rfl) | (rw [if_neg (by decide +kernel)]; exact ⟨rfl, rfl⟩))
    (fun os started H enc _ => lifted os started H enc)

theorem proved : Rows.ListsNewSaid :=
  over
end Go.Proofs.Ytcllgfkmjleckaa.listsNew
namespace Go.Proofs.Ytcllgfkmjleckaa
theorem listsNew_holds : Rows.ListsNewSaid := listsNew.proved
#print axioms listsNew_holds
end Go.Proofs.Ytcllgfkmjleckaa
