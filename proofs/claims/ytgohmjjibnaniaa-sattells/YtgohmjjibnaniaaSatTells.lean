/-
  Proved: canterlaw01.SatTells answers true at any two numbers and any list of numbers, and leaves its arguments as they were. Conditions: none.
-/
import Derived.Test.YtgohmjjibnaniaaRows
import Derived.WalkKit
import Derived.ProofKit
import Derived.OpenShut
import Derived.ShutString
import Derived.ChangeOld
import Derived.Below
import Derived.Test.YtgohmjjibnaniaaAwake
import Derived.Test.YtgohmjjibnaniaaRef
import Derived.Test.YtgohmjjibnaniaaKept
namespace Go.Proofs.Ytgohmjjibnaniaa.satTells
open Go.ChangeShapes Go.WideShapes Go.ChangeAt Go.RowKit
open Go.ChangeMaps (open_string shut_string)
set_option linter.unusedVariables false

theorem own : ownKnob Try.prog.godebug = none := by kernel_rfl
theorem laidOut : laidOutB Try.prog = true := by kernel_rfl

def IsRow (k : IntKind) (w : World) (a : Option Addr) (len cap : Nat) (zs : List Int) : Prop :=
  (a = none ∧ len = 0 ∧ cap = 0 ∧ zs = []) ∨
  ∃ x, a = some x ∧ len ≤ cap ∧ cap ≤ maxLen ∧ zs.length = cap ∧ (∀ i, i < zs.length → w.cell? (x.add i) = some (.int k (zs.getD i 0))) ∧ ∀ n ∈ zs, (Lit.int k n).wf = true

theorem rd_of_row {w : World} {a : Option Addr} {len cap : Nat} {z : List Int} (h : IsRow .u64 w a len cap z) :
    (z.take len).length = len ∧ len ≤ 9223372036854775807 ∧ (a = none → (z.take len).length = 0 ∧ cap = 0) ∧ Rd .u64 w a (z.take len) ∧ ∀ k, k < (z.take len).length → 0 ≤ (z.take len).getD k 0 ∧ (z.take len).getD k 0 ≤ 18446744073709551615 := by
  rcases h with ⟨rfl, rfl, rfl, rfl⟩ | ⟨x, rfl, hl, hm, hz, hc, hw⟩
  · exact ⟨rfl, by omega, fun _ => ⟨rfl, rfl⟩, fun i hi => by simp at hi, fun k hk => by simp at hk⟩
  · have hlen : (z.take len).length = len := by simp; omega
    have eg : ∀ i, i < len → (z.take len).getD i 0 = z.getD i 0 := fun i hi => by simp [List.getD_eq_getElem?_getD, hi]
    refine ⟨hlen, by unfold maxLen at hm; omega, fun h => (by cases h), fun i hi => ?_, fun k hk => ?_⟩
    · rw [hlen] at hi
      obtain ⟨b, off, e, hat⟩ := ints_at hc (by omega)
      subst e
      have hcell := hat i (by omega)
      exact ⟨b, off, rfl, lt_of_cell hcell, by rw [eg i hi]; exact hcell⟩
    · rw [hlen] at hk
      rw [eg k hk, List.getD_eq_getElem?_getD, List.getElem?_eq_getElem (by omega)]
      exact bounds_u64 (hw _ (List.getElem_mem _))

set_option maxHeartbeats 1000000 in
theorem walk (a0 : Int) (a1 : Int) (a2 : Option Addr) (len2 cap2 : Nat) (z2 : List Int) (w : World) (w0 : (Lit.int .u64 a0).wf = true) (w1 : (Lit.int .u64 a1).wf = true) (w2 : IsRow .u64 w a2 len2 cap2 z2) :
    Calls Try.prog 3 #[.int .u64 a0, .int .u64 a1, .slice a2 len2 cap2] w fun e w' => e = .returned (.bool true) ∧ Below w.heap.size w w' := by
  obtain ⟨a0l, a0h⟩ := bounds_u64 w0
  obtain ⟨a1l, a1h⟩ := bounds_u64 w1
  clear w0 w1
  obtain ⟨hlen, hmax, hnil, hrd, hbd⟩ := rd_of_row w2
  clear w2
  generalize z2.take len2 = zs at *
  subst hlen
  by_cases h : zs.length ≤ 100
  · have HN := Lib.hid hnil; have HD := Lib.hid hrd; have HB := Lib.hid hbd; clear hnil hrd hbd
    go_enter Try.func3, Try.ntmps3
    go_wp2_with fail
    refine (own_any a2 cap2 zs 71 w h HN.out HD.out).mono ?_
    rintro e w1 ⟨cs, rfl, hwh, hrow, hbel⟩
    have hrd1 : Rd .u64 w1 (some ⟨w.heap.size, 0, none⟩) zs := fun i hi => ⟨w.heap.size, 0, rfl, hwh.lt, by rw [Nat.zero_add, hwh.cell, hrow.2.1 i hi]⟩
    have hrd2 : Rd .u64 w1 a2 zs := HD.out.below hbel
    have hwh2 : Whole (w1.alloc (.cells #[.int .u64 1, .int .u64 2] 22)) w.heap.size 22 cs := hwh.below (Below.alloc (Below.refl w1.heap.size w1) (Nat.le_refl _) _) hwh.lt
    have hrd3 : Rd .u64 (w1.alloc (.cells #[.int .u64 1, .int .u64 2] 22)) a2 zs := hrd2.below (Below.alloc (Below.refl w1.heap.size w1) (Nat.le_refl _) _)
    have hbel2 : Below w.heap.size w (w1.alloc (.cells #[.int .u64 1, .int .u64 2] 22)) := hbel.alloc hbel.size _
    have H1 := Lib.hid hrd1; have H2 := Lib.hid hrd2; have H3 := Lib.hid hwh2; have H4 := Lib.hid hrd3; have H5 := Lib.hid hbel2; have H6 := Lib.hid hrow
    clear hrd1 hrd2 hwh2 hrd3 hbel2 hrow hwh hbel
    go_wp2_with fail
    refine (sum_any _ _ zs w1 hmax H1.out HB.out).mono ?_
    rintro e w' ⟨rfl, rfl⟩
    go_wp2_with fail
    refine (rsum_any _ _ zs w1 hmax H2.out HB.out).mono ?_
    rintro e w' ⟨rfl, rfl⟩
    go_wp2_with (first
      | (go_at_call 7; refine (awake_any _).mono ?_; rintro e w' ⟨rfl, rfl⟩)
      | (go_at_call 11; refine (add_any _ _ (by omega) (by omega) (by omega) (by omega) _).mono ?_; rintro e w' ⟨rfl, rfl⟩)
      | (go_at_call 13; refine (sub_any _ _ (by omega) (by omega) (by omega) (by omega) _).mono ?_; rintro e w' ⟨rfl, rfl⟩)
      | (go_at_call 15; refine (mul_any _ _ (by omega) (by omega) (by omega) (by omega) _).mono ?_; rintro e w' ⟨rfl, rfl⟩)
      | (go_at_call 17; refine (int_any _ (by omega) (by omega) _).mono ?_; rintro e w' ⟨rfl, rfl⟩)
      | (go_at_call 12; refine (radd_any _ _ (by omega) (by omega) (by omega) (by omega) _).mono ?_; rintro e w' ⟨rfl, rfl⟩)
      | (go_at_call 14; refine (rsub_any _ _ (by omega) (by omega) (by omega) (by omega) _).mono ?_; rintro e w' ⟨rfl, rfl⟩)
      | (go_at_call 16; refine (rmul_any _ _ (by omega) (by omega) (by omega) (by omega) _).mono ?_; rintro e w' ⟨rfl, rfl⟩)
      | (go_at_call 18; refine (rint_any _ (by omega) (by omega) _).mono ?_; rintro e w' ⟨rfl, rfl⟩)
      | (go_at_call 19; refine (kept_any _ _ _ zs 71 cs _ (by omega) H3.out H6.out H4.out).mono ?_; rintro e w' ⟨rfl, n, hw⟩; have HW := Lib.hid hw; clear hw))
    go_ret
    exact ⟨rfl, by rw [HW.out]; exact H5.out.trans ⟨rfl, rfl, rfl, Nat.le_refl _, fun _ _ => rfl⟩⟩
  · have h : 100 < zs.length := by omega
    clear hnil hrd hbd
    go_enter Try.func3, Try.ntmps3
    go_wp2_with (go_at_call 7; refine (awake_any _).mono ?_; rintro e w' ⟨rfl, rfl⟩)
    go_ret
    exact ⟨rfl, (Below.refl _ _).alloc (Nat.le_refl _) _⟩

set_option maxRecDepth 100000 in
theorem lifted (os : Os) (started : os.Started) (H : Type) (enc : TypeId × Value → H) :
    ReturnsInHanded {} Try.checked os 3 .any (Rows.satTellsSpec.pre6 enc Try.prog Try.f3 Rows.satTellsRow.domain false) (Rows.satTellsSpec.post enc Try.prog Try.f3 false true false false) := by
  refine returnsInHanded_of_change (C := Try.checked) own started (by kernel_rfl) Try.func3
    (ChangeSpec.witness6 (enc := enc) (C := Try.checked) false ⟨#[], #[.int .u64 0, .int .u64 0, .slice none 0 0], []⟩ 8 (by kernel_rfl) (by kernel_rfl) (by kernel_rfl) (by kernel_rfl)) ?_
  intro W base args ds gs before hval0 hW hcnd _
  have hval : ∀ (j : Nat) t v, Try.f3.params[j]? = some t → args[j]? = some v → Value.okWide Try.prog W .any base t v := hval0
  have hW' := hW
  obtain ⟨p, q, hA0, hV, rfl, hfz, hnd⟩ := hW
  have hA : DataW.TrodAll enc Try.prog W 0 (fun _ => true) true Try.f3.params.toList args.toList ds p := hA0
  rw [Try.params3] at hA hval
  obtain ⟨v0, vs0, d0, ds0, p0, q0, hargs, rfl, rfl, h0, r0⟩ := trodAll_cons hA
  obtain ⟨v1, vs1, d1, ds1, p1, q1, rfl, rfl, rfl, h1, r1⟩ := trodAll_cons r0
  obtain ⟨v2, vs2, d2, ds2, p2, q2, rfl, rfl, rfl, h2, r2⟩ := trodAll_cons r1
  obtain ⟨rfl, rfl, rfl⟩ := trodAll_nil r2
  obtain rfl : args = #[v0, v1, v2] := by cases args; simp_all
  obtain ⟨rfl, rfl⟩ := trodVars_none hV
  obtain ⟨a0, rfl, rfl, rfl, w0⟩ := open_int Try.underlying22 (hval 0 22 v0 rfl rfl) h0
  obtain ⟨a1, rfl, rfl, rfl, w1⟩ := open_int Try.underlying22 (hval 1 22 v1 rfl rfl) h1
  obtain ⟨a2, len2, cap2, rfl⟩ := okWide_slice Try.underlying23 (hval 2 23 v2 rfl rfl)
  have k2 := h2
  have lt2 : ∀ x ∈ p2, x.block < W.heap.size := by obtain ⟨m, hm⟩ := k2; exact DataW.trod_lt m _ _ _ hm
  obtain ⟨z2, w2⟩ : ∃ zs, IsRow .u64 W a2 len2 cap2 zs := by
    obtain ⟨fuel, hf⟩ := h2
    rcases open_ints Try.underlying23 Try.underlying22 (by kernel_rfl) hf with ⟨hcs, _⟩ | ⟨x, l, c, zs, hcs, _, hl, hm, hz, _, hcell, hwz⟩
    · simp [Value.cells] at hcs
      obtain ⟨rfl, rfl, rfl⟩ := hcs
      exact ⟨[], .inl ⟨rfl, rfl, rfl, rfl⟩⟩
    · simp [Value.cells] at hcs
      obtain ⟨rfl, rfl, rfl⟩ := hcs
      exact ⟨zs, .inr ⟨_, rfl, hl, hm, by simpa using hz, hcell, hwz⟩⟩
  clear hA0 hval0
  refine (walk a0 a1 a2 len2 cap2 z2 W w0 w1 w2).mono fun e W' ⟨he, bel⟩ => ?_
  subst he
  exact ⟨_, rfl, _, _, _, [], _, [], hW', trodAll_mk1 (shut_bool Try.underlying4 _), (trodAll_cons_mk (shut_int Try.underlying22 w0) (trodAll_cons_mk (shut_int Try.underlying22 w1) (trodAll_cons_mk (Below.trod laidOut (by kernel_rfl) (of_decide_eq_true (by kernel_rfl)) k2 bel lt2) trodAll_mk0))), rfl, bel.frame _, fun h => by cases h⟩

theorem over : Rows.satTellsRow.holds Try.pinned (OpenSpec.ofChange Rows.satTellsSpec) :=
  OpenClaim.holds_of_wide 3 Try.f3 rfl rfl rfl rfl rfl rfl rfl ⟨rfl, rfl, rfl, rfl, rfl⟩ rfl rfl rfl rfl rfl (by kernel_rfl) Try.func3 (by kernel_rfl)
    (of_decide_eq_true (by kernel_rfl)) (by unfold Func.isWrapper; first | (rw [if_pos (by decide +kernel)]; kernel_rfl) | (rw [if_neg (by decide +kernel)]; exact ⟨rfl, rfl⟩))
    (fun os started H enc _ => lifted os started H enc)

theorem proved : Rows.SatTellsSaid := over
end Go.Proofs.Ytgohmjjibnaniaa.satTells
namespace Go.Proofs.Ytgohmjjibnaniaa
theorem satTells_holds : Rows.SatTellsSaid := satTells.proved
#print axioms satTells_holds
end Go.Proofs.Ytgohmjjibnaniaa
