/-
  Proved: canterlaw18.DelayParts answers true at any list of numbers and any rate, and leaves its arguments as they were. Conditions: none.
-/
import Derived.Test.YthjacbgknnpmiaaRows
import Derived.WalkKit
import Derived.ProofKit
import Derived.OpenShut
import Derived.ShutString
import Derived.ChangeOld
import Derived.Below
import Derived.Test.YthjacbgknnpmiaaDelMath
import Derived.Test.YthjacbgknnpmiaaMem
import Derived.Deep.LoopGhost
namespace Go.Proofs.Ythjacbgknnpmiaa.delayParts
open Go.ChangeShapes Go.WideShapes Go.ChangeAt Go.RowKit
open Go.ChangeMaps (open_string shut_string)
set_option linter.unusedVariables false

theorem own : ownKnob Try.prog.godebug = none := by kernel_rfl
theorem laidOut : laidOutB Try.prog = true := by kernel_rfl

def IsRow (k : IntKind) (w : World) (a : Option Addr) (len cap : Nat) (zs : List Int) : Prop :=
  (a = none ∧ len = 0 ∧ cap = 0 ∧ zs = []) ∨
  ∃ x, a = some x ∧ len ≤ cap ∧ cap ≤ maxLen ∧ zs.length = cap ∧ (∀ i, i < zs.length → w.cell? (x.add i) = some (.int k (zs.getD i 0))) ∧ ∀ n ∈ zs, (Lit.int k n).wf = true

theorem rd_parts {w : World} {a : Option Addr} {len cap : Nat} {z : List Int} (h : IsRow .i64 w a len cap z) :
    (z.take len).length = len ∧ len ≤ 9223372036854775807 ∧ Rd .i64 w a (z.take len) := by
  rcases h with ⟨rfl, rfl, rfl, rfl⟩ | ⟨x, rfl, hl, hm, hz, hc, hw⟩
  · exact ⟨rfl, by omega, fun i hi => by simp at hi⟩
  · have hlen : (z.take len).length = len := by simp; omega
    have eg : ∀ i, i < len → (z.take len).getD i 0 = z.getD i 0 := fun i hi => by simp [List.getD_eq_getElem?_getD, hi]
    refine ⟨hlen, by unfold maxLen at hm; omega, fun i hi => ?_⟩
    rw [hlen] at hi
    obtain ⟨b, off, e, hat⟩ := ints_at hc (by omega)
    subst e
    have hcell := hat i (by omega)
    exact ⟨b, off, rfl, lt_of_cell hcell, by rw [eg i hi]; exact hcell⟩

set_option maxHeartbeats 1000000 in
theorem walk (a0 : Option Addr) (len0 cap0 : Nat) (z0 : List Int) (a1 : Int) (w : World) (w0 : IsRow .i64 w a0 len0 cap0 z0) (w1 : (Lit.int .u64 a1).wf = true) :
    Calls Try.prog 7 #[.slice a0 len0 cap0, .int .u64 a1] w fun e w' => e = .returned (.bool true) ∧ Below w.heap.size w w' := by
  obtain ⟨hlen, hmax, hrd⟩ := rd_parts w0
  obtain ⟨g0, g1⟩ := bounds_u64 w1
  clear w0 w1
  generalize z0.take len0 = zs at *
  subst hlen
  have HD := Lib.hid hrd; clear hrd
  obtain ⟨r, hr, r0, r1, r2⟩ : ∃ r, IntKind.u64.wrap (1000000 + a1 % 1000000000) = r ∧ 1000000 ≤ r ∧ r ≤ 18446744073709551615 ∧ r ≤ 2000000000 := ⟨_, rfl, by rw [IntKind.wrap_u64]; omega, by rw [IntKind.wrap_u64]; omega, by rw [IntKind.wrap_u64]; omega⟩
  go_enter Try.func7, Try.ntmps7
  go_wp2
  go_loop [5, 6, 7, 8] (fun s v n i => ∃ (k : Nat) (W S : Int), k ≤ 20 ∧ k ≤ zs.length ∧ s = .int .u64 S ∧ v = .int .i64 W ∧ n = .int .u64 k ∧ i = .int .i64 k ∧ Parts r k W S) (fun _ _ _ i => 20 - (intOf i).toNat)
  case atStart => exact ⟨0, 0, 0, by omega, by omega, rfl, rfl, rfl, rfl, Parts.none r⟩
  case round =>
    obtain ⟨k, W, S, k20, kl, rfl, rfl, rfl, rfl, hp⟩ := hrel
    obtain ⟨w1, s1⟩ := hp.most k20 r0
    obtain ⟨q1, q2, q3, q4, q5⟩ := id hp
    have HP := Lib.hid hp; clear hp
    by_cases hin : k < zs.length
    · by_cases h20 : k < 20
      · obtain ⟨b, off, rfl, _, hcell⟩ := HD.out k hin
        generalize zs.getD k 0 = t at *
        obtain ⟨p, pt, wp, p0, p1⟩ := part_num t
        have HQ := Lib.hid (delV_small (s := p) p0 (by omega) r0 r2)
        have HM := Lib.hid (HP.out.more (by omega) p0 p1)
        have hq0 := quoV_nn p0 (show 0 < r by omega)
        have hq1 := quoV_small (s := p) (by omega) r0
        clear HP q4 q5
        generalize quoV p r = d at *
        have ww : wrap64 (W + p) = W + p := by unfold wrap64; omega
        have wd : IntKind.u64.wrap (S + d) = S + d := by rw [IntKind.wrap_u64]; omega
        have wk : IntKind.u64.wrap ((k : Int) + 1) = (k : Int) + 1 := by rw [IntKind.wrap_u64]; omega
        go_wp2_with fail
        try rw [wp]
        refine (del_is HQ.out (by omega) (by omega) r1 _).mono ?_
        rintro e w' ⟨rfl, rfl⟩
        go_wp2
        go_round
        case rel => exact ⟨k + 1, W + p, S + d, by omega, by omega, by rfl, by go_num, by go_num, by go_num, HM.out⟩
        case measure => simp [intOf]; omega
      · have hk : k = 20 := by omega
        subst hk
        have ws : IntKind.u64.wrap (S + 20) = S + 20 := by rw [IntKind.wrap_u64]; omega
        have q6 : quoV W r ≤ S + 20 := by omega
        clear q5
        have HO := Lib.hid (delV_small q1 w1 r0 r2)
        clear HD
        generalize quoV W r = d at *
        go_wp2_with fail
        refine (del_is HO.out (by omega) (by omega) (by omega) _).mono ?_
        rintro e w' ⟨rfl, rfl⟩
        go_wp2_with fail
        refine (awaked_any _).mono ?_
        rintro e w' ⟨rfl, rfl⟩
        go_wp2
        go_ret
        exact ⟨rfl, Below.refl _ _⟩
    · have hk : k = zs.length := by omega
      have ws : IntKind.u64.wrap (S + (k : Int)) = S + k := by rw [IntKind.wrap_u64]; omega
      subst hk
      have HO := Lib.hid (delV_small q1 w1 r0 r2)
      clear HD
      generalize quoV W r = d at *
      go_wp2_with fail
      refine (del_is HO.out (by omega) (by omega) (by omega) _).mono ?_
      rintro e w' ⟨rfl, rfl⟩
      go_wp2_with fail
      refine (awaked_any _).mono ?_
      rintro e w' ⟨rfl, rfl⟩
      go_wp2
      go_ret
      exact ⟨rfl, Below.refl _ _⟩

set_option maxRecDepth 100000 in
theorem lifted (os : Os) (started : os.Started) (H : Type) (enc : TypeId × Value → H) :
    ReturnsInHanded {} Try.checked os 7 .any (Rows.delayPartsSpec.pre6 enc Try.prog Try.f7 Rows.delayPartsRow.domain false) (Rows.delayPartsSpec.post enc Try.prog Try.f7 false true false false) := by
  refine returnsInHanded_of_change (C := Try.checked) own started (by kernel_rfl) Try.func7
    (ChangeSpec.witness6 (enc := enc) (C := Try.checked) false ⟨#[], #[.slice none 0 0, .int .u64 0], []⟩ 8 (by kernel_rfl) (by kernel_rfl) (by kernel_rfl) (by kernel_rfl)) ?_
  intro W base args ds gs before hval0 hW hcnd _
  have hval : ∀ (j : Nat) t v, Try.f7.params[j]? = some t → args[j]? = some v → Value.okWide Try.prog W .any base t v := hval0
  have hW' := hW
  obtain ⟨p, q, hA0, hV, rfl, hfz, hnd⟩ := hW
  have hA : DataW.TrodAll enc Try.prog W 0 (fun _ => true) true Try.f7.params.toList args.toList ds p := hA0
  rw [Try.params7] at hA hval
  obtain ⟨v0, vs0, d0, ds0, p0, q0, hargs, rfl, rfl, h0, r0⟩ := trodAll_cons hA
  obtain ⟨v1, vs1, d1, ds1, p1, q1, rfl, rfl, rfl, h1, r1⟩ := trodAll_cons r0
  obtain ⟨rfl, rfl, rfl⟩ := trodAll_nil r1
  obtain rfl : args = #[v0, v1] := by cases args; simp_all
  obtain ⟨rfl, rfl⟩ := trodVars_none hV
  obtain ⟨a0, len0, cap0, rfl⟩ := okWide_slice Try.underlying31 (hval 0 31 v0 rfl rfl)
  have k0 := h0
  have lt0 : ∀ x ∈ p0, x.block < W.heap.size := by obtain ⟨m, hm⟩ := k0; exact DataW.trod_lt m _ _ _ hm
  obtain ⟨z0, w0⟩ : ∃ zs, IsRow .i64 W a0 len0 cap0 zs := by
    obtain ⟨fuel, hf⟩ := h0
    rcases open_ints Try.underlying31 Try.underlying3 (by kernel_rfl) hf with ⟨hcs, _⟩ | ⟨x, l, c, zs, hcs, _, hl, hm, hz, _, hcell, hwz⟩
    · simp [Value.cells] at hcs
      obtain ⟨rfl, rfl, rfl⟩ := hcs
      exact ⟨[], .inl ⟨rfl, rfl, rfl, rfl⟩⟩
    · simp [Value.cells] at hcs
      obtain ⟨rfl, rfl, rfl⟩ := hcs
      exact ⟨zs, .inr ⟨_, rfl, hl, hm, by simpa using hz, hcell, hwz⟩⟩
  obtain ⟨a1, rfl, rfl, rfl, w1⟩ := open_int Try.underlying22 (hval 1 22 v1 rfl rfl) h1
  clear hA0 hval0
  refine (walk a0 len0 cap0 z0 a1 W w0 w1).mono fun e W' ⟨he, bel⟩ => ?_
  subst he
  exact ⟨_, rfl, _, _, _, [], _, [], hW', trodAll_mk1 (shut_bool Try.underlying4 _), (trodAll_cons_mk (Below.trod laidOut (by kernel_rfl) (of_decide_eq_true (by kernel_rfl)) k0 bel lt0) (trodAll_cons_mk (shut_int Try.underlying22 w1) trodAll_mk0)), rfl, bel.frame _, fun h => by cases h⟩

theorem over : Rows.delayPartsRow.holds Try.pinned (OpenSpec.ofChange Rows.delayPartsSpec) :=
  OpenClaim.holds_of_wide 7 Try.f7 rfl rfl rfl rfl rfl rfl rfl ⟨rfl, rfl, rfl, rfl, rfl⟩ rfl rfl rfl rfl rfl (by kernel_rfl) Try.func7 (by kernel_rfl)
    (of_decide_eq_true (by kernel_rfl)) (by unfold Func.isWrapper; first | (rw [if_pos (by decide +kernel)]; kernel_rfl) | (rw [if_neg (by decide +kernel)]; exact ⟨rfl, rfl⟩))
    (fun os started H enc _ => lifted os started H enc)

theorem proved : Rows.DelayPartsSaid := over
end Go.Proofs.Ythjacbgknnpmiaa.delayParts
namespace Go.Proofs.Ythjacbgknnpmiaa
theorem delayParts_holds : Rows.DelayPartsSaid := delayParts.proved
#print axioms delayParts_holds
end Go.Proofs.Ythjacbgknnpmiaa
