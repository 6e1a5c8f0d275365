/-
  Proved: canterlaw10.SamplerSums answers true at every list of numbers and number, and leaves its arguments as they were. Conditions: none.
-/
import Derived.Test.YtiilbdmldonipaaRows
import Derived.WalkKit
import Derived.ProofKit
import Derived.OpenShut
import Derived.ShutString
import Derived.ChangeOld
import Derived.Below
import Derived.Test.YtiilbdmldonipaaSamRoom
namespace Go.Proofs.Ytiilbdmldonipaa.samplerSums
open Go.ChangeShapes Go.WideShapes Go.ChangeAt Go.RowKit
open Go.ChangeMaps (open_string shut_string)
set_option linter.unusedVariables false

theorem own : ownKnob Try.prog.godebug = none := by kernel_rfl
theorem laidOut : laidOutB Try.prog = true := by kernel_rfl

def IsRow (k : IntKind) (w : World) (a : Option Addr) (len cap : Nat) (zs : List Int) : Prop :=
  (a = none ∧ len = 0 ∧ cap = 0 ∧ zs = []) ∨
  ∃ x, a = some x ∧ len ≤ cap ∧ cap ≤ maxLen ∧ zs.length = cap ∧ (∀ i, i < zs.length → w.cell? (x.add i) = some (.int k (zs.getD i 0))) ∧ ∀ n ∈ zs, (Lit.int k n).wf = true

theorem rd_of_row {w : World} {a : Option Addr} {len cap : Nat} {z : List Int} (h : IsRow .u64 w a len cap z) :
    (z.take len).length = len ∧ len ≤ 9223372036854775807 ∧ Rd .u64 w a (z.take len) ∧ ∀ k, k < (z.take len).length → 0 ≤ (z.take len).getD k 0 ∧ (z.take len).getD k 0 ≤ 18446744073709551615 := by
  rcases h with ⟨rfl, rfl, rfl, rfl⟩ | ⟨x, rfl, hl, hm, hz, hc, hw⟩
  · exact ⟨rfl, by omega, fun i hi => by simp at hi, fun k hk => by simp at hk⟩
  · have hlen : (z.take len).length = len := by simp; omega
    have eg : ∀ i, i < len → (z.take len).getD i 0 = z.getD i 0 := fun i hi => by simp [List.getD_eq_getElem?_getD, hi]
    refine ⟨hlen, by unfold maxLen at hm; omega, fun i hi => ?_, fun k hk => ?_⟩
    · rw [hlen] at hi
      obtain ⟨b, off, e, hat⟩ := ints_at hc (by omega)
      subst e
      have hcell := hat i (by omega)
      exact ⟨b, off, rfl, lt_of_cell hcell, by rw [eg i hi]; exact hcell⟩
    · rw [hlen] at hk
      rw [eg k hk, List.getD_eq_getElem?_getD, List.getElem?_eq_getElem (by omega)]
      exact bounds_u64 (hw _ (List.getElem_mem _))
theorem ackS_d (x : Smp) (now size : Int) (y : Snt) : (ackS x now size y).d = satAdd x.d size := by unfold ackS; split <;> rfl
theorem ackS_a (x : Smp) (now size : Int) (y : Snt) : (ackS x now size y).a = satAdd x.a size := by unfold ackS; split <;> rfl
theorem takeV_is {x : Smp} (h : x.Fit) (now lost fl : Int) : ∃ p i r l, takeV x now lost fl = ⟨now, x.d, p, i, r, x.a, lost, fl, l⟩ := by
  cases hs : x.s
  · exact ⟨0, 0, 0, false, by unfold takeV; rw [hs, if_neg (by decide), h.none hs]⟩
  · exact ⟨_, _, _, _, by unfold takeV; rw [hs, if_pos rfl]⟩

set_option maxHeartbeats 4000000 in
set_option maxRecDepth 100000 in
theorem walk (a0 : Option Addr) (len0 cap0 : Nat) (z0 : List Int) (a1 : Int) (w : World) (w0 : IsRow .u64 w a0 len0 cap0 z0) (w1 : (Lit.int .i64 a1).wf = true) :
    Calls Try.prog 6 #[.slice a0 len0 cap0, .int .i64 a1] w fun e w' => e = .returned (.bool true) ∧ Below w.heap.size w w' := by
  obtain ⟨hlen, hmax, hrd, hbd⟩ := rd_of_row w0
  clear w0 w1
  generalize z0.take len0 = zs at *
  subst hlen
  have HD := Lib.hid hrd; have HNB := Lib.hid hbd; clear hrd hbd
  obtain ⟨u, hu⟩ : ∃ u : Nat, IntKind.u64.wrap a1 = (u : Int) := ⟨(IntKind.u64.wrap a1).toNat, by rw [IntKind.wrap_u64]; omega⟩
  obtain ⟨m, hm⟩ : ∃ m : Nat, (u : Int) % 60 = (m : Int) := ⟨u % 60, by omega⟩
  have hm60 : m < 60 := by omega
  go_enter Try.func6, Try.ntmps6
  go_wp2_with fail
  refine ((Room.begin w).snew).mono ?_
  rintro e w1 ⟨rfl, r1⟩
  have R1 := Lib.hid r1; clear r1
  generalize w.heap.size = g at *
  go_wp2_with fail
  refine R1.out.awakes.mono ?_
  rintro e w2 ⟨rfl, r2⟩
  have R2 := Lib.hid r2; clear r2 R1
  go_wp2_with fail
  refine (R2.out.ssent aws1 num0).mono ?_
  rintro e w3 ⟨rfl, r3⟩
  have R3 := Lib.hid (r3.box1 32 #[.int .u64 0, .int .u64 0, .int .u64 0, .int .u64 0, .bool false]); clear r3 R2
  go_wp2
  generalize hw : World.alloc w3 _ = w4 at *
  generalize w3.heap.size = bX at *
  clear hw hu hm
  go_loopw [7, 8, 9] (fun s p i wr => ∃ (k : Nat) (S P : Int) (x : Smp), k ≤ zs.length ∧ k ≤ 60 ∧ i = .int .i64 k ∧ s = .int .u64 S ∧ p = .int .u64 P ∧ 0 ≤ P ∧ P ≤ S ∧ S ≤ 1099511627776 * (k : Int) ∧ x.d = S ∧ x.a = P ∧ Room w wr [samT g x, blkT bX 32 #[.int .u64 0, .int .u64 0, .int .u64 0, .int .u64 0, .bool false]]) (fun _ _ i _ => 60 - (intOf i).toNat)
  case atStart => exact ⟨0, 0, 0, _, Nat.zero_le _, by omega, rfl, rfl, rfl, by omega, by omega, by omega, rfl, rfl, R3.out⟩
  case round =>
    obtain ⟨k, S, P, x, hk1, hk60, rfl, rfl, rfl, hP0, hPS, hSk, hxd, hxa, hR⟩ := hrel
    have HR := Lib.hid hR; clear hR R3
    by_cases hlt : k < zs.length ∧ k < 60
    · obtain ⟨hl1, hl2⟩ := hlt
      obtain ⟨b1, off1, rfl, hb1, hc1⟩ := HD.out k hl1
      have n1 := HNB.out k hl1
      have d1 : wr.cell? ⟨b1, off1 + k, none⟩ = some (.int .u64 (zs.getD k 0)) := (HR.out.bel.cell (p := ⟨b1, off1 + k, none⟩) hb1).trans hc1
      generalize zs.getD k 0 = z at *
      have hi1 : (k : Int) < (zs.length : Int) := by omega
      have hi2 : (k : Int) < 60 := by omega
      have hwk : IntKind.u64.wrap (k : Int) = (k : Int) := by rw [IntKind.wrap_u64]; omega
      obtain ⟨n, hn⟩ : ∃ n, z % 1099511627776 = n := ⟨_, rfl⟩
      have hn0 : 0 ≤ n := by omega
      have hn1 : n ≤ 1099511627775 := by omega
      have NN : Hid (Num n) := Lib.hid ⟨by omega, by omega⟩
      have NK : Hid (Num (k : Int)) := Lib.hid ⟨by omega, by omega⟩
      have WX : Hid (Whole wr bX 32 #[.int .u64 0, .int .u64 0, .int .u64 0, .int .u64 0, .bool false]) := Lib.hid HR.out.get1
      have c0 := WX.out.cell 0; have c1 := WX.out.cell 1; have c2 := WX.out.cell 2; have c3 := WX.out.cell 3; have c4 := WX.out.cell 4
      simp only [List.getElem?_toArray, List.getElem?_cons_succ, List.getElem?_cons_zero] at c0 c1 c2 c3 c4
      clear HD HNB hb1 hc1
      have HX := Lib.hid (⟨hxd, hxa⟩ : _ ∧ _)
      clear hxd hxa
      go_wp2_with fail
      have e1 : (ackS x k n ⟨0, 0, 0, 0, false⟩).d = S + n := by rw [ackS_d, HX.out.1]; exact satAdd_le (by omega)
      have e2 : (ackS x k n ⟨0, 0, 0, 0, false⟩).a = P + n := by rw [ackS_a, HX.out.2]; exact satAdd_le (by omega)
      refine (HR.out.sack (z := ⟨0, 0, 0, 0, false⟩) rfl NK.out NN.out ⟨num0, num0, num0, num0⟩).mono ?_
      rintro e w5 ⟨⟨_, rfl⟩, r5⟩
      generalize ackS x k n ⟨0, 0, 0, 0, false⟩ = y at *
      have R5 := Lib.hid r5; have HY := Lib.hid (⟨e1, e2⟩ : _ ∧ _)
      clear r5 HR WX c0 c1 c2 c3 c4 HX e1 e2 d1 hn
      go_wp2_with fail
      refine (R5.out.sdel HY.out.1).mono ?_
      rintro e w' ⟨rfl, rfl⟩
      have hSS : (S + n != S + n) = false := by simp
      have hPP : (P + n != P + n) = false := by simp
      by_cases hc : k = m
      · subst hc
        obtain ⟨p1, q1, r1, l1, hv1⟩ := takeV_is (R5.out.get0 : SamAt _ _ _).fit k 1 2
        rw [HY.out.1, HY.out.2] at hv1
        have HV := Lib.hid hv1
        clear hv1
        have hkk : ((k : Int) != (k : Int)) = false := by simp
        go_wp2_with fail
        refine (R5.out.stake ⟨HV.out, rfl⟩ NK.out).mono ?_
        rintro e w6 ⟨rfl, r6⟩
        have R6 := Lib.hid r6; clear r6 R5 HV
        go_wp2
        go_roundw
        case rel => exact ⟨k + 1, S + n, 0, takeS y, by omega, by omega, by go_num, rfl, rfl, by omega, by omega, by omega, HY.out.1, rfl, R6.out.alloc _⟩
        case measure => simp [intOf]; omega
      · have hkm : ((k : Int) == (m : Int)) = false := by simp; omega
        go_wp2
        go_roundw
        case rel => exact ⟨k + 1, S + n, P + n, y, by omega, by omega, by go_num, rfl, rfl, by omega, by omega, by omega, HY.out.1, HY.out.2, R5.out⟩
        case measure => simp [intOf]; omega
    · by_cases hl1 : k < zs.length
      · have hi1 : (k : Int) < (zs.length : Int) := by omega
        have hi2 : ¬ (k : Int) < 60 := by omega
        clear HD HNB
        obtain ⟨p1, q1, r1, l1, hv1⟩ := takeV_is (HR.out.get0 : SamAt _ _ _).fit 99 0 0
        go_wp2_with fail
        refine (HR.out.stake ⟨hv1, rfl⟩ (num_lit (a := 99) (by decide))).mono ?_
        rintro e w5 ⟨rfl, r5⟩
        have R5 := Lib.hid (r5.box1 38 #[.int .u64 99, .int .u64 x.d, .int .u64 p1, .int .u64 q1, .int .u64 r1, .int .u64 x.a, .int .u64 0, .int .u64 0, .bool l1]); clear r5 HR
        rw [hxd, hxa] at R5 ⊢
        go_wp2_with fail
        generalize hw : World.alloc w5 _ = w6 at *
        generalize w5.heap.size = bT at *
        clear hw hv1
        refine (R5.out.stake (v := ⟨100, S, 0, 0, 0, 0, 0, 0, false⟩) ⟨by rw [← hxd]; rfl, rfl⟩ (num_lit (a := 100) (by decide))).mono ?_
        rintro e w7 ⟨rfl, r7⟩
        have c5 : w7.cell? ⟨bT, 5, none⟩ = some (.int .u64 P) := Whole.cell r7.get1 5
        have R7 := Lib.hid r7; clear r7 R5
        have d5 : (w7.alloc (.cells #[.int .u64 100, .int .u64 S, .int .u64 0, .int .u64 0, .int .u64 0, .int .u64 0, .int .u64 0, .int .u64 0, .bool false] 38)).cell? ⟨bT, 5, none⟩ = some (.int .u64 P) := (((Keep.refl (fun _ => False) w7).alloc (.cells #[.int .u64 100, .int .u64 S, .int .u64 0, .int .u64 0, .int .u64 0, .int .u64 0, .int .u64 0, .int .u64 0, .bool false] 38)).cell (p := ⟨bT, 5, none⟩) (lt_of_cell c5) id).trans c5
        clear c5 hxd hxa
        have h1 : (P == P) = true := by simp
        have h2 : (S == S) = true := by simp
        go_wp2
        go_ret
        exact ⟨rfl, (R7.out.box _ _).bel⟩
      · have hi1 : ¬ (k : Int) < (zs.length : Int) := by omega
        clear HD HNB
        obtain ⟨p1, q1, r1, l1, hv1⟩ := takeV_is (HR.out.get0 : SamAt _ _ _).fit 99 0 0
        go_wp2_with fail
        refine (HR.out.stake ⟨hv1, rfl⟩ (num_lit (a := 99) (by decide))).mono ?_
        rintro e w5 ⟨rfl, r5⟩
        have R5 := Lib.hid (r5.box1 38 #[.int .u64 99, .int .u64 x.d, .int .u64 p1, .int .u64 q1, .int .u64 r1, .int .u64 x.a, .int .u64 0, .int .u64 0, .bool l1]); clear r5 HR
        rw [hxd, hxa] at R5 ⊢
        go_wp2_with fail
        generalize hw : World.alloc w5 _ = w6 at *
        generalize w5.heap.size = bT at *
        clear hw hv1
        refine (R5.out.stake (v := ⟨100, S, 0, 0, 0, 0, 0, 0, false⟩) ⟨by rw [← hxd]; rfl, rfl⟩ (num_lit (a := 100) (by decide))).mono ?_
        rintro e w7 ⟨rfl, r7⟩
        have c5 : w7.cell? ⟨bT, 5, none⟩ = some (.int .u64 P) := Whole.cell r7.get1 5
        have R7 := Lib.hid r7; clear r7 R5
        have d5 : (w7.alloc (.cells #[.int .u64 100, .int .u64 S, .int .u64 0, .int .u64 0, .int .u64 0, .int .u64 0, .int .u64 0, .int .u64 0, .bool false] 38)).cell? ⟨bT, 5, none⟩ = some (.int .u64 P) := (((Keep.refl (fun _ => False) w7).alloc (.cells #[.int .u64 100, .int .u64 S, .int .u64 0, .int .u64 0, .int .u64 0, .int .u64 0, .int .u64 0, .int .u64 0, .bool false] 38)).cell (p := ⟨bT, 5, none⟩) (lt_of_cell c5) id).trans c5
        clear c5 hxd hxa
        have h1 : (P == P) = true := by simp
        have h2 : (S == S) = true := by simp
        go_wp2
        go_ret
        exact ⟨rfl, (R7.out.box _ _).bel⟩

set_option maxRecDepth 100000 in
theorem lifted (os : Os) (started : os.Started) (H : Type) (enc : TypeId × Value → H) :
    ReturnsInHanded {} Try.checked os 6 .any (Rows.samplerSumsSpec.pre6 enc Try.prog Try.f6 Rows.samplerSumsRow.domain false) (Rows.samplerSumsSpec.post enc Try.prog Try.f6 false true false false) := by
  refine returnsInHanded_of_change (C := Try.checked) own started (by kernel_rfl) Try.func6
    (ChangeSpec.witness6 (enc := enc) (C := Try.checked) false ⟨#[], #[.slice none 0 0, .int .i64 0], []⟩ 8 (by kernel_rfl) (by kernel_rfl) (by kernel_rfl) (by kernel_rfl)) ?_
  intro W base args ds gs before hval0 hW hcnd _
  have hval : ∀ (j : Nat) t v, Try.f6.params[j]? = some t → args[j]? = some v → Value.okWide Try.prog W .any base t v := hval0
  have hW' := hW
  obtain ⟨p, q, hA0, hV, rfl, hfz, hnd⟩ := hW
  have hA : DataW.TrodAll enc Try.prog W 0 (fun _ => true) true Try.f6.params.toList args.toList ds p := hA0
  rw [Try.params6] at hA hval
  obtain ⟨v0, vs0, d0, ds0, p0, q0, hargs, rfl, rfl, h0, r0⟩ := trodAll_cons hA
  obtain ⟨v1, vs1, d1, ds1, p1, q1, rfl, rfl, rfl, h1, r1⟩ := trodAll_cons r0
  obtain ⟨rfl, rfl, rfl⟩ := trodAll_nil r1
  obtain rfl : args = #[v0, v1] := by cases args; simp_all
  obtain ⟨rfl, rfl⟩ := trodVars_none hV
  obtain ⟨a0, len0, cap0, rfl⟩ := okWide_slice Try.underlying46 (hval 0 46 v0 rfl rfl)
  have k0 := h0
  have lt0 : ∀ x ∈ p0, x.block < W.heap.size := by obtain ⟨m, hm⟩ := k0; exact DataW.trod_lt m _ _ _ hm
  obtain ⟨z0, w0⟩ : ∃ zs, IsRow .u64 W a0 len0 cap0 zs := by
    obtain ⟨fuel, hf⟩ := h0
    rcases open_ints Try.underlying46 Try.underlying26 (by kernel_rfl) hf with ⟨hcs, _⟩ | ⟨x, l, c, zs, hcs, _, hl, hm, hz, _, hcell, hwz⟩
    · simp [Value.cells] at hcs
      obtain ⟨rfl, rfl, rfl⟩ := hcs
      exact ⟨[], .inl ⟨rfl, rfl, rfl, rfl⟩⟩
    · simp [Value.cells] at hcs
      obtain ⟨rfl, rfl, rfl⟩ := hcs
      exact ⟨zs, .inr ⟨_, rfl, hl, hm, by simpa using hz, hcell, hwz⟩⟩
  obtain ⟨a1, rfl, rfl, rfl, w1⟩ := open_int Try.underlying3 (hval 1 3 v1 rfl rfl) h1
  clear hA0 hval0
  refine (walk a0 len0 cap0 z0 a1 W w0 w1).mono fun e W' ⟨he, bel⟩ => ?_
  subst he
  exact ⟨_, rfl, _, _, _, [], _, [], hW', trodAll_mk1 (shut_bool Try.underlying4 _), (trodAll_cons_mk (Below.trod laidOut (by kernel_rfl) (of_decide_eq_true (by kernel_rfl)) k0 bel lt0) (trodAll_cons_mk (shut_int Try.underlying3 w1) trodAll_mk0)), rfl, bel.frame _, fun h => by cases h⟩

theorem over : Rows.samplerSumsRow.holds Try.pinned (OpenSpec.ofChange Rows.samplerSumsSpec) :=
  OpenClaim.holds_of_wide 6 Try.f6 rfl rfl rfl rfl rfl rfl rfl ⟨rfl, rfl, rfl, rfl, rfl⟩ rfl rfl rfl rfl rfl (by kernel_rfl) Try.func6 (by kernel_rfl)
    (of_decide_eq_true (by kernel_rfl)) (by unfold Func.isWrapper; first | (rw [if_pos (by decide +kernel)]; kernel_rfl) | (rw [if_neg (by decide +kernel)]; exact ⟨rfl, rfl⟩))
    (fun os started H enc _ => lifted os started H enc)

theorem proved : Rows.SamplerSumsSaid := over
end Go.Proofs.Ytiilbdmldonipaa.samplerSums
namespace Go.Proofs.Ytiilbdmldonipaa
theorem samplerSums_holds : Rows.SamplerSumsSaid := samplerSums.proved
#print axioms samplerSums_holds
end Go.Proofs.Ytiilbdmldonipaa
