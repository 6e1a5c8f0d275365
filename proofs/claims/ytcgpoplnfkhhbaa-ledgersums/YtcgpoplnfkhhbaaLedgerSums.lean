/-
  Proved: canterlaw07.LedgerSums answers true at every two numbers and list of numbers, and leaves its arguments as they were. Conditions: none.
-/
import Derived.Test.YtcgpoplnfkhhbaaRows
import Derived.WalkKit
import Derived.ProofKit
import Derived.OpenShut
import Derived.ShutString
import Derived.ChangeOld
import Derived.Below
import Derived.Test.YtcgpoplnfkhhbaaAwakeL
namespace Go.Proofs.Ytcgpoplnfkhhbaa.ledgerSums
open Go.ChangeShapes Go.WideShapes Go.ChangeAt Go.RowKit
open Go.ChangeMaps (open_string shut_string)
set_option linter.unusedVariables false

theorem own : ownKnob Try.prog.godebug = none := by kernel_rfl
theorem laidOut : laidOutB Try.prog = true := by kernel_rfl

def IsRow (k : IntKind) (w : World) (a : Option Addr) (len cap : Nat) (zs : List Int) : Prop :=
  (a = none ∧ len = 0 ∧ cap = 0 ∧ zs = []) ∨
  ∃ x, a = some x ∧ len ≤ cap ∧ cap ≤ maxLen ∧ zs.length = cap ∧ (∀ i, i < zs.length → w.cell? (x.add i) = some (.int k (zs.getD i 0))) ∧ ∀ n ∈ zs, (Lit.int k n).wf = true

theorem rd_fates {w : World} {a : Option Addr} {len cap : Nat} {z : List Int} (h : IsRow .i64 w a len cap z) :
    (z.take len).length = len ∧ len ≤ 9223372036854775807 ∧ Rd .i64 w a (z.take len) := by
  rcases h with ⟨rfl, rfl, rfl, rfl⟩ | ⟨x, rfl, hl, hm, hz, hc, hw⟩
  · exact ⟨rfl, by omega, fun i hi => by simp at hi⟩
  · have hlen : (z.take len).length = len := by simp; omega
    have eg : ∀ i, i < len → (z.take len).getD i 0 = z.getD i 0 := fun i hi => by simp [List.getD_eq_getElem?_getD, hi]
    refine ⟨hlen, by unfold maxLen at hm; omega, fun i hi => ?_⟩
    rw [hlen] at hi
    obtain ⟨b, off, e, hat⟩ := ints_at hc (by omega)
    subst e
    have hcell := hat i (by omega)
    exact ⟨b, off, rfl, lt_of_cell hcell, by rw [eg i hi]; exact hcell⟩
theorem note_acc (F : Nat → Int) {k : Nat} (hk : k < 8) : noteE F k 0 = 0 ∧ noteF F k 0 = updN F (k * 6 + 0) (F (k * 6 + 0) + 1) := by
  have h : noteE F k 0 = 0 := by unfold noteE; rw [if_neg (by omega), if_neg (by omega), if_neg (by simp)]
  refine ⟨h, ?_⟩
  unfold noteF
  rw [if_pos h]
  rfl
theorem note_fate (F : Nat → Int) {k j : Nat} (hk : k < 8) (hj : j < 5) (hw : waitN F k ≠ 0) : noteE F k (1 + (j : Int)) = 0 ∧ noteF F k (1 + (j : Int)) = updN F (k * 6 + (j + 1)) (F (k * 6 + (j + 1)) + 1) := by
  have h : noteE F k (1 + (j : Int)) = 0 := by unfold noteE; rw [if_neg (by omega), if_neg (by omega), if_neg (fun h => hw (by simpa using h.2))]
  refine ⟨h, ?_⟩
  unfold noteF
  rw [if_pos h, show (1 + (j : Int)).toNat = j + 1 by omega, show ((k : Int)).toNat = k by omega]
theorem note_none (F : Nat → Int) {k j : Nat} (hk : k < 8) (hj : j < 5) (hw : waitN F k = 0) : noteE F k (1 + (j : Int)) = 7 ∧ noteF F k (1 + (j : Int)) = F := by
  have h : noteE F k (1 + (j : Int)) = 7 := by unfold noteE; rw [if_neg (by omega), if_neg (by omega), if_pos ⟨by omega, by simpa using hw⟩]
  refine ⟨h, ?_⟩
  unfold noteF
  rw [if_neg (by rw [h]; decide)]
/-- Of socket k n were accepted, of which r wait; i notes at most were taken. -/
structure Sum (w : World) (g k n r i : Nat) (F : Nat → Int) : Prop where
  at_ : LedAt w g i F
  acc : F (k * 6) = n
  wait : waitN F k = r
  all : Waits F
theorem Sum.accept {w w' : World} {g k n i : Nat} {F : Nat → Int} (h : Sum w g k n n i F) (hk : k < 8) (h' : LedAt w' g (i + 1) (updN F (k * 6 + 0) (F (k * 6 + 0) + 1))) : Sum w' g k (n + 1) (n + 1) (i + 1) (updN F (k * 6 + 0) (F (k * 6 + 0) + 1)) :=
  ⟨h', by rw [Nat.add_zero, updN_same, h.acc]; rfl, by rw [waitN_add F k 0 k (by decide), if_pos rfl, if_pos rfl, h.wait]; rfl, by have := h.all.note k 0; rwa [(note_acc F hk).2] at this⟩
theorem Sum.fate {w w' : World} {g k n r i j : Nat} {F : Nat → Int} (h : Sum w g k n (r + 1) i F) (hk : k < 8) (hj : j < 5) (h' : LedAt w' g (i + 1) (updN F (k * 6 + (j + 1)) (F (k * 6 + (j + 1)) + 1))) : Sum w' g k n r (i + 1) (updN F (k * 6 + (j + 1)) (F (k * 6 + (j + 1)) + 1)) :=
  ⟨h', by rw [updN_ne _ _ (by omega), h.acc], by rw [waitN_add F k (j + 1) k (by omega), if_pos rfl, if_neg (by omega), h.wait]; omega, by have := h.all.note k (1 + (j : Int)); rwa [(note_fate F hk hj (by rw [h.wait]; omega)).2] at this⟩
theorem Sum.keep {w w' : World} {g k n r i : Nat} {F : Nat → Int} {S : Nat → Prop} (h : Sum w g k n r i F) (hk : Keep S w w') (hg : ¬ S g) : Sum w' g k n r i F := ⟨h.at_.keep hk hg, h.acc, h.wait, h.all⟩
theorem Sum.count {w : World} {g k n r i : Nat} {F : Nat → Int} (h : Sum w g k n r i F) (hk : k < 8) : ∃ x2 x3 x4 x5 x6, (countC F k = ⟨k, n, x2, x3, x4, x5, x6, r⟩ ∧ checkE k = 0) ∧ cntN F k = ⟨k, n, x2, x3, x4, x5, x6, r⟩ := by
  have e : cntN F k = ⟨k, n, F (k * 6 + 1), F (k * 6 + 2), F (k * 6 + 3), F (k * 6 + 4), F (k * 6 + 5), r⟩ := by unfold cntN; rw [h.acc, h.wait]
  refine ⟨_, _, _, _, _, ⟨?_, if_neg (by omega)⟩, e⟩
  rw [← e]
  exact (if_neg (by omega)).trans (by simp)

set_option maxHeartbeats 2000000 in
set_option maxRecDepth 100000 in
theorem walk (a0 : Int) (a1 : Int) (a2 : Option Addr) (len2 cap2 : Nat) (z2 : List Int) (w : World) (w0 : (Lit.int .i64 a0).wf = true) (w1 : (Lit.int .i64 a1).wf = true) (w2 : IsRow .i64 w a2 len2 cap2 z2) :
    Calls Try.prog 5 #[.int .i64 a0, .int .i64 a1, .slice a2 len2 cap2] w fun e w' => e = .returned (.bool true) ∧ Below w.heap.size w w' := by
  obtain ⟨hlen, hmax, hrd⟩ := rd_fates w2
  clear w0 w1 w2
  generalize z2.take len2 = zs at *
  subst hlen
  have HRD := Lib.hid hrd; clear hrd
  obtain ⟨u, hu⟩ : ∃ u : Nat, IntKind.u64.wrap a0 = (u : Int) := ⟨(IntKind.u64.wrap a0).toNat, by rw [IntKind.wrap_u64]; omega⟩
  obtain ⟨u', hu'⟩ : ∃ u' : Nat, IntKind.u64.wrap a1 = (u' : Int) := ⟨(IntKind.u64.wrap a1).toNat, by rw [IntKind.wrap_u64]; omega⟩
  go_enter Try.func5, Try.ntmps5
  go_wp2_with fail
  obtain ⟨k, hk⟩ : ∃ k : Nat, (u : Int) % 8 = (k : Int) := ⟨u % 8, by omega⟩
  obtain ⟨m, hm⟩ : ∃ m : Nat, (u' : Int) % 40 = (m : Int) := ⟨u' % 40, by omega⟩
  have hk8 : k < 8 := by omega
  have hm40 : m < 40 := by omega
  rw [hk, hm]
  clear hk hm hu hu'
  refine (lnew_any _).mono ?_
  rintro e w1 ⟨rfl, h1, k1⟩
  have H1 := Lib.hid h1; have K1 := Lib.hid k1; clear h1 k1
  go_wp2_with fail
  refine (awakel_any _).mono ?_
  rintro e w2 ⟨rfl, k2⟩
  have S2 : Hid (Sum w2 w.heap.size k 0 0 0 (fun _ => 0)) := Lib.hid ⟨H1.out.kept k2, rfl, by simp [waitN], Waits.zero⟩
  have K2 := Lib.hid ((K1.out.trans k2).below (Nat.le_refl _) (fun _ h => h.elim)); clear k2 H1 K1
  go_wp2
  go_loopw [8] (fun i wr => ∃ (n : Nat) (F : Nat → Int), n ≤ m ∧ i = .int .i64 n ∧ Sum wr w.heap.size k n n n F ∧ Below w.heap.size w wr) (fun i _ => m - (intOf i).toNat)
  case atStart => exact ⟨0, _, Nat.zero_le _, rfl, S2.out, K2.out⟩
  case round =>
    obtain ⟨n, F, hn, rfl, hS, hB⟩ := hrel
    have HS := Lib.hid hS; have HB := Lib.hid hB; clear hS hB S2 K2
    by_cases hlt : n < m
    · have hi1 : (n : Int) < (m : Int) := by omega
      go_wp2_with (go_at_call 8; (with_reducible refine (note_is (note_acc F hk8) _ _ (by omega) HS.out.at_).mono ?_); rintro e w3 ⟨rfl, h3, k3⟩; have H3 := Lib.hid (HS.out.accept hk8 h3); have B3 := Lib.hid (HB.out.trans (k3.below HB.out.size (fun j h => by omega))); clear h3 k3)
      go_roundw
      case rel => exact ⟨n + 1, _, by omega, by go_num, H3.out, B3.out⟩
      case measure => simp [intOf]; omega
    · obtain rfl : m = n := by omega
      clear hn hlt
      go_wp2
      go_loopw [9, 10] (fun r i wr => ∃ (r' i' : Nat) (F : Nat → Int), i' ≤ zs.length ∧ i' ≤ 60 ∧ r = .int .i64 r' ∧ r' ≤ 40 ∧ i = .int .i64 i' ∧ Sum wr w.heap.size k m r' (m + i') F ∧ Below w.heap.size w wr) (fun _ i _ => 60 - (intOf i).toNat)
      case atStart => exact ⟨m, 0, _, Nat.zero_le _, by omega, rfl, by omega, rfl, HS.out, HB.out⟩
      case round =>
        obtain ⟨r, i, F, hi, hi60, rfl, hr40, rfl, hS, hB⟩ := hrel
        clear HS HB
        have HS := Lib.hid hS; have HB := Lib.hid hB; clear hS hB
        by_cases hlt : i < zs.length ∧ i < 60
        · obtain ⟨hl1, hl2⟩ := hlt
          obtain ⟨b, off, rfl, hbl, hc⟩ := HRD.out.below HB.out i hl1
          have hi1 : (i : Int) < (zs.length : Int) := by omega
          have hi2 : (i : Int) < 60 := by omega
          obtain ⟨v, hv⟩ : ∃ v : Nat, IntKind.u64.wrap (zs.getD i 0) = (v : Int) := ⟨(IntKind.u64.wrap (zs.getD i 0)).toNat, by rw [IntKind.wrap_u64]; omega⟩
          generalize zs.getD i 0 = x at *
          obtain ⟨j, hj⟩ : ∃ j : Nat, (v : Int) % 5 = (j : Int) := ⟨v % 5, by omega⟩
          have hj5 : j < 5 := by omega
          rcases (by omega : r = 0 ∨ r = 1 ∨ 2 ≤ r) with h0 | h0 | h0
          · subst h0
            go_wp2_with fail
            rw [hj]
            refine (note_is (note_none F hk8 hj5 HS.out.wait) _ _ (by omega) HS.out.at_).mono ?_
            rintro e w4 ⟨rfl, h4, k4⟩
            have H4 : Hid (Sum w4 w.heap.size k m 0 (m + (i + 1)) F) := Lib.hid ⟨h4, HS.out.acc, HS.out.wait, HS.out.all⟩
            have B4 := Lib.hid (HB.out.trans (k4.below HB.out.size (fun j h => by omega)))
            clear h4 k4 hj hv HS HB hc
            go_wp2
            go_roundw
            case rel => exact ⟨0, i + 1, _, by omega, by omega, rfl, by omega, by go_num, H4.out, B4.out⟩
            case measure => simp [intOf]; omega
          · subst h0
            go_wp2_with fail
            rw [hj]
            refine (note_is (note_fate F hk8 hj5 (by rw [HS.out.wait]; decide)) _ _ (by omega) HS.out.at_).mono ?_
            rintro e w4 ⟨rfl, h4, k4⟩
            have H4 : Hid (Sum w4 w.heap.size k m 0 (m + (i + 1)) _) := Lib.hid (HS.out.fate hk8 hj5 h4)
            have B4 := Lib.hid (HB.out.trans (k4.below HB.out.size (fun j h => by omega)))
            clear h4 k4 hj hv HS HB hc
            go_wp2
            go_roundw
            case rel => exact ⟨0, i + 1, _, by omega, by omega, rfl, by omega, by go_num, H4.out, B4.out⟩
            case measure => simp [intOf]; omega
          · obtain ⟨s, rfl⟩ : ∃ s, r = s + 1 := ⟨r - 1, by omega⟩
            have hs0 : (0 : Int) < (s : Int) := by omega
            have hs1 : ((s + 1 : Nat) : Int) - 1 = s := by omega
            have hs2 : (0 : Int) < ((s + 1 : Nat) : Int) := by omega
            go_wp2_with fail
            rw [hj]
            refine (note_is (note_fate F hk8 hj5 (by rw [HS.out.wait]; omega)) _ _ (by omega) HS.out.at_).mono ?_
            rintro e w4 ⟨rfl, h4, k4⟩
            have H4 : Hid (Sum w4 w.heap.size k m s (m + (i + 1)) _) := Lib.hid (HS.out.fate hk8 hj5 h4)
            have B4 := Lib.hid (HB.out.trans (k4.below HB.out.size (fun j h => by omega)))
            clear h4 k4 hj hv HS HB hc
            go_wp2
            go_roundw
            case rel => exact ⟨s, i + 1, _, by omega, by omega, by go_num, by omega, by go_num, H4.out, B4.out⟩
            case measure => simp [intOf]; omega
        · obtain ⟨x2, x3, x4, x5, x6, hcnt, hcn⟩ := HS.out.count hk8
          have hbal := bal_of HS.out.at_ (by omega) HS.out.all k
          rw [hcn] at hbal
          have HBAL := Lib.hid hbal; have HCNT := Lib.hid hcnt
          clear hcnt hcn hbal
          have f1 : ((r : Int) == (r : Int)) = true := by simp
          have f2 : ((m : Int) == (m : Int)) = true := by simp
          have f3 : ((k : Int) == (k : Int)) = true := by simp
          have hfin : ¬ (i : Int) < (zs.length : Int) ∨ ¬ (i : Int) < 60 := by omega
          rcases hfin with hf | hf
          · go_wp2_with fail
            refine (lcount_is HCNT.out _ _ (by omega) HS.out.at_).mono ?_
            rintro e w5 ⟨rfl, k5⟩
            have B5 := Lib.hid (HB.out.trans (k5.below HB.out.size (fun j h => h.elim)))
            have B6 := Lib.hid (B5.out.alloc B5.out.size (.cells #[.int .i64 k, .int .i64 m, .int .i64 x2, .int .i64 x3, .int .i64 x4, .int .i64 x5, .int .i64 x6, .int .i64 r] 28))
            clear k5 HB HS
            go_wp2_with fail
            refine (balanced_is _ HBAL.out).mono ?_
            rintro e w7 ⟨rfl, k7⟩
            have B7 := Lib.hid (B6.out.trans (k7.below B6.out.size (fun j h => h.elim)))
            clear k7 B5 B6
            go_wp2
            go_ret
            exact ⟨rfl, B7.out⟩
          · by_cases hf1 : (i : Int) < (zs.length : Int)
            · go_wp2_with fail
              refine (lcount_is HCNT.out _ _ (by omega) HS.out.at_).mono ?_
              rintro e w5 ⟨rfl, k5⟩
              have B5 := Lib.hid (HB.out.trans (k5.below HB.out.size (fun j h => h.elim)))
              have B6 := Lib.hid (B5.out.alloc B5.out.size (.cells #[.int .i64 k, .int .i64 m, .int .i64 x2, .int .i64 x3, .int .i64 x4, .int .i64 x5, .int .i64 x6, .int .i64 r] 28))
              clear k5 HB HS
              go_wp2_with fail
              refine (balanced_is _ HBAL.out).mono ?_
              rintro e w7 ⟨rfl, k7⟩
              have B7 := Lib.hid (B6.out.trans (k7.below B6.out.size (fun j h => h.elim)))
              clear k7 B5 B6
              go_wp2
              go_ret
              exact ⟨rfl, B7.out⟩
            · go_wp2_with fail
              refine (lcount_is HCNT.out _ _ (by omega) HS.out.at_).mono ?_
              rintro e w5 ⟨rfl, k5⟩
              have B5 := Lib.hid (HB.out.trans (k5.below HB.out.size (fun j h => h.elim)))
              have B6 := Lib.hid (B5.out.alloc B5.out.size (.cells #[.int .i64 k, .int .i64 m, .int .i64 x2, .int .i64 x3, .int .i64 x4, .int .i64 x5, .int .i64 x6, .int .i64 r] 28))
              clear k5 HB HS
              go_wp2_with fail
              refine (balanced_is _ HBAL.out).mono ?_
              rintro e w7 ⟨rfl, k7⟩
              have B7 := Lib.hid (B6.out.trans (k7.below B6.out.size (fun j h => h.elim)))
              clear k7 B5 B6
              go_wp2
              go_ret
              exact ⟨rfl, B7.out⟩

set_option maxRecDepth 100000 in
theorem lifted (os : Os) (started : os.Started) (H : Type) (enc : TypeId × Value → H) :
    ReturnsInHanded {} Try.checked os 5 .any (Rows.ledgerSumsSpec.pre6 enc Try.prog Try.f5 Rows.ledgerSumsRow.domain false) (Rows.ledgerSumsSpec.post enc Try.prog Try.f5 false true false false) := by
  refine returnsInHanded_of_change (C := Try.checked) own started (by kernel_rfl) Try.func5
    (ChangeSpec.witness6 (enc := enc) (C := Try.checked) false ⟨#[], #[.int .i64 0, .int .i64 0, .slice none 0 0], []⟩ 8 (by kernel_rfl) (by kernel_rfl) (by kernel_rfl) (by kernel_rfl)) ?_
  intro W base args ds gs before hval0 hW hcnd _
  have hval : ∀ (j : Nat) t v, Try.f5.params[j]? = some t → args[j]? = some v → Value.okWide Try.prog W .any base t v := hval0
  have hW' := hW
  obtain ⟨p, q, hA0, hV, rfl, hfz, hnd⟩ := hW
  have hA : DataW.TrodAll enc Try.prog W 0 (fun _ => true) true Try.f5.params.toList args.toList ds p := hA0
  rw [Try.params5] at hA hval
  obtain ⟨v0, vs0, d0, ds0, p0, q0, hargs, rfl, rfl, h0, r0⟩ := trodAll_cons hA
  obtain ⟨v1, vs1, d1, ds1, p1, q1, rfl, rfl, rfl, h1, r1⟩ := trodAll_cons r0
  obtain ⟨v2, vs2, d2, ds2, p2, q2, rfl, rfl, rfl, h2, r2⟩ := trodAll_cons r1
  obtain ⟨rfl, rfl, rfl⟩ := trodAll_nil r2
  obtain rfl : args = #[v0, v1, v2] := by cases args; simp_all
  obtain ⟨rfl, rfl⟩ := trodVars_none hV
  obtain ⟨a0, rfl, rfl, rfl, w0⟩ := open_int Try.underlying3 (hval 0 3 v0 rfl rfl) h0
  obtain ⟨a1, rfl, rfl, rfl, w1⟩ := open_int Try.underlying3 (hval 1 3 v1 rfl rfl) h1
  obtain ⟨a2, len2, cap2, rfl⟩ := okWide_slice Try.underlying48 (hval 2 48 v2 rfl rfl)
  have k2 := h2
  have lt2 : ∀ x ∈ p2, x.block < W.heap.size := by obtain ⟨m, hm⟩ := k2; exact DataW.trod_lt m _ _ _ hm
  obtain ⟨z2, w2⟩ : ∃ zs, IsRow .i64 W a2 len2 cap2 zs := by
    obtain ⟨fuel, hf⟩ := h2
    rcases open_ints Try.underlying48 Try.underlying3 (by kernel_rfl) hf with ⟨hcs, _⟩ | ⟨x, l, c, zs, hcs, _, hl, hm, hz, _, hcell, hwz⟩
    · simp [Value.cells] at hcs
      obtain ⟨rfl, rfl, rfl⟩ := hcs
      exact ⟨[], .inl ⟨rfl, rfl, rfl, rfl⟩⟩
    · simp [Value.cells] at hcs
      obtain ⟨rfl, rfl, rfl⟩ := hcs
      exact ⟨zs, .inr ⟨_, rfl, hl, hm, by simpa using hz, hcell, hwz⟩⟩
  clear hA0 hval0
  refine (walk a0 a1 a2 len2 cap2 z2 W w0 w1 w2).mono fun e W' ⟨he, bel⟩ => ?_
  subst he
  exact ⟨_, rfl, _, _, _, [], _, [], hW', trodAll_mk1 (shut_bool Try.underlying4 _), (trodAll_cons_mk (shut_int Try.underlying3 w0) (trodAll_cons_mk (shut_int Try.underlying3 w1) (trodAll_cons_mk (Below.trod laidOut (by kernel_rfl) (of_decide_eq_true (by kernel_rfl)) k2 bel lt2) trodAll_mk0))), rfl, bel.frame _, fun h => by cases h⟩

theorem over : Rows.ledgerSumsRow.holds Try.pinned (OpenSpec.ofChange Rows.ledgerSumsSpec) :=
  OpenClaim.holds_of_wide 5 Try.f5 rfl rfl rfl rfl rfl rfl rfl ⟨rfl, rfl, rfl, rfl, rfl⟩ rfl rfl rfl rfl rfl (by kernel_rfl) Try.func5 (by kernel_rfl)
    (of_decide_eq_true (by kernel_rfl)) (by unfold Func.isWrapper; first | (rw [if_pos (by decide +kernel)]; kernel_rfl) | (rw [if_neg (by decide +kernel)]; exact ⟨rfl, rfl⟩))
    (fun os started H enc _ => lifted os started H enc)

theorem proved : Rows.LedgerSumsSaid := over
end Go.Proofs.Ytcgpoplnfkhhbaa.ledgerSums
namespace Go.Proofs.Ytcgpoplnfkhhbaa
theorem ledgerSums_holds : Rows.LedgerSumsSaid := ledgerSums.proved
#print axioms ledgerSums_holds
end Go.Proofs.Ytcgpoplnfkhhbaa
