/-
  Proved: canterlaw08.WinmaxResets answers true at every five numbers and list of deeds, and leaves its arguments as they were. Conditions: none.
-/
import Derived.Test.YtbidijppdahdaaaRows
import Derived.WalkKit
import Derived.ProofKit
import Derived.OpenShut
import Derived.ShutString
import Derived.Below
import Derived.Test.YtbidijppdahdaaaAwakeX
import Derived.Test.YtbidijppdahdaaaOpenO
namespace Go.Proofs.Ytbidijppdahdaaa.winmaxResets
open Go.ChangeShapes Go.WideShapes Go.ChangeAt Go.RowKit
set_option linter.unusedVariables false

theorem own : ownKnob Try.prog.godebug = none := by kernel_rfl
theorem laidOut : laidOutB Try.prog = true := by kernel_rfl

theorem top_zero {t : Int} (h : 0 ≤ t) : topT t 0 = t := if_pos h
theorem res_first {win t v : Int} (hw : 0 ≤ win) (ht : 0 ≤ t) (hv : 0 ≤ v) : updT false win (newT 0) t v = allT t t v ∧ (allT t t v).v0 = v := by
  have := updT_beats (least := false) (win := win) (t := t) (v := v) (x := newT 0) hv hw
  rw [show (newT 0).l = 0 from rfl, top_zero ht] at this
  exact ⟨this, rfl⟩
theorem res_more {win t u v w : Int} (hw : 0 ≤ win) (hu : u ≤ t) (h : v ≤ w) : (updT false win (allT t t v) u w).v0 = w := by
  rw [updT_beats (least := false) (win := win) (t := u) (v := w) (x := allT t t v) h hw]; rfl
theorem res_less {win t u v w : Int} (hw : 0 ≤ win) (hu : u ≤ t) (h : w < v) : (updT false win (allT t t v) u w).v0 = v := by
  have hT : topT u t = t := by unfold topT; split <;> omega
  exact (updT_stays (least := false) (win := win) (t := u) (v := w) (x := allT t t v) (fun h' => by have h' : v ≤ w := h'; omega) (by show topT u t - t ≤ win; rw [hT]; omega) (by show topT u t - t ≤ win; rw [hT]; omega)).2

set_option maxHeartbeats 4000000 in
set_option maxRecDepth 100000 in
theorem walk (a0 : Int) (a1 : Option Addr) (cap1 : Nat) (z1 : List Deed) (a2 : Int) (a3 : Int) (a4 : Int) (a5 : Int) (w : World) (w0 : (Lit.int .u64 a0).wf = true) (c1 : z1.length ≤ 9223372036854775807) (r1 : RdO w a1 z1) (w2 : (Lit.int .u64 a2).wf = true) (w3 : (Lit.int .u64 a3).wf = true) (w4 : (Lit.int .u64 a4).wf = true) (w5 : (Lit.int .u64 a5).wf = true) :
    Calls Try.prog 6 #[.int .u64 a0, .slice a1 z1.length cap1, .int .u64 a2, .int .u64 a3, .int .u64 a4, .int .u64 a5] w fun e w' => e = .returned (.bool true) ∧ Below w.heap.size w w' := by
  have N0 : Hid (Num a0) := Lib.hid (bounds_u64 w0)
  have N2 : Hid (Num a2) := Lib.hid (bounds_u64 w2)
  have N3 : Hid (Num a3) := Lib.hid (bounds_u64 w3)
  have N4 : Hid (Num a4) := Lib.hid (bounds_u64 w4)
  have N5 : Hid (Num a5) := Lib.hid (bounds_u64 w5)
  have HR := Lib.hid r1
  have hea : (a3 == a3) = true := by simp
  have heb : (a4 == a4) = true := by simp
  clear w0 w2 w3 w4 w5 r1
  go_enter Try.func6, Try.ntmps6
  go_wp2_with fail
  refine (xnew_any a0 N0.out _).mono ?_
  rintro e w1 ⟨rfl, h1, k1⟩
  have H1 := Lib.hid h1; have K1 := Lib.hid k1; clear h1 k1
  go_wp2_with fail
  refine (awakex_any _).mono ?_
  rintro e w2 ⟨rfl, k2⟩
  have H2 := Lib.hid (H1.out.kept k2); have K2 := Lib.hid ((K1.out.trans k2).below (Nat.le_refl _) (fun _ h => h.elim)); clear k2 H1 K1
  obtain ⟨g, hg⟩ : ∃ g, w.heap.size = g := ⟨_, rfl⟩
  rw [hg] at H2 ⊢
  have hgle : w.heap.size ≤ g := by omega
  clear hg
  go_wp2
  go_loopw [14] (fun i wr => ∃ (i' : Nat) (x : Tri), i' ≤ z1.length ∧ i' ≤ 40 ∧ i = .int .i64 i' ∧ MaxAt wr g a0 x ∧ Below w.heap.size w wr) (fun i _ => 40 - (intOf i).toNat)
  case atStart => exact ⟨0, _, Nat.zero_le _, by omega, rfl, H2.out, K2.out⟩
  case round =>
    obtain ⟨i, x, hi, hi40, rfl, hX, hB⟩ := hrel
    have HX := Lib.hid hX; have HB := Lib.hid hB; clear hX hB H2 K2
    by_cases hlt : i < z1.length ∧ i < 40
    · obtain ⟨hl1, hl2⟩ := hlt
      obtain ⟨⟨s, f, r, hs, hf⟩, hsf⟩ : ∃ d, z1[i]? = some d := ⟨_, List.getElem?_eq_getElem hl1⟩
      obtain ⟨b, off, rfl, -⟩ := HR.out i _ hsf
      have HC : Hid (∀ W, Below w.heap.size w W → W.cell? ⟨b, off + i * 3, none⟩ = some (.int .u64 s) ∧ W.cell? ⟨b, off + i * 3 + 1, none⟩ = some (.int .u64 f)) := Lib.hid (fun W hW => by
        obtain ⟨_, _, e, _, h1, h2, _⟩ := HR.out.below hW i _ hsf
        cases e; exact ⟨h1, h2⟩)
      have hi1 : (i : Int) < (z1.length : Int) := by omega
      have hi2 : (i : Int) < 40 := by omega
      have HS := Lib.hid hs; have HF := Lib.hid hf
      clear hsf HR hs hf
      go_wp2
      refine wp_region_sch (fun W => W.cell? ⟨b, off + i * 3, none⟩ = some (.int .u64 s) ∧ W.cell? ⟨b, off + i * 3 + 1, none⟩ = some (.int .u64 f)) [(true, 0), (true, 1), (true, 2), (true, 3), (true, 4), (true, 5), (true, 6), (true, 7), (true, 8), (true, 9), (true, 10), (false, 11)] (by kernel_rfl) (by kernel_rfl) (by kernel_rfl) (by kernel_rfl) (HC.out _ HB.out.drew) ?_
      (repeat (refine wpSch_yes (v := ?_) rfl (fun _ _ _ h => h) (by rfl) ?_ ?_; rotate_left; (next => (intro w hSw; (try dsimp only at hSw); obtain ⟨hS1, hS2⟩ := hSw; go_simp; (try with_reducible rfl))); (try simp only [Act.put, List.setIfInBounds_toArray, List.set_cons_zero, List.set_cons_succ])))
      refine wpSch_call rfl (by rfl) (fun K hK => ?_)
      go_simp
      refine (xupd_any g a0 s f x _ HX.out.drew HS.out HF.out).mono ?_
      rintro e w3 ⟨rfl, h3, k3⟩
      have H3 := Lib.hid h3; have B3 := Lib.hid (HB.out.drew.trans (k3.below HB.out.size (fun j h => by omega))); clear h3 k3
      refine hK.out _ _ (HC.out _ B3.out) (fun hHeld => ?_)
      clear hK K hHeld
      (try simp only [Act.put, List.setIfInBounds_toArray, List.set_cons_zero, List.set_cons_succ])
      refine wpSch_nil ?_
      go_wp2
      go_roundw
      case rel => exact ⟨i + 1, _, by omega, by omega, by go_num, H3.out, B3.out⟩
      case measure => simp [intOf]; omega
    · clear HR
      rcases (by omega : ¬ (i : Int) < (z1.length : Int) ∨ ((i : Int) < (z1.length : Int) ∧ ¬ (i : Int) < 40)) with hff | ⟨hf1, hff⟩
      · clear hlt
        go_wp2_with fail
        rcases Int.lt_trichotomy a3 a4 with hvw | hvw | hvw
        · skip
          refine (xres_any g a0 a2 a3 _ _ HX.out N2.out N3.out).mono ?_
          rintro e w2 ⟨⟨_, rfl⟩, h2, k2⟩
          have H2 := Lib.hid h2; have B2 := Lib.hid (HB.out.trans (k2.below HB.out.size (fun j h => by omega))); clear h2 k2
          go_wp2_with fail
          refine (xbest_is (a := a3) rfl _ _ H2.out).mono ?_
          rintro e w' ⟨rfl, rfl⟩
          go_wp2_with fail
          refine (xnew_any a0 N0.out _).mono ?_
          rintro e w3 ⟨rfl, h3, k3⟩
          have H3 := Lib.hid h3; have B3 := Lib.hid (B2.out.trans (k3.below B2.out.size (fun j h => h.elim))); have hg3 := B2.out.size; clear h3 k3
          generalize w2.heap.size = g3 at *
          go_wp2_with fail
          refine (xupd_is (res_first N0.out.1 N2.out.1 N3.out.1) _ _ H3.out N2.out N3.out).mono ?_
          rintro e w4 ⟨rfl, h4, k4⟩
          have H4 := Lib.hid h4; have B4 := Lib.hid (B3.out.trans (k4.below B3.out.size (fun j h => by omega))); clear h4 k4
          go_wp2_with fail
          refine (xupd_is ⟨rfl, res_more N0.out.1 (Int.le_refl _) (Int.le_of_lt hvw)⟩ _ _ H4.out N2.out N4.out).mono ?_
          rintro e w5 ⟨rfl, h5, k5⟩
          have B5 := Lib.hid (B4.out.trans (k5.below B4.out.size (fun j h => by omega))); clear h5 k5
          go_wp2_with fail
          refine (xnew_any a0 N0.out _).mono ?_
          rintro e w6 ⟨rfl, h6, k6⟩
          have H6 := Lib.hid h6; have B6 := Lib.hid (B5.out.trans (k6.below B5.out.size (fun j h => h.elim))); have hg6 := B5.out.size; clear h6 k6
          generalize w5.heap.size = g6 at *
          go_wp2_with fail
          refine (xupd_is (res_first N0.out.1 N2.out.1 N3.out.1) _ _ H6.out N2.out N3.out).mono ?_
          rintro e w7 ⟨rfl, h7, k7⟩
          have H7 := Lib.hid h7; have B7 := Lib.hid (B6.out.trans (k7.below B6.out.size (fun j h => by omega))); clear h7 k7
          rcases Int.lt_trichotomy a2 a5 with htb | htb | htb
          · go_wp2_with fail
            refine (xupd_is ⟨rfl, res_more N0.out.1 (Int.le_refl _) (Int.le_of_lt hvw)⟩ _ _ H7.out N2.out N4.out).mono ?_
            rintro e w8 ⟨rfl, h8, k8⟩
            have B8 := Lib.hid (B7.out.trans (k8.below B7.out.size (fun j h => by omega))); clear h8 k8
            go_wp2
            go_ret
            exact ⟨rfl, B8.out⟩
          · subst htb
            go_wp2_with fail
            refine (xupd_is ⟨rfl, res_more N0.out.1 (Int.le_refl _) (Int.le_of_lt hvw)⟩ _ _ H7.out N2.out N4.out).mono ?_
            rintro e w8 ⟨rfl, h8, k8⟩
            have B8 := Lib.hid (B7.out.trans (k8.below B7.out.size (fun j h => by omega))); clear h8 k8
            go_wp2
            go_ret
            exact ⟨rfl, B8.out⟩
          · go_wp2_with fail
            refine (xupd_is ⟨rfl, res_more N0.out.1 (by omega) (Int.le_of_lt hvw)⟩ _ _ H7.out N5.out N4.out).mono ?_
            rintro e w8 ⟨rfl, h8, k8⟩
            have B8 := Lib.hid (B7.out.trans (k8.below B7.out.size (fun j h => by omega))); clear h8 k8
            go_wp2
            go_ret
            exact ⟨rfl, B8.out⟩
        · subst hvw
          refine (xres_any g a0 a2 a3 _ _ HX.out N2.out N3.out).mono ?_
          rintro e w2 ⟨⟨_, rfl⟩, h2, k2⟩
          have H2 := Lib.hid h2; have B2 := Lib.hid (HB.out.trans (k2.below HB.out.size (fun j h => by omega))); clear h2 k2
          go_wp2_with fail
          refine (xbest_is (a := a3) rfl _ _ H2.out).mono ?_
          rintro e w' ⟨rfl, rfl⟩
          go_wp2_with fail
          refine (xnew_any a0 N0.out _).mono ?_
          rintro e w3 ⟨rfl, h3, k3⟩
          have H3 := Lib.hid h3; have B3 := Lib.hid (B2.out.trans (k3.below B2.out.size (fun j h => h.elim))); have hg3 := B2.out.size; clear h3 k3
          generalize w2.heap.size = g3 at *
          go_wp2_with fail
          refine (xupd_is (res_first N0.out.1 N2.out.1 N3.out.1) _ _ H3.out N2.out N3.out).mono ?_
          rintro e w4 ⟨rfl, h4, k4⟩
          have H4 := Lib.hid h4; have B4 := Lib.hid (B3.out.trans (k4.below B3.out.size (fun j h => by omega))); clear h4 k4
          go_wp2_with fail
          refine (xupd_is ⟨rfl, res_more N0.out.1 (Int.le_refl _) (Int.le_refl _)⟩ _ _ H4.out N2.out N3.out).mono ?_
          rintro e w5 ⟨rfl, h5, k5⟩
          have B5 := Lib.hid (B4.out.trans (k5.below B4.out.size (fun j h => by omega))); clear h5 k5
          go_wp2_with fail
          refine (xnew_any a0 N0.out _).mono ?_
          rintro e w6 ⟨rfl, h6, k6⟩
          have H6 := Lib.hid h6; have B6 := Lib.hid (B5.out.trans (k6.below B5.out.size (fun j h => h.elim))); have hg6 := B5.out.size; clear h6 k6
          generalize w5.heap.size = g6 at *
          go_wp2_with fail
          refine (xupd_is (res_first N0.out.1 N2.out.1 N3.out.1) _ _ H6.out N2.out N3.out).mono ?_
          rintro e w7 ⟨rfl, h7, k7⟩
          have H7 := Lib.hid h7; have B7 := Lib.hid (B6.out.trans (k7.below B6.out.size (fun j h => by omega))); clear h7 k7
          rcases Int.lt_trichotomy a2 a5 with htb | htb | htb
          · go_wp2_with fail
            refine (xupd_is ⟨rfl, res_more N0.out.1 (Int.le_refl _) (Int.le_refl _)⟩ _ _ H7.out N2.out N3.out).mono ?_
            rintro e w8 ⟨rfl, h8, k8⟩
            have B8 := Lib.hid (B7.out.trans (k8.below B7.out.size (fun j h => by omega))); clear h8 k8
            go_wp2
            go_ret
            exact ⟨rfl, B8.out⟩
          · subst htb
            go_wp2_with fail
            refine (xupd_is ⟨rfl, res_more N0.out.1 (Int.le_refl _) (Int.le_refl _)⟩ _ _ H7.out N2.out N3.out).mono ?_
            rintro e w8 ⟨rfl, h8, k8⟩
            have B8 := Lib.hid (B7.out.trans (k8.below B7.out.size (fun j h => by omega))); clear h8 k8
            go_wp2
            go_ret
            exact ⟨rfl, B8.out⟩
          · go_wp2_with fail
            refine (xupd_is ⟨rfl, res_more N0.out.1 (by omega) (Int.le_refl _)⟩ _ _ H7.out N5.out N3.out).mono ?_
            rintro e w8 ⟨rfl, h8, k8⟩
            have B8 := Lib.hid (B7.out.trans (k8.below B7.out.size (fun j h => by omega))); clear h8 k8
            go_wp2
            go_ret
            exact ⟨rfl, B8.out⟩
        · skip
          refine (xres_any g a0 a2 a3 _ _ HX.out N2.out N3.out).mono ?_
          rintro e w2 ⟨⟨_, rfl⟩, h2, k2⟩
          have H2 := Lib.hid h2; have B2 := Lib.hid (HB.out.trans (k2.below HB.out.size (fun j h => by omega))); clear h2 k2
          go_wp2_with fail
          refine (xbest_is (a := a3) rfl _ _ H2.out).mono ?_
          rintro e w' ⟨rfl, rfl⟩
          go_wp2_with fail
          refine (xnew_any a0 N0.out _).mono ?_
          rintro e w3 ⟨rfl, h3, k3⟩
          have H3 := Lib.hid h3; have B3 := Lib.hid (B2.out.trans (k3.below B2.out.size (fun j h => h.elim))); have hg3 := B2.out.size; clear h3 k3
          generalize w2.heap.size = g3 at *
          go_wp2_with fail
          refine (xupd_is (res_first N0.out.1 N2.out.1 N3.out.1) _ _ H3.out N2.out N3.out).mono ?_
          rintro e w4 ⟨rfl, h4, k4⟩
          have H4 := Lib.hid h4; have B4 := Lib.hid (B3.out.trans (k4.below B3.out.size (fun j h => by omega))); clear h4 k4
          go_wp2_with fail
          refine (xupd_is ⟨rfl, res_less N0.out.1 (Int.le_refl _) hvw⟩ _ _ H4.out N2.out N4.out).mono ?_
          rintro e w5 ⟨rfl, h5, k5⟩
          have B5 := Lib.hid (B4.out.trans (k5.below B4.out.size (fun j h => by omega))); clear h5 k5
          go_wp2_with fail
          refine (xnew_any a0 N0.out _).mono ?_
          rintro e w6 ⟨rfl, h6, k6⟩
          have H6 := Lib.hid h6; have B6 := Lib.hid (B5.out.trans (k6.below B5.out.size (fun j h => h.elim))); have hg6 := B5.out.size; clear h6 k6
          generalize w5.heap.size = g6 at *
          go_wp2_with fail
          refine (xupd_is (res_first N0.out.1 N2.out.1 N3.out.1) _ _ H6.out N2.out N3.out).mono ?_
          rintro e w7 ⟨rfl, h7, k7⟩
          have H7 := Lib.hid h7; have B7 := Lib.hid (B6.out.trans (k7.below B6.out.size (fun j h => by omega))); clear h7 k7
          rcases Int.lt_trichotomy a2 a5 with htb | htb | htb
          · go_wp2_with fail
            refine (xupd_is ⟨rfl, res_less N0.out.1 (Int.le_refl _) hvw⟩ _ _ H7.out N2.out N4.out).mono ?_
            rintro e w8 ⟨rfl, h8, k8⟩
            have B8 := Lib.hid (B7.out.trans (k8.below B7.out.size (fun j h => by omega))); clear h8 k8
            go_wp2
            go_ret
            exact ⟨rfl, B8.out⟩
          · subst htb
            go_wp2_with fail
            refine (xupd_is ⟨rfl, res_less N0.out.1 (Int.le_refl _) hvw⟩ _ _ H7.out N2.out N4.out).mono ?_
            rintro e w8 ⟨rfl, h8, k8⟩
            have B8 := Lib.hid (B7.out.trans (k8.below B7.out.size (fun j h => by omega))); clear h8 k8
            go_wp2
            go_ret
            exact ⟨rfl, B8.out⟩
          · go_wp2_with fail
            refine (xupd_is ⟨rfl, res_less N0.out.1 (by omega) hvw⟩ _ _ H7.out N5.out N4.out).mono ?_
            rintro e w8 ⟨rfl, h8, k8⟩
            have B8 := Lib.hid (B7.out.trans (k8.below B7.out.size (fun j h => by omega))); clear h8 k8
            go_wp2
            go_ret
            exact ⟨rfl, B8.out⟩
      · clear hlt
        go_wp2_with fail
        rcases Int.lt_trichotomy a3 a4 with hvw | hvw | hvw
        · skip
          refine (xres_any g a0 a2 a3 _ _ HX.out N2.out N3.out).mono ?_
          rintro e w2 ⟨⟨_, rfl⟩, h2, k2⟩
          have H2 := Lib.hid h2; have B2 := Lib.hid (HB.out.trans (k2.below HB.out.size (fun j h => by omega))); clear h2 k2
          go_wp2_with fail
          refine (xbest_is (a := a3) rfl _ _ H2.out).mono ?_
          rintro e w' ⟨rfl, rfl⟩
          go_wp2_with fail
          refine (xnew_any a0 N0.out _).mono ?_
          rintro e w3 ⟨rfl, h3, k3⟩
          have H3 := Lib.hid h3; have B3 := Lib.hid (B2.out.trans (k3.below B2.out.size (fun j h => h.elim))); have hg3 := B2.out.size; clear h3 k3
          generalize w2.heap.size = g3 at *
          go_wp2_with fail
          refine (xupd_is (res_first N0.out.1 N2.out.1 N3.out.1) _ _ H3.out N2.out N3.out).mono ?_
          rintro e w4 ⟨rfl, h4, k4⟩
          have H4 := Lib.hid h4; have B4 := Lib.hid (B3.out.trans (k4.below B3.out.size (fun j h => by omega))); clear h4 k4
          go_wp2_with fail
          refine (xupd_is ⟨rfl, res_more N0.out.1 (Int.le_refl _) (Int.le_of_lt hvw)⟩ _ _ H4.out N2.out N4.out).mono ?_
          rintro e w5 ⟨rfl, h5, k5⟩
          have B5 := Lib.hid (B4.out.trans (k5.below B4.out.size (fun j h => by omega))); clear h5 k5
          go_wp2_with fail
          refine (xnew_any a0 N0.out _).mono ?_
          rintro e w6 ⟨rfl, h6, k6⟩
          have H6 := Lib.hid h6; have B6 := Lib.hid (B5.out.trans (k6.below B5.out.size (fun j h => h.elim))); have hg6 := B5.out.size; clear h6 k6
          generalize w5.heap.size = g6 at *
          go_wp2_with fail
          refine (xupd_is (res_first N0.out.1 N2.out.1 N3.out.1) _ _ H6.out N2.out N3.out).mono ?_
          rintro e w7 ⟨rfl, h7, k7⟩
          have H7 := Lib.hid h7; have B7 := Lib.hid (B6.out.trans (k7.below B6.out.size (fun j h => by omega))); clear h7 k7
          rcases Int.lt_trichotomy a2 a5 with htb | htb | htb
          · go_wp2_with fail
            refine (xupd_is ⟨rfl, res_more N0.out.1 (Int.le_refl _) (Int.le_of_lt hvw)⟩ _ _ H7.out N2.out N4.out).mono ?_
            rintro e w8 ⟨rfl, h8, k8⟩
            have B8 := Lib.hid (B7.out.trans (k8.below B7.out.size (fun j h => by omega))); clear h8 k8
            go_wp2
            go_ret
            exact ⟨rfl, B8.out⟩
          · subst htb
            go_wp2_with fail
            refine (xupd_is ⟨rfl, res_more N0.out.1 (Int.le_refl _) (Int.le_of_lt hvw)⟩ _ _ H7.out N2.out N4.out).mono ?_
            rintro e w8 ⟨rfl, h8, k8⟩
            have B8 := Lib.hid (B7.out.trans (k8.below B7.out.size (fun j h => by omega))); clear h8 k8
            go_wp2
            go_ret
            exact ⟨rfl, B8.out⟩
          · go_wp2_with fail
            refine (xupd_is ⟨rfl, res_more N0.out.1 (by omega) (Int.le_of_lt hvw)⟩ _ _ H7.out N5.out N4.out).mono ?_
            rintro e w8 ⟨rfl, h8, k8⟩
            have B8 := Lib.hid (B7.out.trans (k8.below B7.out.size (fun j h => by omega))); clear h8 k8
            go_wp2
            go_ret
            exact ⟨rfl, B8.out⟩
        · subst hvw
          refine (xres_any g a0 a2 a3 _ _ HX.out N2.out N3.out).mono ?_
          rintro e w2 ⟨⟨_, rfl⟩, h2, k2⟩
          have H2 := Lib.hid h2; have B2 := Lib.hid (HB.out.trans (k2.below HB.out.size (fun j h => by omega))); clear h2 k2
          go_wp2_with fail
          refine (xbest_is (a := a3) rfl _ _ H2.out).mono ?_
          rintro e w' ⟨rfl, rfl⟩
          go_wp2_with fail
          refine (xnew_any a0 N0.out _).mono ?_
          rintro e w3 ⟨rfl, h3, k3⟩
          have H3 := Lib.hid h3; have B3 := Lib.hid (B2.out.trans (k3.below B2.out.size (fun j h => h.elim))); have hg3 := B2.out.size; clear h3 k3
          generalize w2.heap.size = g3 at *
          go_wp2_with fail
          refine (xupd_is (res_first N0.out.1 N2.out.1 N3.out.1) _ _ H3.out N2.out N3.out).mono ?_
          rintro e w4 ⟨rfl, h4, k4⟩
          have H4 := Lib.hid h4; have B4 := Lib.hid (B3.out.trans (k4.below B3.out.size (fun j h => by omega))); clear h4 k4
          go_wp2_with fail
          refine (xupd_is ⟨rfl, res_more N0.out.1 (Int.le_refl _) (Int.le_refl _)⟩ _ _ H4.out N2.out N3.out).mono ?_
          rintro e w5 ⟨rfl, h5, k5⟩
          have B5 := Lib.hid (B4.out.trans (k5.below B4.out.size (fun j h => by omega))); clear h5 k5
          go_wp2_with fail
          refine (xnew_any a0 N0.out _).mono ?_
          rintro e w6 ⟨rfl, h6, k6⟩
          have H6 := Lib.hid h6; have B6 := Lib.hid (B5.out.trans (k6.below B5.out.size (fun j h => h.elim))); have hg6 := B5.out.size; clear h6 k6
          generalize w5.heap.size = g6 at *
          go_wp2_with fail
          refine (xupd_is (res_first N0.out.1 N2.out.1 N3.out.1) _ _ H6.out N2.out N3.out).mono ?_
          rintro e w7 ⟨rfl, h7, k7⟩
          have H7 := Lib.hid h7; have B7 := Lib.hid (B6.out.trans (k7.below B6.out.size (fun j h => by omega))); clear h7 k7
          rcases Int.lt_trichotomy a2 a5 with htb | htb | htb
          · go_wp2_with fail
            refine (xupd_is ⟨rfl, res_more N0.out.1 (Int.le_refl _) (Int.le_refl _)⟩ _ _ H7.out N2.out N3.out).mono ?_
            rintro e w8 ⟨rfl, h8, k8⟩
            have B8 := Lib.hid (B7.out.trans (k8.below B7.out.size (fun j h => by omega))); clear h8 k8
            go_wp2
            go_ret
            exact ⟨rfl, B8.out⟩
          · subst htb
            go_wp2_with fail
            refine (xupd_is ⟨rfl, res_more N0.out.1 (Int.le_refl _) (Int.le_refl _)⟩ _ _ H7.out N2.out N3.out).mono ?_
            rintro e w8 ⟨rfl, h8, k8⟩
            have B8 := Lib.hid (B7.out.trans (k8.below B7.out.size (fun j h => by omega))); clear h8 k8
            go_wp2
            go_ret
            exact ⟨rfl, B8.out⟩
          · go_wp2_with fail
            refine (xupd_is ⟨rfl, res_more N0.out.1 (by omega) (Int.le_refl _)⟩ _ _ H7.out N5.out N3.out).mono ?_
            rintro e w8 ⟨rfl, h8, k8⟩
            have B8 := Lib.hid (B7.out.trans (k8.below B7.out.size (fun j h => by omega))); clear h8 k8
            go_wp2
            go_ret
            exact ⟨rfl, B8.out⟩
        · skip
          refine (xres_any g a0 a2 a3 _ _ HX.out N2.out N3.out).mono ?_
          rintro e w2 ⟨⟨_, rfl⟩, h2, k2⟩
          have H2 := Lib.hid h2; have B2 := Lib.hid (HB.out.trans (k2.below HB.out.size (fun j h => by omega))); clear h2 k2
          go_wp2_with fail
          refine (xbest_is (a := a3) rfl _ _ H2.out).mono ?_
          rintro e w' ⟨rfl, rfl⟩
          go_wp2_with fail
          refine (xnew_any a0 N0.out _).mono ?_
          rintro e w3 ⟨rfl, h3, k3⟩
          have H3 := Lib.hid h3; have B3 := Lib.hid (B2.out.trans (k3.below B2.out.size (fun j h => h.elim))); have hg3 := B2.out.size; clear h3 k3
          generalize w2.heap.size = g3 at *
          go_wp2_with fail
          refine (xupd_is (res_first N0.out.1 N2.out.1 N3.out.1) _ _ H3.out N2.out N3.out).mono ?_
          rintro e w4 ⟨rfl, h4, k4⟩
          have H4 := Lib.hid h4; have B4 := Lib.hid (B3.out.trans (k4.below B3.out.size (fun j h => by omega))); clear h4 k4
          go_wp2_with fail
          refine (xupd_is ⟨rfl, res_less N0.out.1 (Int.le_refl _) hvw⟩ _ _ H4.out N2.out N4.out).mono ?_
          rintro e w5 ⟨rfl, h5, k5⟩
          have B5 := Lib.hid (B4.out.trans (k5.below B4.out.size (fun j h => by omega))); clear h5 k5
          go_wp2_with fail
          refine (xnew_any a0 N0.out _).mono ?_
          rintro e w6 ⟨rfl, h6, k6⟩
          have H6 := Lib.hid h6; have B6 := Lib.hid (B5.out.trans (k6.below B5.out.size (fun j h => h.elim))); have hg6 := B5.out.size; clear h6 k6
          generalize w5.heap.size = g6 at *
          go_wp2_with fail
          refine (xupd_is (res_first N0.out.1 N2.out.1 N3.out.1) _ _ H6.out N2.out N3.out).mono ?_
          rintro e w7 ⟨rfl, h7, k7⟩
          have H7 := Lib.hid h7; have B7 := Lib.hid (B6.out.trans (k7.below B6.out.size (fun j h => by omega))); clear h7 k7
          rcases Int.lt_trichotomy a2 a5 with htb | htb | htb
          · go_wp2_with fail
            refine (xupd_is ⟨rfl, res_less N0.out.1 (Int.le_refl _) hvw⟩ _ _ H7.out N2.out N4.out).mono ?_
            rintro e w8 ⟨rfl, h8, k8⟩
            have B8 := Lib.hid (B7.out.trans (k8.below B7.out.size (fun j h => by omega))); clear h8 k8
            go_wp2
            go_ret
            exact ⟨rfl, B8.out⟩
          · subst htb
            go_wp2_with fail
            refine (xupd_is ⟨rfl, res_less N0.out.1 (Int.le_refl _) hvw⟩ _ _ H7.out N2.out N4.out).mono ?_
            rintro e w8 ⟨rfl, h8, k8⟩
            have B8 := Lib.hid (B7.out.trans (k8.below B7.out.size (fun j h => by omega))); clear h8 k8
            go_wp2
            go_ret
            exact ⟨rfl, B8.out⟩
          · go_wp2_with fail
            refine (xupd_is ⟨rfl, res_less N0.out.1 (by omega) hvw⟩ _ _ H7.out N5.out N4.out).mono ?_
            rintro e w8 ⟨rfl, h8, k8⟩
            have B8 := Lib.hid (B7.out.trans (k8.below B7.out.size (fun j h => by omega))); clear h8 k8
            go_wp2
            go_ret
            exact ⟨rfl, B8.out⟩

set_option maxRecDepth 100000 in
theorem lifted (os : Os) (started : os.Started) (H : Type) (enc : TypeId × Value → H) :
    ReturnsInHanded {} Try.checked os 6 .any (Rows.winmaxResetsSpec.pre6 enc Try.prog Try.f6 Rows.winmaxResetsRow.domain false) (Rows.winmaxResetsSpec.post enc Try.prog Try.f6 false true false false) := by
  refine returnsInHanded_of_change (C := Try.checked) own started (by kernel_rfl) Try.func6
    (ChangeSpec.witness6 (enc := enc) (C := Try.checked) false ⟨#[], #[.int .u64 0, .slice none 0 0, .int .u64 0, .int .u64 0, .int .u64 0, .int .u64 0], []⟩ 8 (by kernel_rfl) (by kernel_rfl) (by kernel_rfl) (by kernel_rfl)) ?_
  intro W base args ds gs before hval0 hW hcnd _
  have hval : ∀ (j : Nat) t v, Try.f6.params[j]? = some t → args[j]? = some v → Value.okWide Try.prog W .any base t v := hval0
  have hW' := hW
  obtain ⟨p, q, hA0, hV, rfl, hfz, hnd⟩ := hW
  have hA : DataW.TrodAll enc Try.prog W 0 (fun _ => true) true Try.f6.params.toList args.toList ds p := hA0
  rw [Try.params6] at hA hval
  obtain ⟨v0, vs0, d0, ds0, p0, q0, hargs, rfl, rfl, h0, r0'⟩ := trodAll_cons hA
  obtain ⟨v1, vs1, d1, ds1, p1, q1, rfl, rfl, rfl, h1, r1'⟩ := trodAll_cons r0'
  obtain ⟨v2, vs2, d2, ds2, p2, q2, rfl, rfl, rfl, h2, r2'⟩ := trodAll_cons r1'
  obtain ⟨v3, vs3, d3, ds3, p3, q3, rfl, rfl, rfl, h3, r3'⟩ := trodAll_cons r2'
  obtain ⟨v4, vs4, d4, ds4, p4, q4, rfl, rfl, rfl, h4, r4'⟩ := trodAll_cons r3'
  obtain ⟨v5, vs5, d5, ds5, p5, q5, rfl, rfl, rfl, h5, r5'⟩ := trodAll_cons r4'
  obtain ⟨rfl, rfl, rfl⟩ := trodAll_nil r5'
  obtain rfl : args = #[v0, v1, v2, v3, v4, v5] := by cases args; simp_all
  obtain ⟨rfl, rfl⟩ := trodVars_none hV
  obtain ⟨a0, rfl, rfl, rfl, w0⟩ := open_int Try.underlying22 (hval 0 22 v0 rfl rfl) h0
  obtain ⟨a1, len1, cap1, rfl⟩ := okWide_slice Try.underlying23 (hval 1 23 v1 rfl rfl)
  have k1 := h1
  have lt1 : ∀ x ∈ p1, x.block < W.heap.size := by obtain ⟨m, hm⟩ := k1; exact DataW.trod_lt m _ _ _ hm
  obtain ⟨z1, hz1, hc1, r1⟩ := open_ops h1
  subst hz1
  obtain ⟨a2, rfl, rfl, rfl, w2⟩ := open_int Try.underlying22 (hval 2 22 v2 rfl rfl) h2
  obtain ⟨a3, rfl, rfl, rfl, w3⟩ := open_int Try.underlying22 (hval 3 22 v3 rfl rfl) h3
  obtain ⟨a4, rfl, rfl, rfl, w4⟩ := open_int Try.underlying22 (hval 4 22 v4 rfl rfl) h4
  obtain ⟨a5, rfl, rfl, rfl, w5⟩ := open_int Try.underlying22 (hval 5 22 v5 rfl rfl) h5
  clear hA0 hval0
  refine (walk a0 a1 cap1 z1 a2 a3 a4 a5 W w0 hc1 r1 w2 w3 w4 w5).mono fun e W' ⟨he, bel⟩ => ?_
  subst he
  exact ⟨_, rfl, _, _, _, [], _, [], hW', trodAll_mk1 (shut_bool Try.underlying4 _), (trodAll_cons_mk (shut_int Try.underlying22 w0) (trodAll_cons_mk (Below.trod laidOut (by kernel_rfl) (of_decide_eq_true (by kernel_rfl)) k1 bel lt1) (trodAll_cons_mk (shut_int Try.underlying22 w2) (trodAll_cons_mk (shut_int Try.underlying22 w3) (trodAll_cons_mk (shut_int Try.underlying22 w4) (trodAll_cons_mk (shut_int Try.underlying22 w5) trodAll_mk0)))))), rfl, bel.frame _, fun h => by cases h⟩

theorem over : Rows.winmaxResetsRow.holds Try.pinned (OpenSpec.ofChange Rows.winmaxResetsSpec) :=
  OpenClaim.holds_of_wide 6 Try.f6 rfl rfl rfl rfl rfl rfl rfl ⟨rfl, rfl, rfl, rfl, rfl⟩ rfl rfl rfl rfl rfl (by kernel_rfl) Try.func6 (by kernel_rfl)
    (of_decide_eq_true (by kernel_rfl)) (by unfold Func.isWrapper; first | (rw [if_pos (by decide +kernel)]; kernel_rfl) | (rw [if_neg (by decide +kernel)]; exact ⟨rfl, rfl⟩))
    (fun os started H enc _ => lifted os started H enc)

theorem proved : Rows.WinmaxResetsSaid := over
end Go.Proofs.Ytbidijppdahdaaa.winmaxResets
namespace Go.Proofs.Ytbidijppdahdaaa
theorem winmaxResets_holds : Rows.WinmaxResetsSaid := winmaxResets.proved
#print axioms winmaxResets_holds
end Go.Proofs.Ytbidijppdahdaaa
