/-
  Proved: canterlaw07.LedgerPlays answers true at every list of entries, and leaves it as it was. Conditions: none.
-/
import Derived.Test.YtcgpoplnfkhhbaaRows
import Derived.WalkKit
import Derived.ProofKit
import Derived.OpenShut
import Derived.ShutString
import Derived.Below
import Derived.Test.YtcgpoplnfkhhbaaBooks
import Derived.Test.YtcgpoplnfkhhbaaOpenE
namespace Go.Proofs.Ytcgpoplnfkhhbaa.ledgerPlays
open Go.ChangeShapes Go.WideShapes Go.ChangeAt Go.RowKit
set_option linter.unusedVariables false

theorem own : ownKnob Try.prog.godebug = none := by kernel_rfl
theorem laidOut : laidOutB Try.prog = true := by kernel_rfl

/-- The ledger at g and the books at gb, both of the numbers F. -/
structure Pair (wB w : World) (g gb n : Nat) (F : Nat → Int) : Prop where
  led : LedAt w g n F
  book : BookAt w gb n F
  ne : g ≠ gb
  lo : wB.heap.size ≤ g
  lo' : wB.heap.size ≤ gb
  all : Waits F
  bel : Below wB.heap.size wB w
section
variable {wB w w' : World} {g gb n : Nat} {F F' : Nat → Int}
theorem Pair.kept (h : Pair wB w g gb n F) (hk : Keep (fun _ => False) w w') : Pair wB w' g gb n F :=
  ⟨h.led.kept hk, h.book.kept hk, h.ne, h.lo, h.lo', h.all, h.bel.trans (hk.below h.bel.size (fun _ h => h.elim))⟩
theorem cnt_parts (F : Nat → Int) (s : Int) : ∃ x0 x1 x2 x3 x4 x5 x6 x7, countC F s = ⟨x0, x1, x2, x3, x4, x5, x6, x7⟩ := ⟨_, _, _, _, _, _, _, _, rfl⟩
end
theorem bcount_is {n : Nat} {F : Nat → Int} {s c x0 x1 x2 x3 x4 x5 x6 x7 : Int} (e : countC F s = ⟨x0, x1, x2, x3, x4, x5, x6, x7⟩ ∧ checkE s = c) (g : Nat) (w : World) (h : BookAt w g n F) :
    Calls Try.prog 11 #[.pointer (some ⟨g, 0, none⟩), .int .i64 s] w fun e w' => e = .returned (.tuple #[.agg #[.int .i64 x0, .int .i64 x1, .int .i64 x2, .int .i64 x3, .int .i64 x4, .int .i64 x5, .int .i64 x6, .int .i64 x7], .int .i64 c]) ∧ Keep (fun _ => False) w w' := by
  have := bcount_any g n F s w h; rw [e.1, e.2] at this; exact this
theorem known_take (F : Nat → Int) : (knownL F 8).take (max 1 (99 : Int).toNat) = knownL F 8 := List.take_of_length_le (by have := knownL_len F 8; simp; omega)

set_option maxHeartbeats 4000000 in
set_option maxRecDepth 100000 in
theorem walk (a0 : Option Addr) (cap0 : Nat) (z0 : List Ent) (w : World) (c0 : z0.length ≤ 9223372036854775807) (r0 : RdE w a0 z0) :
    Calls Try.prog 3 #[.slice a0 z0.length cap0] w fun e w' => e = .returned (.bool true) ∧ Below w.heap.size w w' := by
  have hne := Try.neCnt
  have HR := Lib.hid r0; clear r0
  go_enter Try.func3, Try.ntmps3
  go_wp2_with fail
  refine (lnew_any _).mono ?_
  rintro e w1 ⟨rfl, h1, k1⟩
  have P1 : Hid (Pair w (w1.alloc (.cells (rowN 64 (fun _ => 0)) 31)) w.heap.size w1.heap.size 0 (fun _ => 0)) := Lib.hid ⟨h1.kept ((Keep.refl _ _).alloc _), book_new w1, by have := h1.lt; omega, Nat.le_refl _, k1.size, Waits.zero, (k1.alloc _).below (Nat.le_refl _) (fun _ h => h.elim)⟩
  clear h1 k1
  go_wp2_with fail
  refine (awakel_any _).mono ?_
  rintro e w2 ⟨rfl, k2⟩
  have P2 := Lib.hid (P1.out.kept k2); clear k2 P1
  obtain ⟨g, hg⟩ : ∃ g, g = w.heap.size := ⟨_, rfl⟩
  generalize w1.heap.size = gb at *
  rw [← hg] at P2 ⊢
  clear hg
  go_wp2
  go_loopw [5] (fun i wr => ∃ (i' : Nat) (F : Nat → Int), i' ≤ z0.length ∧ i' ≤ 120 ∧ i = .int .i64 i' ∧ Pair w wr g gb i' F) (fun i _ => 120 - (intOf i).toNat)
  case atStart => exact ⟨0, _, Nat.zero_le _, by omega, rfl, P2.out⟩
  case round =>
    obtain ⟨i, F, hi, hi120, rfl, hP⟩ := hrel
    have HP := Lib.hid hP; clear hP P2
    by_cases hlt : i < z0.length ∧ i < 120
    · obtain ⟨hl1, hl2⟩ := hlt
      obtain ⟨s, f, hsf⟩ : ∃ s f, z0[i]? = some ⟨s, f⟩ := ⟨_, _, List.getElem?_eq_getElem hl1⟩
      obtain ⟨b, off, rfl, _, _, _⟩ := HR.out i _ hsf
      have HC : Hid (∀ W, Below w.heap.size w W → W.cell? ⟨b, off + i * 2, none⟩ = some (.int .i64 s) ∧ W.cell? ⟨b, off + i * 2 + 1, none⟩ = some (.int .i64 f)) := Lib.hid (fun W hW => by
        obtain ⟨_, _, e, _, h1, h2⟩ := HR.out.below hW i _ hsf
        cases e; exact ⟨h1, h2⟩)
      have hi1 : (i : Int) < (z0.length : Int) := by omega
      have hi2 : (i : Int) < 120 := by omega
      clear hsf HR
      by_cases hbad : s < 0 ∨ 8 ≤ s
      · have HCK : Hid (checkE s = 8) := Lib.hid (if_pos hbad)
        clear hbad
        go_wp2
        refine wp_region_sch (fun W => W.cell? ⟨b, off + i * 2, none⟩ = some (.int .i64 s) ∧ W.cell? ⟨b, off + i * 2 + 1, none⟩ = some (.int .i64 f)) [(true, 0), (true, 1), (true, 2), (true, 3), (true, 4), (true, 5), (true, 6), (true, 7), (true, 8), (true, 9), (true, 10), (true, 12), (true, 13), (true, 14), (true, 15), (true, 16), (true, 17), (true, 18), (true, 19), (true, 20), (true, 21), (true, 22), (false, 11), (false, 23), (true, 24)] (by kernel_rfl) (by kernel_rfl) (by kernel_rfl) (by kernel_rfl) (HC.out _ HP.out.bel.drew) ?_
        (repeat (refine wpSch_yes (v := ?_) rfl (fun _ _ _ h => h) (by rfl) ?_ ?_; rotate_left; (next => (intro w hSw; (try dsimp only at hSw); obtain ⟨hS1, hS2⟩ := hSw; go_simp; (try with_reducible rfl))); (try simp only [Act.put, List.setIfInBounds_toArray, List.set_cons_zero, List.set_cons_succ])))
        refine wpSch_call rfl (by rfl) (fun K hK => ?_)
        go_simp
        refine (note_any g i F s f _ (by omega) HP.out.led.drew).mono ?_
        rintro e w2 ⟨rfl, h2, k2⟩
        have K2 : Hid (Keep (fun k => k = g) wr w2) := Lib.hid ((Keep.refl (fun k => k = g) wr).drew.trans k2)
        have L2 := Lib.hid h2
        have B2 := Lib.hid (HP.out.bel.trans (K2.out.below HP.out.bel.size (fun j h => by subst h; exact HP.out.lo)))
        have P2 := Lib.hid (HP.out.book.keep K2.out (fun h => HP.out.ne h.symm))
        clear h2 k2
        refine hK.out _ _ (HC.out _ B2.out) (fun hHeld => ?_)
        clear hK K hHeld
        (try simp only [Act.put, List.setIfInBounds_toArray, List.set_cons_zero, List.set_cons_succ])
        (repeat (refine wpSch_yes (v := ?_) rfl (fun _ _ _ h => h) (by rfl) ?_ ?_; rotate_left; (next => (intro w hSw; (try dsimp only at hSw); obtain ⟨hS1, hS2⟩ := hSw; go_simp; (try with_reducible rfl))); (try simp only [Act.put, List.setIfInBounds_toArray, List.set_cons_zero, List.set_cons_succ])))
        refine wpSch_call rfl (by rfl) (fun K hK => ?_)
        go_simp
        refine (bnote_any gb i F s f _ (by omega) P2.out).mono ?_
        rintro e w3 ⟨rfl, h3, k3⟩
        have B3 := Lib.hid (B2.out.trans (k3.below B2.out.size (fun j h => by subst h; exact HP.out.lo')))
        have P3 : Hid (Pair w w3 g gb (i + 1) (noteF F s f)) := Lib.hid ⟨L2.out.keep k3 HP.out.ne, h3, HP.out.ne, HP.out.lo, HP.out.lo', HP.out.all.note s f, B3.out⟩
        clear h3 k3
        refine hK.out _ _ (HC.out _ B3.out) (fun hHeld => ?_)
        clear hK K hHeld B2 K2 L2 P2
        (try simp only [Act.put, List.setIfInBounds_toArray, List.set_cons_zero, List.set_cons_succ])
        have hEE : (noteE F s f != noteE F s f) = false := by simp
        generalize noteE F s f = E at *
        (repeat (refine wpSch_yes (v := ?_) rfl (fun _ _ _ h => h) (by rfl) ?_ ?_; rotate_left; (next => (intro w hSw; (try dsimp only at hSw); obtain ⟨hS1, hS2⟩ := hSw; go_simp; (try with_reducible rfl))); (try simp only [Act.put, List.setIfInBounds_toArray, List.set_cons_zero, List.set_cons_succ])))
        refine wpSch_nil ?_
        generalize noteF F s f = F' at *
        have ce3 := (HC.out _ B3.out).1
        go_wp2_with fail
        obtain ⟨x0, x1, x2, x3, x4, x5, x6, x7, hx⟩ := cnt_parts F' s
        have HCC := Lib.hid (⟨hx, HCK.out⟩ : _ ∧ _)
        clear hx HCK
        refine (lcount_is HCC.out _ _ (by omega) P3.out.led).mono ?_
        rintro e w4 ⟨rfl, k4⟩
        have P4 := Lib.hid (P3.out.kept (k4.alloc (.cells #[.int .i64 x0, .int .i64 x1, .int .i64 x2, .int .i64 x3, .int .i64 x4, .int .i64 x5, .int .i64 x6, .int .i64 x7] 28)))
        have W4 := Lib.hid (Whole.new w4 28 #[.int .i64 x0, .int .i64 x1, .int .i64 x2, .int .i64 x3, .int .i64 x4, .int .i64 x5, .int .i64 x6, .int .i64 x7])
        clear k4
        have ce4 := (HC.out _ P4.out.bel).1
        go_wp2_with fail
        refine (bcount_is HCC.out _ _ P4.out.book).mono ?_
        rintro e w5 ⟨rfl, k5⟩
        have P5 := Lib.hid (P4.out.kept (k5.alloc (.cells #[.int .i64 x0, .int .i64 x1, .int .i64 x2, .int .i64 x3, .int .i64 x4, .int .i64 x5, .int .i64 x6, .int .i64 x7] 28)))
        have W5 := (W4.out.keep k5 (fun h => h)).alloc (.cells #[.int .i64 x0, .int .i64 x1, .int .i64 x2, .int .i64 x3, .int .i64 x4, .int .i64 x5, .int .i64 x6, .int .i64 x7] 28)
        have z0' := W5.cell 0; have z1 := W5.cell 1; have z2 := W5.cell 2; have z3 := W5.cell 3; have z4 := W5.cell 4; have z5 := W5.cell 5; have z6 := W5.cell 6; have z7 := W5.cell 7
        simp only [List.getElem?_toArray, List.getElem?_cons_succ, List.getElem?_cons_zero] at z0' z1 z2 z3 z4 z5 z6 z7
        clear k5 W5
        go_wp2
        go_roundw
        case rel => exact ⟨i + 1, _, by omega, by omega, by go_num, P5.out⟩
        case measure => simp [intOf]; omega
      · have HCK : Hid (checkE s = 0) := Lib.hid (if_neg hbad)
        have HCN : Hid (∀ G, countC G s = cntN G s.toNat) := Lib.hid (fun G => if_neg hbad)
        clear hbad
        go_wp2
        refine wp_region_sch (fun W => W.cell? ⟨b, off + i * 2, none⟩ = some (.int .i64 s) ∧ W.cell? ⟨b, off + i * 2 + 1, none⟩ = some (.int .i64 f)) [(true, 0), (true, 1), (true, 2), (true, 3), (true, 4), (true, 5), (true, 6), (true, 7), (true, 8), (true, 9), (true, 10), (true, 12), (true, 13), (true, 14), (true, 15), (true, 16), (true, 17), (true, 18), (true, 19), (true, 20), (true, 21), (true, 22), (false, 11), (false, 23), (true, 24)] (by kernel_rfl) (by kernel_rfl) (by kernel_rfl) (by kernel_rfl) (HC.out _ HP.out.bel.drew) ?_
        (repeat (refine wpSch_yes (v := ?_) rfl (fun _ _ _ h => h) (by rfl) ?_ ?_; rotate_left; (next => (intro w hSw; (try dsimp only at hSw); obtain ⟨hS1, hS2⟩ := hSw; go_simp; (try with_reducible rfl))); (try simp only [Act.put, List.setIfInBounds_toArray, List.set_cons_zero, List.set_cons_succ])))
        refine wpSch_call rfl (by rfl) (fun K hK => ?_)
        go_simp
        refine (note_any g i F s f _ (by omega) HP.out.led.drew).mono ?_
        rintro e w2 ⟨rfl, h2, k2⟩
        have K2 : Hid (Keep (fun k => k = g) wr w2) := Lib.hid ((Keep.refl (fun k => k = g) wr).drew.trans k2)
        have L2 := Lib.hid h2
        have B2 := Lib.hid (HP.out.bel.trans (K2.out.below HP.out.bel.size (fun j h => by subst h; exact HP.out.lo)))
        have P2 := Lib.hid (HP.out.book.keep K2.out (fun h => HP.out.ne h.symm))
        clear h2 k2
        refine hK.out _ _ (HC.out _ B2.out) (fun hHeld => ?_)
        clear hK K hHeld
        (try simp only [Act.put, List.setIfInBounds_toArray, List.set_cons_zero, List.set_cons_succ])
        (repeat (refine wpSch_yes (v := ?_) rfl (fun _ _ _ h => h) (by rfl) ?_ ?_; rotate_left; (next => (intro w hSw; (try dsimp only at hSw); obtain ⟨hS1, hS2⟩ := hSw; go_simp; (try with_reducible rfl))); (try simp only [Act.put, List.setIfInBounds_toArray, List.set_cons_zero, List.set_cons_succ])))
        refine wpSch_call rfl (by rfl) (fun K hK => ?_)
        go_simp
        refine (bnote_any gb i F s f _ (by omega) P2.out).mono ?_
        rintro e w3 ⟨rfl, h3, k3⟩
        have B3 := Lib.hid (B2.out.trans (k3.below B2.out.size (fun j h => by subst h; exact HP.out.lo')))
        have P3 : Hid (Pair w w3 g gb (i + 1) (noteF F s f)) := Lib.hid ⟨L2.out.keep k3 HP.out.ne, h3, HP.out.ne, HP.out.lo, HP.out.lo', HP.out.all.note s f, B3.out⟩
        clear h3 k3
        refine hK.out _ _ (HC.out _ B3.out) (fun hHeld => ?_)
        clear hK K hHeld B2 K2 L2 P2
        (try simp only [Act.put, List.setIfInBounds_toArray, List.set_cons_zero, List.set_cons_succ])
        have hEE : (noteE F s f != noteE F s f) = false := by simp
        generalize noteE F s f = E at *
        (repeat (refine wpSch_yes (v := ?_) rfl (fun _ _ _ h => h) (by rfl) ?_ ?_; rotate_left; (next => (intro w hSw; (try dsimp only at hSw); obtain ⟨hS1, hS2⟩ := hSw; go_simp; (try with_reducible rfl))); (try simp only [Act.put, List.setIfInBounds_toArray, List.set_cons_zero, List.set_cons_succ])))
        refine wpSch_nil ?_
        generalize noteF F s f = F' at *
        have ce3 := (HC.out _ B3.out).1
        go_wp2_with fail
        obtain ⟨x0, x1, x2, x3, x4, x5, x6, x7, hx⟩ := cnt_parts F' s
        have HCC := Lib.hid (⟨hx, HCK.out⟩ : _ ∧ _)
        have hbal := bal_of P3.out.led (by omega) P3.out.all s.toNat
        rw [← HCN.out, hx] at hbal
        have HBAL := Lib.hid hbal
        clear hx HCK hbal HCN
        refine (lcount_is HCC.out _ _ (by omega) P3.out.led).mono ?_
        rintro e w4 ⟨rfl, k4⟩
        have P4 := Lib.hid (P3.out.kept (k4.alloc (.cells #[.int .i64 x0, .int .i64 x1, .int .i64 x2, .int .i64 x3, .int .i64 x4, .int .i64 x5, .int .i64 x6, .int .i64 x7] 28)))
        have W4 := Lib.hid (Whole.new w4 28 #[.int .i64 x0, .int .i64 x1, .int .i64 x2, .int .i64 x3, .int .i64 x4, .int .i64 x5, .int .i64 x6, .int .i64 x7])
        clear k4
        have ce4 := (HC.out _ P4.out.bel).1
        go_wp2_with fail
        refine (bcount_is HCC.out _ _ P4.out.book).mono ?_
        rintro e w5 ⟨rfl, k5⟩
        have P5 := Lib.hid (P4.out.kept (k5.alloc (.cells #[.int .i64 x0, .int .i64 x1, .int .i64 x2, .int .i64 x3, .int .i64 x4, .int .i64 x5, .int .i64 x6, .int .i64 x7] 28)))
        have W5 := (W4.out.keep k5 (fun h => h)).alloc (.cells #[.int .i64 x0, .int .i64 x1, .int .i64 x2, .int .i64 x3, .int .i64 x4, .int .i64 x5, .int .i64 x6, .int .i64 x7] 28)
        have z0' := W5.cell 0; have z1 := W5.cell 1; have z2 := W5.cell 2; have z3 := W5.cell 3; have z4 := W5.cell 4; have z5 := W5.cell 5; have z6 := W5.cell 6; have z7 := W5.cell 7
        simp only [List.getElem?_toArray, List.getElem?_cons_succ, List.getElem?_cons_zero] at z0' z1 z2 z3 z4 z5 z6 z7
        clear k5 W5
        go_wp2_with fail
        refine (balanced_is _ HBAL.out).mono ?_
        rintro e w6 ⟨rfl, k6⟩
        have P6 := Lib.hid (P5.out.kept k6); clear k6
        go_wp2
        go_roundw
        case rel => exact ⟨i + 1, _, by omega, by omega, by go_num, P6.out⟩
        case measure => simp [intOf]; omega
    · clear HR
      rcases (by omega : ¬ (i : Int) < (z0.length : Int) ∨ ((i : Int) < (z0.length : Int) ∧ ¬ (i : Int) < 120)) with hf | ⟨hf1, hf⟩
      · clear hlt
        go_wp2_with fail
        refine (lall_any _ _ _ _ (by omega) HP.out.led).mono ?_
        rintro e w2 ⟨B, rfl, t2, _, k2⟩
        have T2 := Lib.hid t2; have P2 := Lib.hid (HP.out.kept k2); clear t2 k2
        go_wp2_with fail
        refine (hallc_is (k := (knownL F 8).length) (by rw [known_take]) _ (by have := knownL_len F 8; omega) _ T2.out).mono ?_
        rintro e w3 ⟨a, c, rfl, o3, n3, k3⟩
        rw [known_take] at o3
        have R3 := Lib.hid o3.rd; have P3 := Lib.hid (P2.out.kept k3); clear o3 n3 k3
        go_wp2_with fail
        refine (ball_any _ _ _ _ P3.out.book).mono ?_
        rintro e w4 ⟨v4, rfl, o4, n4, k4⟩
        obtain ⟨a4, c4, hv4, _⟩ := o4.shape
        subst hv4
        have R4 := Lib.hid o4.rd; have R3' := Lib.hid (R3.out.kept k4); have P4 := Lib.hid (P3.out.kept k4); clear o4 n4 k4
        go_wp2_with fail
        refine (plainc_any a a4 c c4 (knownL F 8) _ (by have := knownL_len F 8; omega) R3'.out R4.out).mono ?_
        rintro e w5 ⟨rfl, k5⟩
        have P5 := Lib.hid (P4.out.kept k5); clear k5
        go_wp2
        go_ret
        exact ⟨rfl, P5.out.bel⟩
      · clear hlt
        go_wp2_with fail
        refine (lall_any _ _ _ _ (by omega) HP.out.led).mono ?_
        rintro e w2 ⟨B, rfl, t2, _, k2⟩
        have T2 := Lib.hid t2; have P2 := Lib.hid (HP.out.kept k2); clear t2 k2
        go_wp2_with fail
        refine (hallc_is (k := (knownL F 8).length) (by rw [known_take]) _ (by have := knownL_len F 8; omega) _ T2.out).mono ?_
        rintro e w3 ⟨a, c, rfl, o3, n3, k3⟩
        rw [known_take] at o3
        have R3 := Lib.hid o3.rd; have P3 := Lib.hid (P2.out.kept k3); clear o3 n3 k3
        go_wp2_with fail
        refine (ball_any _ _ _ _ P3.out.book).mono ?_
        rintro e w4 ⟨v4, rfl, o4, n4, k4⟩
        obtain ⟨a4, c4, hv4, _⟩ := o4.shape
        subst hv4
        have R4 := Lib.hid o4.rd; have R3' := Lib.hid (R3.out.kept k4); have P4 := Lib.hid (P3.out.kept k4); clear o4 n4 k4
        go_wp2_with fail
        refine (plainc_any a a4 c c4 (knownL F 8) _ (by have := knownL_len F 8; omega) R3'.out R4.out).mono ?_
        rintro e w5 ⟨rfl, k5⟩
        have P5 := Lib.hid (P4.out.kept k5); clear k5
        go_wp2
        go_ret
        exact ⟨rfl, P5.out.bel⟩

set_option maxRecDepth 100000 in
theorem lifted (os : Os) (started : os.Started) (H : Type) (enc : TypeId × Value → H) :
    ReturnsInHanded {} Try.checked os 3 .any (Rows.ledgerPlaysSpec.pre6 enc Try.prog Try.f3 Rows.ledgerPlaysRow.domain false) (Rows.ledgerPlaysSpec.post enc Try.prog Try.f3 false true false false) := by
  refine returnsInHanded_of_change (C := Try.checked) own started (by kernel_rfl) Try.func3
    (ChangeSpec.witness6 (enc := enc) (C := Try.checked) false ⟨#[], #[.slice none 0 0], []⟩ 8 (by kernel_rfl) (by kernel_rfl) (by kernel_rfl) (by kernel_rfl)) ?_
  intro W base args ds gs before hval0 hW hcnd _
  have hval : ∀ (j : Nat) t v, Try.f3.params[j]? = some t → args[j]? = some v → Value.okWide Try.prog W .any base t v := hval0
  have hW' := hW
  obtain ⟨p, q, hA0, hV, rfl, hfz, hnd⟩ := hW
  have hA : DataW.TrodAll enc Try.prog W 0 (fun _ => true) true Try.f3.params.toList args.toList ds p := hA0
  rw [Try.params3] at hA hval
  obtain ⟨v0, vs0, d0, ds0, p0, q0, hargs, rfl, rfl, h0, r0'⟩ := trodAll_cons hA
  obtain ⟨rfl, rfl, rfl⟩ := trodAll_nil r0'
  obtain rfl : args = #[v0] := by cases args; simp_all
  obtain ⟨rfl, rfl⟩ := trodVars_none hV
  obtain ⟨a0, len0, cap0, rfl⟩ := okWide_slice Try.underlying22 (hval 0 22 v0 rfl rfl)
  have k0 := h0
  have lt0 : ∀ x ∈ p0, x.block < W.heap.size := by obtain ⟨m, hm⟩ := k0; exact DataW.trod_lt m _ _ _ hm
  obtain ⟨z0, hz0, hc0, r0⟩ := open_entries h0
  subst hz0
  clear hA0 hval0
  refine (walk a0 cap0 z0 W hc0 r0).mono fun e W' ⟨he, bel⟩ => ?_
  subst he
  exact ⟨_, rfl, _, _, _, [], _, [], hW', trodAll_mk1 (shut_bool Try.underlying4 _), (trodAll_cons_mk (Below.trod laidOut (by kernel_rfl) (of_decide_eq_true (by kernel_rfl)) k0 bel lt0) trodAll_mk0), rfl, bel.frame _, fun h => by cases h⟩

theorem over : Rows.ledgerPlaysRow.holds Try.pinned (OpenSpec.ofChange Rows.ledgerPlaysSpec) :=
  OpenClaim.holds_of_wide 3 Try.f3 rfl rfl rfl rfl rfl rfl rfl ⟨rfl, rfl, rfl, rfl, rfl⟩ rfl rfl rfl rfl rfl (by kernel_rfl) Try.func3 (by kernel_rfl)
    (of_decide_eq_true (by kernel_rfl)) (by unfold Func.isWrapper; first | (rw [if_pos (by decide +kernel)]; kernel_rfl) | (rw [if_neg (by decide +kernel)]; exact ⟨rfl, rfl⟩))
    (fun os started H enc _ => lifted os started H enc)

theorem proved : Rows.LedgerPlaysSaid := over
end Go.Proofs.Ytcgpoplnfkhhbaa.ledgerPlays
namespace Go.Proofs.Ytcgpoplnfkhhbaa
theorem ledgerPlays_holds : Rows.LedgerPlaysSaid := ledgerPlays.proved
#print axioms ledgerPlays_holds
end Go.Proofs.Ytcgpoplnfkhhbaa
