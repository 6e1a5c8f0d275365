/-
  Proved: canterlaw09.WinminTurned answers true at every number and list of deeds, and leaves its arguments as they were. Conditions: none.
-/
import Derived.Test.YtcdhnokhklnkoaaRows
import Derived.WalkKit
import Derived.ProofKit
import Derived.OpenShut
import Derived.ShutString
import Derived.Below
import Derived.Test.YtcdhnokhklnkoaaAwakeN
import Derived.Test.YtcdhnokhklnkoaaWinUpd
import Derived.Test.YtcdhnokhklnkoaaWinTurn
import Derived.Test.YtcdhnokhklnkoaaOpenO
namespace Go.Proofs.Ytcdhnokhklnkoaa.winminTurned
open Go.ChangeShapes Go.WideShapes Go.ChangeAt Go.RowKit
set_option linter.unusedVariables false

theorem own : ownKnob Try.prog.godebug = none := by kernel_rfl
theorem laidOut : laidOutB Try.prog = true := by kernel_rfl

/-- The least of late at g, and the greatest at gr, turned. -/
structure Pair (wB w : World) (g gr : Nat) (win : Int) (x : Tri) : Prop where
  at_ : MinAt w g win x
  ref : MaxAt w gr win (turnT x)
  ne : g ≠ gr
  lo : wB.heap.size ≤ g
  lo' : wB.heap.size ≤ gr
  bel : Below wB.heap.size wB w
section
variable {wB w w' : World} {g gr : Nat} {win : Int} {x : Tri}
theorem Pair.kept (h : Pair wB w g gr win x) (hk : Keep (fun _ => False) w w') : Pair wB w' g gr win x :=
  ⟨h.at_.kept hk, h.ref.kept hk, h.ne, h.lo, h.lo', h.bel.trans (hk.below h.bel.size (fun _ h => h.elim))⟩
end
theorem upd_turned {g : Nat} {win t v u : Int} {x : Tri} {w : World} (hu : u = 18446744073709551615 - v) (h : MaxAt w g win (turnT x)) (ht : Num t) (hv : Num v) :
    Calls Try.prog 15 #[.pointer (some ⟨g, 0, none⟩), .int .u64 t, .int .u64 u] w fun e w' => e = .returned (.int .u64 (18446744073709551615 - (updT true win x t v).v0)) ∧ MaxAt w' g win (turnT (updT true win x t v)) ∧ Keep (fun k => k = g) w w' := by
  subst hu
  have := xupd_any g win t (18446744073709551615 - v) (turnT x) w h ht ⟨by have := hv.2; omega, by have := hv.1; omega⟩
  rw [turn_upd] at this
  exact this
theorem wrap_fits {a : Int} (h0 : 0 ≤ a) (h1 : a ≤ 18446744073709551615) : IntKind.u64.wrap a = a :=
  Int.emod_eq_of_lt h0 (show a < 18446744073709551616 by omega)

set_option maxHeartbeats 4000000 in
set_option maxRecDepth 100000 in
theorem walk (a0 : Int) (a1 : Option Addr) (cap1 : Nat) (z1 : List Deed) (w : World) (w0 : (Lit.int .u64 a0).wf = true) (c1 : z1.length ≤ 9223372036854775807) (r1 : RdO w a1 z1) :
    Calls Try.prog 4 #[.int .u64 a0, .slice a1 z1.length cap1] w fun e w' => e = .returned (.bool true) ∧ Below w.heap.size w w' := by
  have N0 : Hid (Num a0) := Lib.hid (bounds_u64 w0)
  have HR := Lib.hid r1
  clear w0 r1
  go_enter Try.func4, Try.ntmps4
  go_wp2_with fail
  refine (nnew_any a0 N0.out _).mono ?_
  rintro e w1 ⟨rfl, h1, k1⟩
  have H1 := Lib.hid h1; have K1 := Lib.hid k1; clear h1 k1
  go_wp2_with fail
  refine (xnew_any a0 N0.out _).mono ?_
  rintro e w2 ⟨rfl, h2, k2⟩
  have P2 : Hid (Pair w w2 w.heap.size w1.heap.size a0 (newT 18446744073709551615)) := Lib.hid ⟨H1.out.kept k2, h2, by have := H1.out.lt; omega, Nat.le_refl _, K1.out.size, (K1.out.trans k2).below (Nat.le_refl _) (fun _ h => h.elim)⟩
  clear h2 k2
  go_wp2_with fail
  refine (awaken_any _).mono ?_
  rintro e w3 ⟨rfl, k3⟩
  have P3 := Lib.hid (P2.out.kept k3); clear k3 P2 H1 K1
  generalize w1.heap.size = gr at *
  obtain ⟨g, hg⟩ : ∃ g, w.heap.size = g := ⟨_, rfl⟩
  have P3' : Hid (Pair w w3 g gr a0 (newT 18446744073709551615)) := Lib.hid (hg ▸ P3.out)
  rw [hg]
  clear hg P3
  go_wp2
  go_loopw [7] (fun i wr => ∃ (i' : Nat) (x : Tri), i' ≤ z1.length ∧ i' ≤ 100 ∧ i = .int .i64 i' ∧ Pair w wr g gr a0 x) (fun i _ => 100 - (intOf i).toNat)
  case atStart => exact ⟨0, _, Nat.zero_le _, by omega, rfl, P3'.out⟩
  case round =>
    obtain ⟨i, x, hi, hi100, rfl, hP⟩ := hrel
    have HP := Lib.hid hP; clear hP P3'
    by_cases hlt : i < z1.length ∧ i < 100
    · obtain ⟨hl1, hl2⟩ := hlt
      obtain ⟨⟨s, f, r, hs, hf⟩, hsf⟩ : ∃ d, z1[i]? = some d := ⟨_, List.getElem?_eq_getElem hl1⟩
      obtain ⟨b, off, rfl, -⟩ := HR.out i _ hsf
      have HC : Hid (∀ W, Below w.heap.size w W → W.cell? ⟨b, off + i * 3, none⟩ = some (.int .u64 s) ∧ W.cell? ⟨b, off + i * 3 + 1, none⟩ = some (.int .u64 f)) := Lib.hid (fun W hW => by
        obtain ⟨_, _, e, _, h1, h2, _⟩ := HR.out.below hW i _ hsf
        cases e; exact ⟨h1, h2⟩)
      have hi1 : (i : Int) < (z1.length : Int) := by omega
      have hi2 : (i : Int) < 100 := by omega
      have HS := Lib.hid hs; have HF := Lib.hid hf
      have hf0 : 0 ≤ f := hf.1
      have hf1 : f ≤ 18446744073709551615 := hf.2
      have HFW : Hid (IntKind.u64.wrap (18446744073709551615 - f) = 18446744073709551615 - f) := Lib.hid (wrap_fits (by omega) (by omega))
      clear hsf HR hs hf
      go_wp2
      refine wp_region_sch (fun W => W.cell? ⟨b, off + i * 3, none⟩ = some (.int .u64 s) ∧ W.cell? ⟨b, off + i * 3 + 1, none⟩ = some (.int .u64 f)) [(true, 0), (true, 1), (true, 2), (true, 3), (true, 4), (true, 5), (true, 6), (true, 7), (true, 8), (true, 9), (true, 10), (true, 12), (true, 13), (true, 14), (true, 15), (true, 16), (true, 17), (true, 18), (true, 19), (true, 20), (true, 21), (true, 22), (true, 23), (false, 11), (false, 24), (true, 25), (true, 26)] (by kernel_rfl) (by kernel_rfl) (by kernel_rfl) (by kernel_rfl) (HC.out _ HP.out.bel.drew) ?_
      (repeat (refine wpSch_yes (v := ?_) rfl (fun _ _ _ h => h) (by rfl) ?_ ?_; rotate_left; (next => (intro w hSw; (try dsimp only at hSw); obtain ⟨hS1, hS2⟩ := hSw; go_simp; (try with_reducible rfl))); (try simp only [Act.put, List.setIfInBounds_toArray, List.set_cons_zero, List.set_cons_succ])))
      refine wpSch_call rfl (by rfl) (fun K hK => ?_)
      go_simp
      refine (nupd_any g a0 s f x _ HP.out.at_.drew HS.out HF.out).mono ?_
      rintro e w5 ⟨rfl, h5, k5⟩
      have k5' : Keep (fun k => k = g) wr w5 := (Keep.refl (fun k => k = g) wr).drew.trans k5
      have H5 := Lib.hid h5; have R5 := Lib.hid (HP.out.ref.keep k5' (fun h => HP.out.ne h.symm)); have B5 := Lib.hid (HP.out.bel.trans (k5'.below HP.out.bel.size (fun j h => by subst h; exact HP.out.lo))); clear h5 k5 k5'
      refine hK.out _ _ (HC.out _ B5.out) (fun hHeld => ?_)
      clear hK K hHeld
      (try simp only [Act.put, List.setIfInBounds_toArray, List.set_cons_zero, List.set_cons_succ])
      (repeat (refine wpSch_yes (v := ?_) rfl (fun _ _ _ h => h) (by rfl) ?_ ?_; rotate_left; (next => (intro w hSw; (try dsimp only at hSw); obtain ⟨hS1, hS2⟩ := hSw; go_simp; (try with_reducible rfl))); (try simp only [Act.put, List.setIfInBounds_toArray, List.set_cons_zero, List.set_cons_succ])))
      refine wpSch_call rfl (by rfl) (fun K hK => ?_)
      go_simp
      refine (upd_turned HFW.out R5.out HS.out HF.out).mono ?_
      rintro e w6 ⟨rfl, h6, k6⟩
      have P6 : Hid (Pair w w6 g gr a0 (updT true a0 x s f)) := Lib.hid ⟨H5.out.keep k6 HP.out.ne, h6, HP.out.ne, HP.out.lo, HP.out.lo', B5.out.trans (k6.below B5.out.size (fun j h => by subst h; exact HP.out.lo'))⟩
      clear h6 k6
      refine hK.out _ _ (HC.out _ P6.out.bel) (fun hHeld => ?_)
      clear hK K hHeld H5 R5 B5 HP
      (try simp only [Act.put, List.setIfInBounds_toArray, List.set_cons_zero, List.set_cons_succ])
      generalize updT true a0 x s f = y at *
      obtain ⟨hy0, hy1⟩ : 0 ≤ y.v0 ∧ y.v0 ≤ 18446744073709551615 := P6.out.at_.fit.b0
      have hyq : (y.v0 != y.v0) = false := by simp
      have hyq' : IntKind.u64.wrap (18446744073709551615 - (18446744073709551615 - y.v0)) = y.v0 := by
        rw [show (18446744073709551615 : Int) - (18446744073709551615 - y.v0) = y.v0 by omega]
        exact wrap_fits hy0 hy1
      generalize hyv : y.v0 = yv at *
      (repeat (refine wpSch_yes (v := ?_) rfl (fun _ _ _ h => h) (by rfl) ?_ ?_; rotate_left; (next => (intro w hSw; (try dsimp only at hSw); obtain ⟨hS1, hS2⟩ := hSw; go_simp; (try with_reducible rfl))); (try simp only [Act.put, List.setIfInBounds_toArray, List.set_cons_zero, List.set_cons_succ])))
      refine wpSch_nil ?_
      go_wp2
      go_roundw
      case rel => exact ⟨i + 1, _, by omega, by omega, by go_num, P6.out⟩
      case measure => simp [intOf]; omega
    · clear HR
      rcases (by omega : ¬ (i : Int) < (z1.length : Int) ∨ ((i : Int) < (z1.length : Int) ∧ ¬ (i : Int) < 100)) with hff | ⟨hf1, hff⟩
      · clear hlt
        go_wp2_with (first
          | (go_at_call 13; refine (nbest_nil _).mono ?_; rintro e w9 ⟨rfl, rfl⟩)
          | (go_at_call 11; refine (nupd_nil 1 1 _).mono ?_; rintro e w9 ⟨rfl, rfl⟩))
        go_ret
        exact ⟨rfl, HP.out.bel⟩
      · clear hlt
        go_wp2_with (first
          | (go_at_call 13; refine (nbest_nil _).mono ?_; rintro e w9 ⟨rfl, rfl⟩)
          | (go_at_call 11; refine (nupd_nil 1 1 _).mono ?_; rintro e w9 ⟨rfl, rfl⟩))
        go_ret
        exact ⟨rfl, HP.out.bel⟩

set_option maxRecDepth 100000 in
theorem lifted (os : Os) (started : os.Started) (H : Type) (enc : TypeId × Value → H) :
    ReturnsInHanded {} Try.checked os 4 .any (Rows.winminTurnedSpec.pre6 enc Try.prog Try.f4 Rows.winminTurnedRow.domain false) (Rows.winminTurnedSpec.post enc Try.prog Try.f4 false true false false) := by
  refine returnsInHanded_of_change (C := Try.checked) own started (by kernel_rfl) Try.func4
    (ChangeSpec.witness6 (enc := enc) (C := Try.checked) false ⟨#[], #[.int .u64 0, .slice none 0 0], []⟩ 8 (by kernel_rfl) (by kernel_rfl) (by kernel_rfl) (by kernel_rfl)) ?_
  intro W base args ds gs before hval0 hW hcnd _
  have hval : ∀ (j : Nat) t v, Try.f4.params[j]? = some t → args[j]? = some v → Value.okWide Try.prog W .any base t v := hval0
  have hW' := hW
  obtain ⟨p, q, hA0, hV, rfl, hfz, hnd⟩ := hW
  have hA : DataW.TrodAll enc Try.prog W 0 (fun _ => true) true Try.f4.params.toList args.toList ds p := hA0
  rw [Try.params4] at hA hval
  obtain ⟨v0, vs0, d0, ds0, p0, q0, hargs, rfl, rfl, h0, r0'⟩ := trodAll_cons hA
  obtain ⟨v1, vs1, d1, ds1, p1, q1, rfl, rfl, rfl, h1, r1'⟩ := trodAll_cons r0'
  obtain ⟨rfl, rfl, rfl⟩ := trodAll_nil r1'
  obtain rfl : args = #[v0, v1] := by cases args; simp_all
  obtain ⟨rfl, rfl⟩ := trodVars_none hV
  obtain ⟨a0, rfl, rfl, rfl, w0⟩ := open_int Try.underlying22 (hval 0 22 v0 rfl rfl) h0
  obtain ⟨a1, len1, cap1, rfl⟩ := okWide_slice Try.underlying23 (hval 1 23 v1 rfl rfl)
  have k1 := h1
  have lt1 : ∀ x ∈ p1, x.block < W.heap.size := by obtain ⟨m, hm⟩ := k1; exact DataW.trod_lt m _ _ _ hm
  obtain ⟨z1, hz1, hc1, r1⟩ := open_ops h1
  subst hz1
  clear hA0 hval0
  refine (walk a0 a1 cap1 z1 W w0 hc1 r1).mono fun e W' ⟨he, bel⟩ => ?_
  subst he
  exact ⟨_, rfl, _, _, _, [], _, [], hW', trodAll_mk1 (shut_bool Try.underlying4 _), (trodAll_cons_mk (shut_int Try.underlying22 w0) (trodAll_cons_mk (Below.trod laidOut (by kernel_rfl) (of_decide_eq_true (by kernel_rfl)) k1 bel lt1) trodAll_mk0)), rfl, bel.frame _, fun h => by cases h⟩

theorem over : Rows.winminTurnedRow.holds Try.pinned (OpenSpec.ofChange Rows.winminTurnedSpec) :=
  OpenClaim.holds_of_wide 4 Try.f4 rfl rfl rfl rfl rfl rfl rfl ⟨rfl, rfl, rfl, rfl, rfl⟩ rfl rfl rfl rfl rfl (by kernel_rfl) Try.func4 (by kernel_rfl)
    (of_decide_eq_true (by kernel_rfl)) (by unfold Func.isWrapper; first | (rw [if_pos (by decide +kernel)]; kernel_rfl) | (rw [if_neg (by decide +kernel)]; exact ⟨rfl, rfl⟩))
    (fun os started H enc _ => lifted os started H enc)

theorem proved : Rows.WinminTurnedSaid := over
end Go.Proofs.Ytcdhnokhklnkoaa.winminTurned
namespace Go.Proofs.Ytcdhnokhklnkoaa
theorem winminTurned_holds : Rows.WinminTurnedSaid := winminTurned.proved
#print axioms winminTurned_holds
end Go.Proofs.Ytcdhnokhklnkoaa
