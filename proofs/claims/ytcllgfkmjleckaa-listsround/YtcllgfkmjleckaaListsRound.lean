/-
  Proved: canterlaw19.ListsRound answers true at every three numbers, and leaves its arguments as they were. Conditions: none.
-/
import Derived.Test.YtcllgfkmjleckaaRows
import Derived.WalkKit
import Derived.ProofKit
import Derived.OpenShut
import Derived.ShutString
import Derived.Test.YtcllgfkmjleckaaAwakeLs
namespace Go.Proofs.Ytcllgfkmjleckaa.listsRound
open Go.ChangeShapes Go.WideShapes Go.ChangeAt Go.RowKit
open Go.ChangeMaps (open_string shut_string)
set_option linter.unusedVariables false

theorem own : ownKnob Try.prog.godebug = none := by kernel_rfl

/-- 0 .. n - 1, turned by r. -/
def rotL (n r : Nat) : List Int := (List.range n).map fun (j : Nat) => (((r + j) % n : Nat) : Int)
theorem one_more : ∀ k : Nat, k < 8 → (pushV [] (rotL k 0) (k : Int) = 0 ∧ pushN [] (rotL k 0) (k : Int) false = [] ∧ pushO [] (rotL k 0) (k : Int) false = rotL (k + 1) 0) := by decide
theorem one_turn : ∀ n : Nat, n < 9 → ∀ r : Nat, r < n → (headS [] (rotL n r) = (r : Int) ∧ headF [] (rotL n r) = false ∧ headB [] (rotL n r) = true ∧ dropN [] = [] ∧ backO [] (rotL n r) = rotL n ((r + 1) % n)) := by decide
theorem one_end1 : ∀ n : Nat, n < 9 → ∀ r : Nat, r < n → (pushV [] (rotL n r) 0 = 6 ∧ pushN [] (rotL n r) 0 true = [] ∧ pushO [] (rotL n r) 0 true = rotL n r) := by decide
theorem one_end2 : ∀ n : Nat, n < 9 → ∀ r : Nat, r < n → (pushV [] (rotL n r) (-1) = 8 ∧ pushN [] (rotL n r) (-1) true = [] ∧ pushO [] (rotL n r) (-1) true = rotL n r) := by decide
theorem one_end3 : ∀ n : Nat, n < 9 → ∀ r : Nat, r < n → (pushV [] (rotL n r) 8 = 8 ∧ pushN [] (rotL n r) 8 true = [] ∧ pushO [] (rotL n r) 8 true = rotL n r) := by decide
theorem told_len (n r : Nat) (m : Nat) (hm : 1 ≤ m) : (toldL [] (rotL n r) (m : Int)).length = min m n := by
  unfold toldL
  rw [List.length_take, tell_len]
  simp [rotL]
  omega

set_option maxHeartbeats 4000000 in
set_option maxRecDepth 100000 in
theorem walk (a0 : Int) (a1 : Int) (a2 : Int) (w0 : (Lit.int .i64 a0).wf = true) (w1 : (Lit.int .i64 a1).wf = true) (w2 : (Lit.int .i64 a2).wf = true) (w : World) :
    Calls Try.prog 4 #[.int .i64 a0, .int .i64 a1, .int .i64 a2] w fun e w' => e = .returned (.bool true) ∧ Below w.heap.size w w' := by
  clear w0 w1 w2
  obtain ⟨u, hu⟩ : ∃ u : Nat, IntKind.u64.wrap a0 = (u : Int) := ⟨(IntKind.u64.wrap a0).toNat, by rw [IntKind.wrap_u64]; omega⟩
  obtain ⟨u', hu'⟩ : ∃ u : Nat, IntKind.u64.wrap a1 = (u : Int) := ⟨(IntKind.u64.wrap a1).toNat, by rw [IntKind.wrap_u64]; omega⟩
  obtain ⟨u'', hu''⟩ : ∃ u : Nat, IntKind.u64.wrap a2 = (u : Int) := ⟨(IntKind.u64.wrap a2).toNat, by rw [IntKind.wrap_u64]; omega⟩
  have HR := Lib.hid (Room.begin w)
  go_enter Try.func4, Try.ntmps4
  go_wp2_with fail
  obtain ⟨n, hn⟩ : ∃ n : Nat, 1 + (u : Int) % 8 = (n : Int) := ⟨1 + u % 8, by omega⟩
  obtain ⟨t, ht⟩ : ∃ t : Nat, (u' : Int) % 50 = (t : Int) := ⟨u' % 50, by omega⟩
  obtain ⟨s, hs⟩ : ∃ s : Nat, 1 + (u'' : Int) % 9 = (s : Int) := ⟨1 + u'' % 9, by omega⟩
  have hn1 : 1 ≤ n := by omega
  have hn9 : n < 9 := by omega
  have ht50 : t < 50 := by omega
  have hs1 : 1 ≤ s := by omega
  have hs9 : s ≤ 9 := by omega
  rw [hn, ht, hs]
  clear hn ht hs hu hu' hu''
  refine HR.out.lsnew.mono ?_
  rintro e w1 ⟨rfl, h1⟩
  have R1 := Lib.hid h1; clear h1
  generalize w.heap.size = g at *
  go_wp2_with fail
  refine (awakels_any _).mono ?_
  rintro e w2 ⟨rfl, k2⟩
  have R2 := Lib.hid (R1.out.kept k2); clear k2 R1
  go_wp2
  go_loopw [8] (fun i wr => ∃ (k : Nat), k ≤ n ∧ i = .int .i64 k ∧ Room w wr [lsT g [] (rotL k 0)]) (fun i _ => n - (intOf i).toNat)
  case atStart => exact ⟨0, by omega, rfl, R2.out⟩
  case round =>
    obtain ⟨k, hk, rfl, hR⟩ := hrel
    have R := Lib.hid hR; clear hR R2
    by_cases hlt : k < n
    · have hi1 : (k : Int) < (n : Int) := by omega
      have HS := Lib.hid (one_more k (by omega))
      go_wp2_with fail
      refine (R.out.lspush false HS.out.1 HS.out.2.1 HS.out.2.2).mono ?_
      rintro e w3 ⟨rfl, h3⟩
      have R3 := Lib.hid h3; clear h3 R HS
      go_wp2
      go_roundw
      case rel => exact ⟨k + 1, by omega, by go_num, R3.out⟩
      case measure => simp [intOf]; omega
    · obtain rfl : k = n := by omega
      clear hk hlt
      go_wp2
      go_loopw [9] (fun i wr => ∃ (j : Nat), j ≤ t ∧ i = .int .i64 j ∧ Room w wr [lsT g [] (rotL k (j % k))]) (fun i _ => t - (intOf i).toNat)
      case atStart => exact ⟨0, by omega, rfl, by rw [Nat.zero_mod]; exact R.out⟩
      case round =>
        obtain ⟨j, hj, rfl, hR⟩ := hrel
        clear R
        have R := Lib.hid hR; clear hR
        have hjk : j % k < k := Nat.mod_lt _ (by omega)
        by_cases hlt : j < t
        · have hi1 : (j : Int) < (t : Int) := by omega
          have HS := Lib.hid (one_turn k hn9 (j % k) hjk)
          have hm : Int.tmod (j : Int) (k : Int) = ((j % k : Nat) : Int) := rfl
          have hk0 : ((k : Int) == 0) = false := by simp; omega
          obtain ⟨r, hr⟩ : ∃ r, r = j % k := ⟨_, rfl⟩
          rw [← hr] at hm R HS
          have HN : Hid ((r + 1) % k = (j + 1) % k) := Lib.hid (by rw [hr, Nat.mod_add_mod])
          have hq : ((r : Int) != (r : Int)) = false := by simp
          clear hr hjk
          go_wp2_with fail
          refine (R.out.lshead HS.out.1 HS.out.2.1 HS.out.2.2.1).mono ?_
          rintro e w3 ⟨rfl, h3⟩
          have R3 := Lib.hid h3; clear h3 R
          go_wp2_with fail
          refine (R3.out.lsback HS.out.2.2.1 HS.out.2.2.2.1 HS.out.2.2.2.2).mono ?_
          rintro e w4 ⟨rfl, h4⟩
          have R4 := Lib.hid h4; clear h4 R3
          go_wp2
          go_roundw
          case rel => exact ⟨j + 1, by omega, by go_num, by rw [← HN.out]; exact R4.out⟩
          case measure => simp [intOf]; omega
        · obtain rfl : j = t := by omega
          clear hj hlt
          have HS := Lib.hid (⟨one_end1 k hn9 (j % k) hjk, one_end2 k hn9 (j % k) hjk, one_end3 k hn9 (j % k) hjk⟩ : _ ∧ _ ∧ _)
          have HLN := Lib.hid (told_len k (j % k) s hs1)
          generalize rotL k (j % k) = O at *
          clear hjk
          obtain ⟨q, hq⟩ : ∃ q, q = min s k := ⟨_, rfl⟩
          rw [← hq] at HLN
          go_wp2_with fail
          refine (R.out.lstold (m := (s : Int)) q rfl HLN.out).mono ?_
          rintro e w3 ⟨a1, c1, a2, c2, rfl, h3⟩
          have R3 := Lib.hid (h3.less (M := [lsT g [] O]) (List.Sublist.cons_cons _ (List.nil_sublist _))); clear h3 R HLN
          go_wp2_with fail
          refine (lsnil_head _).mono ?_
          rintro e w4' ⟨rfl, k4'⟩
          have R4' := Lib.hid (R3.out.kept k4'); clear k4' R3
          go_wp2_with fail
          refine (lsnil_told 3 _).mono ?_
          rintro e w4 ⟨b1, d1, b2, d2, rfl, k4⟩
          have R4 := Lib.hid (R4'.out.kept k4); clear k4 R4'
          rcases Nat.lt_trichotomy s k with h | h | h
          · obtain rfl : q = s := by omega
            have g1 : (q : Int) < (k : Int) := by omega
            have g2 : ¬ ((k : Int) < (q : Int)) := by omega
            have f2 : ((q : Int) == (q : Int)) = true := by simp
            clear h hq
            go_wp2_with fail
            refine (R4.out.lspush (s := 0) true HS.out.1.1 HS.out.1.2.1 HS.out.1.2.2).mono ?_
            rintro e w5 ⟨rfl, h5⟩
            have R5 := Lib.hid h5; clear h5 R4
            go_wp2_with fail
            refine (R5.out.lspush (s := -1) true HS.out.2.1.1 HS.out.2.1.2.1 HS.out.2.1.2.2).mono ?_
            rintro e w6 ⟨rfl, h6⟩
            have R6 := Lib.hid h6; clear h6 R5
            go_wp2_with fail
            refine (R6.out.lspush (s := 8) true HS.out.2.2.1 HS.out.2.2.2.1 HS.out.2.2.2.2).mono ?_
            rintro e w7 ⟨rfl, h7⟩
            have R7 := Lib.hid h7; clear h7 R6
            go_wp2_with fail
            refine (lspush_nil 0 true _).mono ?_
            rintro e w7' ⟨rfl, rfl⟩
            go_wp2_with fail
            refine (lsdrop_nil _).mono ?_
            rintro e w8 ⟨rfl, k8⟩
            have R8 := Lib.hid (R7.out.kept k8); clear k8 R7
            go_wp2_with fail
            refine (lsback_nil _).mono ?_
            rintro e w9 ⟨rfl, k9⟩
            have R9 := Lib.hid (R8.out.kept k9); clear k9 R8
            go_wp2_with fail
            refine (lsremove_nil 0 _).mono ?_
            rintro e w9' ⟨rfl, rfl⟩
            go_wp2_with fail
            refine (lsnil_place 0 _).mono ?_
            rintro e w10 ⟨rfl, k10⟩
            have R10 := Lib.hid (R9.out.kept k10); clear k10 R9
            go_wp2
            go_ret
            exact ⟨rfl, R10.out.bel⟩
          · subst h
            obtain rfl : q = s := by omega
            have f2 : ((q : Int) == (q : Int)) = true := by simp
            clear hq
            go_wp2_with fail
            refine (R4.out.lspush (s := 0) true HS.out.1.1 HS.out.1.2.1 HS.out.1.2.2).mono ?_
            rintro e w5 ⟨rfl, h5⟩
            have R5 := Lib.hid h5; clear h5 R4
            go_wp2_with fail
            refine (R5.out.lspush (s := -1) true HS.out.2.1.1 HS.out.2.1.2.1 HS.out.2.1.2.2).mono ?_
            rintro e w6 ⟨rfl, h6⟩
            have R6 := Lib.hid h6; clear h6 R5
            go_wp2_with fail
            refine (R6.out.lspush (s := 8) true HS.out.2.2.1 HS.out.2.2.2.1 HS.out.2.2.2.2).mono ?_
            rintro e w7 ⟨rfl, h7⟩
            have R7 := Lib.hid h7; clear h7 R6
            go_wp2_with fail
            refine (lspush_nil 0 true _).mono ?_
            rintro e w7' ⟨rfl, rfl⟩
            go_wp2_with fail
            refine (lsdrop_nil _).mono ?_
            rintro e w8 ⟨rfl, k8⟩
            have R8 := Lib.hid (R7.out.kept k8); clear k8 R7
            go_wp2_with fail
            refine (lsback_nil _).mono ?_
            rintro e w9 ⟨rfl, k9⟩
            have R9 := Lib.hid (R8.out.kept k9); clear k9 R8
            go_wp2_with fail
            refine (lsremove_nil 0 _).mono ?_
            rintro e w9' ⟨rfl, rfl⟩
            go_wp2_with fail
            refine (lsnil_place 0 _).mono ?_
            rintro e w10 ⟨rfl, k10⟩
            have R10 := Lib.hid (R9.out.kept k10); clear k10 R9
            go_wp2
            go_ret
            exact ⟨rfl, R10.out.bel⟩
          · obtain rfl : q = k := by omega
            have g1 : (q : Int) < (s : Int) := by omega
            have g2 : ¬ ((s : Int) < (q : Int)) := by omega
            have f2 : ((q : Int) == (q : Int)) = true := by simp
            clear h hq
            go_wp2_with fail
            refine (R4.out.lspush (s := 0) true HS.out.1.1 HS.out.1.2.1 HS.out.1.2.2).mono ?_
            rintro e w5 ⟨rfl, h5⟩
            have R5 := Lib.hid h5; clear h5 R4
            go_wp2_with fail
            refine (R5.out.lspush (s := -1) true HS.out.2.1.1 HS.out.2.1.2.1 HS.out.2.1.2.2).mono ?_
            rintro e w6 ⟨rfl, h6⟩
            have R6 := Lib.hid h6; clear h6 R5
            go_wp2_with fail
            refine (R6.out.lspush (s := 8) true HS.out.2.2.1 HS.out.2.2.2.1 HS.out.2.2.2.2).mono ?_
            rintro e w7 ⟨rfl, h7⟩
            have R7 := Lib.hid h7; clear h7 R6
            go_wp2_with fail
            refine (lspush_nil 0 true _).mono ?_
            rintro e w7' ⟨rfl, rfl⟩
            go_wp2_with fail
            refine (lsdrop_nil _).mono ?_
            rintro e w8 ⟨rfl, k8⟩
            have R8 := Lib.hid (R7.out.kept k8); clear k8 R7
            go_wp2_with fail
            refine (lsback_nil _).mono ?_
            rintro e w9 ⟨rfl, k9⟩
            have R9 := Lib.hid (R8.out.kept k9); clear k9 R8
            go_wp2_with fail
            refine (lsremove_nil 0 _).mono ?_
            rintro e w9' ⟨rfl, rfl⟩
            go_wp2_with fail
            refine (lsnil_place 0 _).mono ?_
            rintro e w10 ⟨rfl, k10⟩
            have R10 := Lib.hid (R9.out.kept k10); clear k10 R9
            go_wp2
            go_ret
            exact ⟨rfl, R10.out.bel⟩

set_option maxRecDepth 100000 in
theorem lifted (os : Os) (started : os.Started) (H : Type) (enc : TypeId × Value → H) :
    ReturnsInHanded {} Try.checked os 4 .any (Rows.listsRoundSpec.pre6 enc Try.prog Try.f4 Rows.listsRoundRow.domain false) (Rows.listsRoundSpec.post enc Try.prog Try.f4 false true false false) := by
  refine returnsInHanded_of_change (C := Try.checked) own started (by kernel_rfl) Try.func4
    (ChangeSpec.witness6 (enc := enc) (C := Try.checked) false ⟨#[], #[.int .i64 0, .int .i64 0, .int .i64 0], []⟩ 8 (by kernel_rfl) (by kernel_rfl) (by kernel_rfl) (by kernel_rfl)) ?_
  intro W base args ds gs before hval0 hW hcnd _
  have hval : ∀ (j : Nat) t v, Try.f4.params[j]? = some t → args[j]? = some v → Value.okWide Try.prog W .any base t v := hval0
  have hW' := hW
  obtain ⟨p, q, hA0, hV, rfl, hfz, hnd⟩ := hW
  have hA : DataW.TrodAll enc Try.prog W 0 (fun _ => true) true Try.f4.params.toList args.toList ds p := hA0
  rw [Try.params4] at hA hval
  obtain ⟨v0, vs0, d0, ds0, p0, q0, hargs, rfl, rfl, h0, r0⟩ := trodAll_cons hA
  obtain ⟨v1, vs1, d1, ds1, p1, q1, rfl, rfl, rfl, h1, r1⟩ := trodAll_cons r0
  obtain ⟨v2, vs2, d2, ds2, p2, q2, rfl, rfl, rfl, h2, r2⟩ := trodAll_cons r1
  obtain ⟨rfl, rfl, rfl⟩ := trodAll_nil r2
  obtain rfl : args = #[v0, v1, v2] := by cases args; simp_all
  obtain ⟨rfl, rfl⟩ := trodVars_none hV
  obtain ⟨a0, rfl, rfl, rfl, w0⟩ := open_int Try.underlying3 (hval 0 3 v0 rfl rfl) h0
  obtain ⟨a1, rfl, rfl, rfl, w1⟩ := open_int Try.underlying3 (hval 1 3 v1 rfl rfl) h1
  obtain ⟨a2, rfl, rfl, rfl, w2⟩ := open_int Try.underlying3 (hval 2 3 v2 rfl rfl) h2
  clear hA0 hval0
  simp only [List.append_nil] at hW'
  refine (walk a0 a1 a2 w0 w1 w2 W).mono fun e W' ⟨he, hg⟩ => ?_
  subst he
  exact ⟨_, rfl, _, _, _, [], _, [], hW', trodAll_mk1 (shut_bool Try.underlying4 _), (trodAll_cons_mk (shut_int Try.underlying3 w0) (trodAll_cons_mk (shut_int Try.underlying3 w1) (trodAll_cons_mk (shut_int Try.underlying3 w2) trodAll_mk0))), rfl, hg.frame _, fun h => by cases h⟩

theorem over : Rows.listsRoundRow.holds Try.pinned (OpenSpec.ofChange Rows.listsRoundSpec) :=
  OpenClaim.holds_of_wide 4 Try.f4 rfl rfl rfl rfl rfl rfl rfl ⟨rfl, rfl, rfl, rfl, rfl⟩ rfl rfl rfl rfl rfl (by kernel_rfl) Try.func4 (by kernel_rfl)
    (of_decide_eq_true (by kernel_rfl)) (by unfold Func.isWrapper; first | (rw [if_pos (by decide +kernel)]; kernel_rfl) | (rw [if_neg (by decide +kernel)]; exact ⟨rfl, rfl⟩))
    (fun os started H enc _ => lifted os started H enc)

theorem proved : Rows.ListsRoundSaid :=
  over
end Go.Proofs.Ytcllgfkmjleckaa.listsRound
namespace Go.Proofs.Ytcllgfkmjleckaa
theorem listsRound_holds : Rows.ListsRoundSaid := listsRound.proved
#print axioms listsRound_holds
end Go.Proofs.Ytcllgfkmjleckaa
