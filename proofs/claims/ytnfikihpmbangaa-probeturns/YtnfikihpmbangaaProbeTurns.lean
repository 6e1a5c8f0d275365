/-
  Proved: canterlaw15.ProbeTurns answers true at every list of updates, and leaves its argument as it was. Conditions: none.
-/
import Derived.Test.YtnfikihpmbangaaRows
import Derived.WalkKit
import Derived.ProofKit
import Derived.OpenShut
import Derived.ShutString
import Derived.Below
import Derived.Test.YtnfikihpmbangaaPrbMore
import Derived.Test.YtnfikihpmbangaaURow
import Derived.Test.YtnfikihpmbangaaOpenB
import Derived.Test.YtnfikihpmbangaaSched
import Derived.OwnWalk
namespace Go.Proofs.Ytnfikihpmbangaa.probeTurns
open Go.ChangeShapes Go.WideShapes Go.ChangeAt Go.RowKit
set_option linter.unusedVariables false

theorem own : ownKnob Try.prog.godebug = none := by kernel_rfl
theorem laidOut : laidOutB Try.prog = true := by kernel_rfl


set_option maxHeartbeats 4000000 in
set_option maxRecDepth 100000 in
theorem walk (a0 : Option Addr) (cap0 : Nat) (z0 : List BOp) (w : World) (c0 : z0.length ≤ 9223372036854775807) (r0 : RdL 5 cells5 w a0 z0) :
    Calls Try.prog 4 #[.slice a0 z0.length cap0] w fun e w' => e = .returned (.bool true) ∧ Below w.heap.size w w' := by
  have HR := Lib.hid r0
  clear r0
  go_enter Try.func4, Try.ntmps4
  go_wp2_with fail
  refine ((Room.begin w).prnew).mono ?_
  rintro e w1 ⟨rfl, r1⟩
  have R1 := Lib.hid r1; clear r1
  generalize w.heap.size = g at *
  go_wp2_with fail
  refine R1.out.awakeb.mono ?_
  rintro e w3 ⟨rfl, r3⟩
  have R3 := Lib.hid r3; clear r3 R1
  go_wp2
  go_loopg [4, 5, 6] 100 (fun j s4 s5 i wr => ∃ (k : Nat) (x : Prb) (l : List Int), k + j = 100 ∧ k ≤ z0.length ∧ i = .int .i64 k ∧ l.length = k ∧ s4 = .bool x.i ∧ (x.b = 0 ∨ x.b ∈ l) ∧ Room w wr [prbT g x, uvsT s5 l])
  case atStart => exact ⟨0, _, [], by omega, Nat.zero_le _, rfl, rfl, rfl, .inl rfl, (R3.out.add (t := uvsT (.slice none 0 0) []) (uvs_nil _) (Keep.refl _ _) (fun k e => (by cases e))).perm (List.Perm.swap _ _ _)⟩
  case round =>
    obtain ⟨k, x, l, hk100, hk1, rfl, hlk, rfl, hcame, hRm⟩ := hrel
    obtain ⟨a, c, rfl⟩ := uvs_shape hRm.get1
    have HM := Lib.hid hRm; have HCM := Lib.hid hcame; clear hRm hcame R3
    by_cases hlt : k < z0.length ∧ k < 100
    · obtain ⟨hl1, hl2⟩ := hlt
      obtain ⟨⟨n, t, f, o, st, hn, ht⟩, hjob⟩ : ∃ j, z0[k]? = some j := ⟨_, List.getElem?_eq_getElem hl1⟩
      obtain ⟨b, off, rfl, -⟩ := HR.out k _ hjob
      obtain ⟨_, _, e, _, hc⟩ := HR.out.below HM.out.bel k _ hjob
      cases e
      have c0 := hc 0 _ rfl; have c1 := hc 1 _ rfl; have c2 := hc 2 _ rfl; have c3 := hc 3 _ rfl; have c4 := hc 4 _ rfl
      dsimp only at c0 c1 c2 c3 c4
      rw [Nat.add_zero] at c0
      have hi1 : (k : Int) < (z0.length : Int) := by omega
      have hi2 : (k : Int) < 100 := by omega
      have NN := Lib.hid hn
      have NT := Lib.hid ht
      obtain ⟨y, hy⟩ : ∃ y, updB x ⟨n, t, st, f, o⟩ = y := ⟨_, rfl⟩
      obtain ⟨B, hB⟩ : ∃ B, begB x ⟨n, t, st, f, o⟩ = B := ⟨_, rfl⟩
      obtain ⟨C, hC⟩ : ∃ C, leaB x ⟨n, t, st, f, o⟩ = C := ⟨_, rfl⟩
      have HE : Hid (Upd x ⟨n, t, st, f, o⟩ B C y) := Lib.hid ⟨hB, hC, hy⟩
      clear hjob hB hC hy HR hn ht hc
      have R4 := Lib.hid (HM.out.box2 31 #[.int .u64 n, .int .u64 t, .int .u64 f, .int .u64 o, .bool st])
      go_upto_region 10 with fail
      clear c0 c1 c2 c3 c4
      generalize hw4 : World.alloc wr _ = w4 at *
      generalize wr.heap.size = ob at *
      clear hw4 HM
      have b1 : w4.cell? ⟨ob, 1, none⟩ = some (.int .u64 t) := Whole.cell R4.out.get2 1
      obtain ⟨i0, hi, hz0, hz1, hz2⟩ := Try.partsUR
      have HI := Lib.hid hi; have HZ0 := Lib.hid hz0; have HZ1 := Lib.hid hz1; have HZ2 := Lib.hid hz2; clear hi hz0 hz1 hz2
      go_wp2_with (at_builtin; refine wpList_append_rows rfl _ _ 36 rfl 26 i0 _ 1 8 Try.underlying36 HI.out HZ0.out HZ1.out HZ2.out rfl (by decide) _ l.length (uvs l) rfl (R4.out.alloc _).get1 (some ⟨w4.heap.size, 0, none⟩) 1 1 [.int .u64 t] rfl rfl (fun h => (by cases h)) (row_news w4 [.int .u64 t] 26) (uvs_one [t]) (by unfold maxLen; omega) (by omega) ?_; intro v' w5 hown hk5 hnew5 _; have R5 := Lib.hid ((R4.out.alloc _).step1 (t' := uvsT v' (l ++ [t])) (uvs_more hown) hk5 hnew5); clear hown hk5 hnew5 b1; have b0 : w5.cell? ⟨ob, 0, none⟩ = some (.int .u64 n) := Whole.cell R5.out.get2 0; have b1 : w5.cell? ⟨ob, 1, none⟩ = some (.int .u64 t) := Whole.cell R5.out.get2 1; have b2 : w5.cell? ⟨ob, 2, none⟩ = some (.int .u64 f) := Whole.cell R5.out.get2 2; have b3 : w5.cell? ⟨ob, 3, none⟩ = some (.int .u64 o) := Whole.cell R5.out.get2 3; have b4 : w5.cell? ⟨ob, 4, none⟩ = some (.bool st) := Whole.cell R5.out.get2 4)
      refine (R5.out.prupd HE.out NN.out NT.out).mono ?_
      rintro e w6 ⟨rfl, r6⟩
      have R6 := Lib.hid (r6.less (M := [prbT g y, uvsT v' (l ++ [t])]) (List.Sublist.cons_cons _ (List.Sublist.cons_cons _ (List.nil_sublist _)))); clear r6 R5 R4 b0 b1 b2 b3 b4 HI HZ0 HZ1 HZ2
      have HL' : Hid ((l ++ [t]).length = k + 1) := Lib.hid (by simp [hlk])
      have HCM' : Hid (y.b = 0 ∨ y.b ∈ l ++ [t]) := Lib.hid (by
        rcases upd_best HE.out with e | e
        · rw [e]
          rcases HCM.out with h | h
          · exact .inl h
          · exact .inr (List.mem_append_left _ h)
        · rw [e]
          exact .inr (List.mem_append_right _ (List.mem_singleton.2 rfl)))
      have HTN := Lib.hid (upd_turn HE.out)
      clear HE HCM
      generalize l ++ [t] = l' at *
      obtain ⟨a', c', hv'⟩ := uvs_shape R6.out.get1
      rw [HL'.out] at hv'
      subst hv'
      obtain ⟨yb, hyb⟩ : ∃ v, y.b = v := ⟨_, rfl⟩
      obtain ⟨yi, hyi⟩ : ∃ v, y.i = v := ⟨_, rfl⟩
      obtain ⟨xi, hxi⟩ : ∃ v, x.i = v := ⟨_, rfl⟩
      have HYB := Lib.hid hyb
      have HYI := Lib.hid hyi
      rw [hyi, hxi] at HTN
      rw [hxi]
      rw [hyb] at HCM'
      clear hyb hyi hxi
      go_upto_region 12 with fail
      go_cut [66] (fun s66 wx => s66 = .bool false ∧ wx = w6)
      case first =>
        rcases HTN.out with ⟨e1, e2, e3, e4⟩ | ⟨e1, e2, e3, e4⟩ | ⟨e1, e2, e3, e4⟩ | ⟨e1, e2, e3, e4⟩
        · subst e1; subst e2; subst e3
          go_wp2
          go_meet
          exact ⟨congrArg Value.bool (by first | rfl | exact e4.symm), rfl⟩
        · subst e1; subst e2; subst e3
          go_wp2
          go_meet
          exact ⟨congrArg Value.bool (by first | rfl | exact e4.symm), rfl⟩
        · subst e1; subst e2; subst e3
          go_wp2
          go_meet
          exact ⟨congrArg Value.bool (by first | rfl | exact e4.symm), rfl⟩
        · subst e1; subst e2; subst e3
          go_wp2
          go_meet
          exact ⟨congrArg Value.bool (by first | rfl | exact e4.symm), rfl⟩
      case rest =>
      obtain ⟨rfl, hwc⟩ := hcut
      have hwc := hwc.symm
      subst hwc
      go_upto_region 14 with fail
      go_cut [4] (fun s4 wx => s4 = .bool yi ∧ wx = w6)
      case first =>
        rcases HTN.out with ⟨e1, e2, e3, e4⟩ | ⟨e1, e2, e3, e4⟩ | ⟨e1, e2, e3, e4⟩ | ⟨e1, e2, e3, e4⟩
        · subst e1; subst e2; subst e3
          go_wp2
          go_meet
          exact ⟨congrArg Value.bool (by first | rfl | exact e4.symm), rfl⟩
        · subst e1; subst e2; subst e3
          go_wp2
          go_meet
          exact ⟨congrArg Value.bool (by first | rfl | exact e4.symm), rfl⟩
        · subst e1; subst e2; subst e3
          go_wp2
          go_meet
          exact ⟨congrArg Value.bool (by first | rfl | exact e4.symm), rfl⟩
        · subst e1; subst e2; subst e3
          go_wp2
          go_meet
          exact ⟨congrArg Value.bool (by first | rfl | exact e4.symm), rfl⟩
      case rest =>
      obtain ⟨rfl, hwc⟩ := hcut
      have hwc := hwc.symm
      subst hwc
      clear HTN
      go_wp2_with fail
      refine (R6.out.prbest HYB.out).mono ?_
      rintro e w7 ⟨rfl, rfl⟩
      go_wp2
      go_loopw [10, 11] (fun s10 i wx => ∃ (j : Nat) (fb : Bool), j ≤ k + 1 ∧ i = .int .i64 j ∧ s10 = .bool fb ∧ ((yb == 0) = true → fb = true) ∧ (∀ q : Nat, q < j → l'[q]? = some yb → fb = true) ∧ Room w wx [prbT g y, uvsT (.slice a' (k + 1) c') l']) (fun _ i _ => k + 1 - (intOf i).toNat)
      case atStart => exact ⟨0, _, Nat.zero_le _, rfl, rfl, id, fun q h => absurd h (Nat.not_lt_zero _), R6.out⟩
      case round =>
        obtain ⟨j, fb, hj, rfl, rfl, hz, hq, hRm⟩ := hrel
        have HM := Lib.hid hRm; have HZ := Lib.hid hz; have HQ := Lib.hid hq; clear hRm hz hq R6
        by_cases hjk : j < k + 1
        · obtain ⟨vj, hvj⟩ : ∃ z, l'[j]? = some z := ⟨_, List.getElem?_eq_getElem (by rw [HL'.out]; exact hjk)⟩
          obtain ⟨r, rfl, hcj⟩ := uvs_get HM.out.drew.get1 HL'.out.symm hvj
          have HVJ := Lib.hid hcj
          have HJ := Lib.hid hvj
          have hji : (j : Int) < (k : Int) + 1 := by omega
          clear hcj hvj
          cases fb
          · go_upto_region 19 with fail
            refine wp_region_sch (fun W => W.cell? ⟨r, j, none⟩ = some (.int .u64 vj)) [(true, 0), (true, 1), (true, 2), (true, 3), (true, 4), (true, 5), (true, 6), (false, 7), (true, 8), (true, 9), (true, 10)] (by kernel_rfl) (by kernel_rfl) (by kernel_rfl) (by kernel_rfl) HVJ.out ?_
            (repeat (first | (refine wpSch_yes (v := ?_) rfl (fun _ _ _ h => h) (by rfl) ?_ ?_; rotate_left; (next => (intro w hSw; (try dsimp only at hSw); go_simp; (try with_reducible rfl))); (try simp only [Act.put, List.setIfInBounds_toArray, List.set_cons_zero, List.set_cons_succ])) | (refine wpSch_no rfl (fun _ _ _ h => h) (by rfl) ?_; (try simp only [Act.put, List.setIfInBounds_toArray, List.set_cons_zero, List.set_cons_succ]))))
            refine wpSch_call rfl (by rfl) (fun K hK => ?_); go_simp
            refine (HM.out.drew.prbest HYB.out).mono ?_
            rintro e w' ⟨rfl, rfl⟩
            refine hK.out _ _ HVJ.out (fun hHeld => ?_)
            clear hK K hHeld
            (try simp only [Act.put, List.setIfInBounds_toArray, List.set_cons_zero, List.set_cons_succ])
            (repeat (first | (refine wpSch_yes (v := ?_) rfl (fun _ _ _ h => h) (by rfl) ?_ ?_; rotate_left; (next => (intro w hSw; (try dsimp only at hSw); go_simp; (try with_reducible rfl))); (try simp only [Act.put, List.setIfInBounds_toArray, List.set_cons_zero, List.set_cons_succ])) | (refine wpSch_no rfl (fun _ _ _ h => h) (by rfl) ?_; (try simp only [Act.put, List.setIfInBounds_toArray, List.set_cons_zero, List.set_cons_succ]))))
            refine wpSch_nil ?_
            go_wp2
            go_roundw
            case rel => exact ⟨j + 1, vj == yb, by omega, by go_num, rfl, fun h => absurd (HZ.out h) (by decide), fun q hq1 hq2 => by
              by_cases e : q = j
              · subst e
                have := HJ.out.symm.trans hq2
                cases this
                simp
              · exact absurd (HQ.out q (by omega) hq2) (by decide), HM.out.drew⟩
            case measure => simp [intOf]; omega
          · go_upto_region 19 with fail
            refine wp_region_sch (fun W => W.cell? ⟨r, j, none⟩ = some (.int .u64 vj)) [(true, 0), (true, 1), (true, 2), (true, 3), (true, 4), (true, 5), (true, 6), (false, 7), (true, 8), (true, 9), (true, 10)] (by kernel_rfl) (by kernel_rfl) (by kernel_rfl) (by kernel_rfl) HVJ.out ?_
            (repeat (first | (refine wpSch_yes (v := ?_) rfl (fun _ _ _ h => h) (by rfl) ?_ ?_; rotate_left; (next => (intro w hSw; (try dsimp only at hSw); go_simp; (try with_reducible rfl))); (try simp only [Act.put, List.setIfInBounds_toArray, List.set_cons_zero, List.set_cons_succ])) | (refine wpSch_no rfl (fun _ _ _ h => h) (by rfl) ?_; (try simp only [Act.put, List.setIfInBounds_toArray, List.set_cons_zero, List.set_cons_succ]))))
            refine wpSch_not rfl (by rfl) HVJ.out ?_
            (try simp only [Act.put, List.setIfInBounds_toArray, List.set_cons_zero, List.set_cons_succ])
            (repeat (first | (refine wpSch_yes (v := ?_) rfl (fun _ _ _ h => h) (by rfl) ?_ ?_; rotate_left; (next => (intro w hSw; (try dsimp only at hSw); go_simp; (try with_reducible rfl))); (try simp only [Act.put, List.setIfInBounds_toArray, List.set_cons_zero, List.set_cons_succ])) | (refine wpSch_no rfl (fun _ _ _ h => h) (by rfl) ?_; (try simp only [Act.put, List.setIfInBounds_toArray, List.set_cons_zero, List.set_cons_succ]))))
            refine wpSch_nil ?_
            go_wp2
            go_roundw
            case rel => exact ⟨j + 1, true, by omega, by go_num, rfl, fun _ => rfl, fun _ _ _ => rfl, HM.out.drew⟩
            case measure => simp [intOf]; omega
        · obtain rfl : j = k + 1 := by omega
          obtain rfl : true = fb := by
            rcases HCM'.out with e | e
            · exact (HZ.out (by simp [e])).symm
            · obtain ⟨q, hq, e⟩ := List.mem_iff_getElem.1 e
              exact (HQ.out q (by rw [← HL'.out]; exact hq) (by rw [List.getElem?_eq_getElem hq, e])).symm
          have hkk : ¬ ((k : Int) + 1 < (k : Int) + 1) := by omega
          clear hjk hj HZ HQ
          go_wp2_with fail
          refine (HM.out.prin HYI.out).mono ?_
          rintro e w7 ⟨rfl, rfl⟩
          have hii : (yi != yi) = false := by simp
          go_wp2
          go_roundg (gk - 1)
          case measure => omega
          case rel => exact ⟨k + 1, y, l', by omega, by omega, by go_num, HL'.out, by rw [HYI.out], HYB.out ▸ HCM'.out, HM.out⟩
    · by_cases hl1 : k < z0.length
      · have hi1 : (k : Int) < (z0.length : Int) := by omega
        have hi2 : ¬ (k : Int) < 100 := by omega
        go_wp2
        go_ret
        exact ⟨rfl, HM.out.bel⟩
      · have hi1 : ¬ (k : Int) < (z0.length : Int) := by omega
        go_wp2
        go_ret
        exact ⟨rfl, HM.out.bel⟩

set_option maxRecDepth 100000 in
theorem lifted (os : Os) (started : os.Started) (H : Type) (enc : TypeId × Value → H) :
    ReturnsInHanded {} Try.checked os 4 .any (Rows.probeTurnsSpec.pre6 enc Try.prog Try.f4 Rows.probeTurnsRow.domain false) (Rows.probeTurnsSpec.post enc Try.prog Try.f4 false true false false) := by
  refine returnsInHanded_of_change (C := Try.checked) own started (by kernel_rfl) Try.func4
    (ChangeSpec.witness6 (enc := enc) (C := Try.checked) false ⟨#[], #[.slice none 0 0], []⟩ 8 (by kernel_rfl) (by kernel_rfl) (by kernel_rfl) (by kernel_rfl)) ?_
  intro W base args ds gs before hval0 hW hcnd _
  have hval : ∀ (j : Nat) t v, Try.f4.params[j]? = some t → args[j]? = some v → Value.okWide Try.prog W .any base t v := hval0
  have hW' := hW
  obtain ⟨p, q, hA0, hV, rfl, hfz, hnd⟩ := hW
  have hA : DataW.TrodAll enc Try.prog W 0 (fun _ => true) true Try.f4.params.toList args.toList ds p := hA0
  rw [Try.params4] at hA hval
  obtain ⟨v0, vs0, d0, ds0, p0, q0, hargs, rfl, rfl, h0, r0'⟩ := trodAll_cons hA
  obtain ⟨rfl, rfl, rfl⟩ := trodAll_nil r0'
  obtain rfl : args = #[v0] := by cases args; simp_all
  obtain ⟨rfl, rfl⟩ := trodVars_none hV
  obtain ⟨a0, len0, cap0, rfl⟩ := okWide_slice Try.underlying22 (hval 0 22 v0 rfl rfl)
  have k0 := h0
  have lt0 : ∀ x ∈ p0, x.block < W.heap.size := by obtain ⟨m, hm⟩ := k0; exact DataW.trod_lt m _ _ _ hm
  obtain ⟨z0, hz0, hc0, r0⟩ := open_bops h0
  subst hz0
  clear hA0 hval0
  refine (walk a0 cap0 z0 W hc0 r0).mono fun e W' ⟨he, bel⟩ => ?_
  subst he
  exact ⟨_, rfl, _, _, _, [], _, [], hW', trodAll_mk1 (shut_bool Try.underlying4 _), (trodAll_cons_mk (Below.trod laidOut (by kernel_rfl) (of_decide_eq_true (by kernel_rfl)) k0 bel lt0) trodAll_mk0), rfl, bel.frame _, fun h => by cases h⟩

theorem over : Rows.probeTurnsRow.holds Try.pinned (OpenSpec.ofChange Rows.probeTurnsSpec) :=
  OpenClaim.holds_of_wide 4 Try.f4 rfl rfl rfl rfl rfl rfl rfl ⟨rfl, rfl, rfl, rfl, rfl⟩ rfl rfl rfl rfl rfl (by kernel_rfl) Try.func4 (by kernel_rfl)
    (of_decide_eq_true (by kernel_rfl)) (by unfold Func.isWrapper; first | (rw [if_pos (by decide +kernel)]; kernel_rfl) | (rw [if_neg (by decide +kernel)]; exact ⟨rfl, rfl⟩))
    (fun os started H enc _ => lifted os started H enc)

theorem proved : Rows.ProbeTurnsSaid := over
end Go.Proofs.Ytnfikihpmbangaa.probeTurns
namespace Go.Proofs.Ytnfikihpmbangaa
theorem probeTurns_holds : Rows.ProbeTurnsSaid := probeTurns.proved
#print axioms probeTurns_holds
end Go.Proofs.Ytnfikihpmbangaa
