/-
  Proved: canterlaw19.ListsPlay answers true at every list of deeds, and leaves its argument as it was. Conditions: none.
-/
import Derived.Test.YtcllgfkmjleckaaRows
import Derived.WalkKit
import Derived.ProofKit
import Derived.OpenShut
import Derived.ShutString
import Derived.Below
import Derived.Test.YtcllgfkmjleckaaRefLsB
import Derived.Test.YtcllgfkmjleckaaOpenLs
import Derived.OwnWalk
import Derived.Deep.DeepCutAuto
import Derived.Deep.CutBlock
import Derived.Deep.LoopGhost
namespace Go.Proofs.Ytcllgfkmjleckaa.listsPlay
open Go.ChangeShapes Go.WideShapes Go.ChangeAt Go.RowKit
set_option linter.unusedVariables false

theorem own : ownKnob Try.prog.godebug = none := by kernel_rfl
theorem laidOut : laidOutB Try.prog = true := by kernel_rfl

theorem fst_tell (N O : List Int) : fstL (tellL N O) = N ++ O := by simp [fstL, tellL, Function.comp_def]
theorem told_all {N O : List Int} (h : N.length + O.length ≤ 8) : toldL N O 99 = tellL N O := by
  unfold toldL
  exact List.take_of_length_le (by rw [tell_len]; omega)
theorem snd_tell (N O : List Int) (k : Nat) (h : k < (N ++ O).length) : (sndL (tellL N O))[k]? = some (decide (k < N.length)) := by
  have e : sndL (tellL N O) = N.map (fun _ => true) ++ O.map (fun _ => false) := by simp [sndL, tellL, Function.comp_def]
  rw [e]
  by_cases hk : k < N.length
  · rw [List.getElem?_append_left (by simpa using hk)]
    simp [hk]
  · rw [List.getElem?_append_right (by simpa using hk)]
    simp at h
    simp [hk, show k - N.length < O.length by omega]
theorem row_bool {w : World} {a : Option Addr} {n c : Nat} {l : List Bool} (h : (rowB (.slice a n c) l).at_ w) {k : Nat} {b : Bool} (hk : l[k]? = some b) : ∃ r, a = some ⟨r, 0, none⟩ ∧ w.cell? ⟨r, k, none⟩ = some (.bool b) := by
  have ho := rowB_owns h
  have hlt := (List.getElem?_eq_some_iff.1 hk).1
  obtain ⟨g, cap, e⟩ := ho.pos (by rw [len_bv]; omega)
  cases e
  exact ⟨g, rfl, by rw [ho.cell k (by rw [len_bv]; exact hlt), get_bv, hk]; rfl⟩
theorem bne_bool (b : Bool) : (b != b) = false := by cases b <;> rfl
theorem keep_nil {w w' : World} (h : Keep (fun k => (Value.slice none 0 0).ownBlock = some k) w w') : Keep (fun _ => False) w w' := h.mono (fun k e => by simp [Value.ownBlock] at e)

set_option maxHeartbeats 8000000 in
set_option maxRecDepth 100000 in
theorem walk (a0 : Option Addr) (cap0 : Nat) (z0 : List LOp) (w : World) (c0 : z0.length ≤ 9223372036854775807) (r0 : RdL 3 cellsL w a0 z0) :
    Calls Try.prog 3 #[.slice a0 z0.length cap0] w fun e w' => e = .returned (.bool true) ∧ Below w.heap.size w w' := by
  have HZ := Lib.hid r0
  clear r0
  have HR := Lib.hid (Room.begin w)
  go_enter Try.func3, Try.ntmps3
  go_wp2_with fail
  refine HR.out.lsnew.mono ?_
  rintro e w1 ⟨rfl, h1⟩
  have R1 : Hid (Room w (w1.alloc (.cells #[.slice none 0 0, .slice none 0 0] 28)) [lsT w.heap.size [] [], rlT w1.heap.size (.slice none 0 0) (.slice none 0 0) [] []]) := Lib.hid
    ((h1.add (t := rlT w1.heap.size (.slice none 0 0) (.slice none 0 0) [] []) (rlT_new w1) ((Keep.refl _ w1).alloc _) (fun k e => by
      rcases e with rfl | e | e
      · exact Nat.le_refl _
      · cases e
      · cases e)).perm (List.Perm.swap _ _ _))
  clear h1 HR
  generalize w.heap.size = g at *
  go_wp2_with fail
  generalize w1.alloc (.cells #[.slice none 0 0, .slice none 0 0] 28) = w2 at *
  generalize w1.heap.size = gr at *
  refine (awakels_any _).mono ?_
  rintro e w3 ⟨rfl, k3⟩
  have R3 := Lib.hid (R1.out.kept k3); clear k3 R1
  go_wp2
  go_loopg [5] 120 (fun j i wr => ∃ (k : Nat) (N O : List Int) (v1 v2 : Value), k + j = 120 ∧ i = .int .i64 k ∧ Room w wr [lsT g N O, rlT gr v1 v2 N O])
  case atStart => exact ⟨0, [], [], _, _, by omega, rfl, R3.out⟩
  case round =>
    obtain ⟨k, N, O, v1, v2, hk, rfl, hR⟩ := hrel
    have R := Lib.hid hR; clear hR R3
    by_cases hin : k < z0.length ∧ k < 120
    · obtain ⟨hin1, hin2⟩ := hin
      have i1 : (k : Int) < (z0.length : Int) := by omega
      have i2 : (k : Int) < 120 := by omega
      obtain ⟨⟨kd, s, f⟩, hd⟩ : ∃ d, z0[k]? = some d := ⟨_, List.getElem?_eq_getElem hin1⟩
      obtain ⟨b, off, rfl, -⟩ := HZ.out k _ hd
      obtain ⟨_, _, e, _, hc⟩ := HZ.out.below R.out.bel k _ hd
      cases e
      have c0 := hc 0 _ rfl; have c1 := hc 1 _ rfl; have c2 := hc 2 _ rfl
      dsimp only at c0 c1 c2
      rw [Nat.add_zero] at c0
      clear hd hc HZ
      have RO := Lib.hid (R.out.box2 31 #[.int .i64 kd, .int .i64 s, .bool f])
      clear R
      go_upto_block 2 with fail
      generalize wr.alloc (.cells #[.int .i64 kd, .int .i64 s, .bool f] 31) = w4 at *
      generalize wr.heap.size = ob at *
      clear c0 c1 c2
      have HOK : Hid (LsOk N O) := Lib.hid (show Ls w4 g N O from RO.out.get0).ok
      go_cut [7] (fun s7 wx => s7 = .bool true ∧ ∃ N' O' u1 u2, Room w wx [lsT g N' O', rlT gr u1 u2 N' O', blkT ob 31 #[.int .i64 kd, .int .i64 s, .bool f]])
      case first =>
        cases hq1 : (kd == 1) with
        | true =>
          obtain ⟨hb, hhb⟩ : ∃ hb, headB N O = hb := ⟨_, rfl⟩
          have HB := Lib.hid hhb; clear hhb
          have fb : (hb == hb) = true := by simp
          go_wp2_with fail
          refine (RO.out.lsdrop HB.out rfl rfl).mono ?_
          rintro e w5 ⟨rfl, h5⟩
          have R5 := Lib.hid h5; clear h5 RO
          go_wp2_with fail
          refine (R5.out.rldrop HOK.out HB.out rfl rfl).mono ?_
          rintro e w6 ⟨rfl, u1, u2, h6⟩
          have R6 := Lib.hid h6; clear h6 R5
          go_wp2_with fail
          go_meet
          exact ⟨rfl, _, _, _, _, R6.out⟩
        | false =>
          cases hq2 : (kd == 2) with
          | true =>
            obtain ⟨hb, hhb⟩ : ∃ hb, headB N O = hb := ⟨_, rfl⟩
            have HB := Lib.hid hhb; clear hhb
            have fb : (hb == hb) = true := by simp
            go_wp2_with fail
            refine (RO.out.lsback HB.out rfl rfl).mono ?_
            rintro e w5 ⟨rfl, h5⟩
            have R5 := Lib.hid h5; clear h5 RO
            go_wp2_with fail
            refine (R5.out.rlback HOK.out HB.out rfl rfl).mono ?_
            rintro e w6 ⟨rfl, u1, u2, h6⟩
            have R6 := Lib.hid h6; clear h6 R5
            go_wp2_with fail
            go_meet
            exact ⟨rfl, _, _, _, _, R6.out⟩
          | false =>
            cases hq3 : (kd == 3) with
            | true =>
              obtain ⟨hb, hhb⟩ : ∃ hb, hb = decide (s ∈ N ∨ s ∈ O) := ⟨_, rfl⟩
              have HB := Lib.hid hhb; clear hhb
              have fb : (hb == hb) = true := by simp
              go_upto_region 16 with fail
              have cc : w4.drew.cell? ⟨ob, 1, none⟩ = some (.int .i64 s) := Whole.cell RO.out.get2 1
              refine wp_region_sch (fun W => W.cell? ⟨ob, 1, none⟩ = some (.int .i64 s)) [(true, 0), (true, 1), (true, 2), (true, 4), (true, 5), (true, 6), (false, 3), (false, 7), (true, 8), (true, 9)] (by kernel_rfl) (by kernel_rfl) (by kernel_rfl) (by kernel_rfl) cc ?_
              (repeat (refine wpSch_yes (v := ?_) rfl (fun _ _ _ h => h) (by rfl) ?_ ?_; rotate_left; (next => (intro w hSw; (try dsimp only at hSw); (first | (obtain ⟨hS1, hS2, hS3⟩ := hSw) | (obtain ⟨hS1, hS2⟩ := hSw) | (have hS1 := hSw)); go_simp; (try with_reducible rfl))); (try simp only [Act.put, List.setIfInBounds_toArray, List.set_cons_zero, List.set_cons_succ])))
              refine wpSch_call rfl (by rfl) (fun K hK => ?_); go_simp
              refine (RO.out.drew.lsremove HB.out rfl rfl).mono ?_
              rintro e w5 ⟨rfl, h5⟩
              have R5 := Lib.hid h5; clear h5 RO cc
              refine hK.out _ _ ?_ (fun hHeld => ?_)
              · exact Whole.cell R5.out.get2 1
              clear hK K hHeld
              (try simp only [Act.put, List.setIfInBounds_toArray, List.set_cons_zero, List.set_cons_succ])
              refine wpSch_call rfl (by rfl) (fun K hK => ?_); go_simp
              refine (R5.out.rlremove HOK.out HB.out rfl rfl).mono ?_
              rintro e w6 ⟨rfl, u1, u2, h6⟩
              have R6 := Lib.hid h6; clear h6 R5
              refine hK.out _ _ ?_ (fun hHeld => ?_)
              · exact Whole.cell R6.out.get2 1
              clear hK K hHeld
              (try simp only [Act.put, List.setIfInBounds_toArray, List.set_cons_zero, List.set_cons_succ])
              (repeat (refine wpSch_yes (v := ?_) rfl (fun _ _ _ h => h) (by rfl) ?_ ?_; rotate_left; (next => (intro w hSw; (try dsimp only at hSw); (first | (obtain ⟨hS1, hS2, hS3⟩ := hSw) | (obtain ⟨hS1, hS2⟩ := hSw) | (have hS1 := hSw)); go_simp; (try with_reducible rfl))); (try simp only [Act.put, List.setIfInBounds_toArray, List.set_cons_zero, List.set_cons_succ])))
              refine wpSch_nil ?_
              go_wp2_with fail
              go_meet
              exact ⟨rfl, _, _, _, _, R6.out⟩
            | false =>
              obtain ⟨pv, hpv⟩ : ∃ pv, pushV N O s = pv := ⟨_, rfl⟩
              have HP := Lib.hid hpv; clear hpv
              have fb : (pv == pv) = true := by simp
              go_upto_region 10 with fail
              have cc : w4.drew.cell? ⟨ob, 1, none⟩ = some (.int .i64 s) ∧ w4.drew.cell? ⟨ob, 2, none⟩ = some (.bool f) := ⟨Whole.cell RO.out.get2 1, Whole.cell RO.out.get2 2⟩
              refine wp_region_sch (fun W => W.cell? ⟨ob, 1, none⟩ = some (.int .i64 s) ∧ W.cell? ⟨ob, 2, none⟩ = some (.bool f)) [(true, 0), (true, 1), (true, 2), (true, 3), (true, 4), (true, 6), (true, 7), (true, 8), (true, 9), (true, 10), (false, 5), (false, 11), (true, 12), (true, 13)] (by kernel_rfl) (by kernel_rfl) (by kernel_rfl) (by kernel_rfl) cc ?_
              (repeat (refine wpSch_yes (v := ?_) rfl (fun _ _ _ h => h) (by rfl) ?_ ?_; rotate_left; (next => (intro w hSw; (try dsimp only at hSw); (first | (obtain ⟨hS1, hS2, hS3⟩ := hSw) | (obtain ⟨hS1, hS2⟩ := hSw) | (have hS1 := hSw)); go_simp; (try with_reducible rfl))); (try simp only [Act.put, List.setIfInBounds_toArray, List.set_cons_zero, List.set_cons_succ])))
              refine wpSch_call rfl (by rfl) (fun K hK => ?_); go_simp
              refine (RO.out.drew.lspush f HP.out rfl rfl).mono ?_
              rintro e w5 ⟨rfl, h5⟩
              have R5 := Lib.hid h5; clear h5 RO cc
              refine hK.out _ _ ?_ (fun hHeld => ?_)
              · exact ⟨Whole.cell R5.out.get2 1, Whole.cell R5.out.get2 2⟩
              clear hK K hHeld
              (try simp only [Act.put, List.setIfInBounds_toArray, List.set_cons_zero, List.set_cons_succ])
              refine wpSch_call rfl (by rfl) (fun K hK => ?_); go_simp
              refine (R5.out.rlpush HOK.out f HP.out rfl rfl).mono ?_
              rintro e w6 ⟨rfl, u1, u2, h6⟩
              have R6 := Lib.hid h6; clear h6 R5
              refine hK.out _ _ ?_ (fun hHeld => ?_)
              · exact ⟨Whole.cell R6.out.get2 1, Whole.cell R6.out.get2 2⟩
              clear hK K hHeld
              (try simp only [Act.put, List.setIfInBounds_toArray, List.set_cons_zero, List.set_cons_succ])
              (repeat (refine wpSch_yes (v := ?_) rfl (fun _ _ _ h => h) (by rfl) ?_ ?_; rotate_left; (next => (intro w hSw; (try dsimp only at hSw); (first | (obtain ⟨hS1, hS2, hS3⟩ := hSw) | (obtain ⟨hS1, hS2⟩ := hSw) | (have hS1 := hSw)); go_simp; (try with_reducible rfl))); (try simp only [Act.put, List.setIfInBounds_toArray, List.set_cons_zero, List.set_cons_succ])))
              refine wpSch_nil ?_
              go_wp2_with fail
              go_meet
              exact ⟨rfl, _, _, _, _, R6.out⟩
      case rest =>
      obtain ⟨rfl, hcut⟩ := hcut
      have RC := Lib.hid hcut
      clear hcut RO HOK
      clear N O v1 v2
      obtain ⟨N, O, v1, v2, h4⟩ := RC.out
      have R4 := Lib.hid h4; clear h4 RC
      have HOK : Hid (LsOk N O) := Lib.hid (show Ls _ g N O from R4.out.get0).ok
      obtain ⟨hs, hhs⟩ : ∃ x, headS N O = x := ⟨_, rfl⟩
      obtain ⟨hf, hhf⟩ : ∃ x, headF N O = x := ⟨_, rfl⟩
      obtain ⟨hb, hhb⟩ : ∃ x, headB N O = x := ⟨_, rfl⟩
      obtain ⟨pv, hpv⟩ : ∃ x, placeV N O s = x := ⟨_, rfl⟩
      have HS := Lib.hid hhs; have HF := Lib.hid hhf; have HB := Lib.hid hhb; have HP := Lib.hid hpv
      clear hhs hhf hhb hpv
      have fs : (hs != hs) = false := by simp
      have ff := bne_bool hf
      have fb := bne_bool hb
      have fp : (pv != pv) = false := by simp
      go_wp2_with fail
      refine (R4.out.lshead HS.out HF.out HB.out).mono ?_
      rintro e w5 ⟨rfl, h5⟩
      have R5 := Lib.hid h5; clear h5 R4
      go_wp2_with fail
      refine (R5.out.rlhead HS.out HF.out HB.out).mono ?_
      rintro e w5' ⟨rfl, rfl⟩
      go_wp2_with fail
      refine (R5.out.lstold (N ++ O).length (told_all (by have := HOK.out.len; omega)) (by rw [tell_len, List.length_append])).mono ?_
      rintro e w6 ⟨p1, c1, p2, c2, rfl, h6⟩
      rw [fst_tell] at h6
      have R6 := Lib.hid (h6.perm (List.Perm.cons _ (List.perm_append_comm (l₁ := [_, _]) (l₂ := [_, _])))); clear h6 R5
      simp only [List.cons_append, List.nil_append] at R6
      obtain ⟨A, hA⟩ : ∃ A, A = N ++ O := ⟨_, rfl⟩
      have HA := Lib.hid hA
      have hA8 : A.length ≤ 8 := by rw [hA, List.length_append]; exact HOK.out.len
      rw [← hA] at R6 ⊢
      clear hA
      obtain ⟨a1, d1, hv1, ha1, hb1⟩ := (show RLat _ _ gr 0 _ v1 v2 N O from R6.out.get1).o1.shape
      obtain ⟨a2, d2, hv2, ha2, hb2⟩ := (show RLat _ _ gr 0 _ v1 v2 N O from R6.out.get1).o2.shape
      rw [len_iv] at hv1 hv2
      subst hv1 hv2
      have HA1 : Hid (a1 = none → N.length = 0 ∧ d1 = 0) := Lib.hid (fun e => ⟨by have := congrArg List.length (ha1 e).2; simpa using this, (ha1 e).1⟩)
      have HA2 : Hid (a2 = none → O.length = 0 ∧ d2 = 0) := Lib.hid (fun e => ⟨by have := congrArg List.length (ha2 e).2; simpa using this, (ha2 e).1⟩)
      have HC1 : Hid (∀ W, Keep (fun _ => False) w6 W → ∀ ad, a1 = some ad → ∀ j u, (iv N)[j]? = some u → W.cell? (ad.add j) = some u) := Lib.hid (fun W hk ad e => by obtain ⟨q, rfl⟩ := hb1 ad e; subst e; exact (show RLat _ _ gr 0 _ _ _ N O from (R6.out.kept hk).get1).o1.news)
      have HC2 : Hid (∀ W, Keep (fun _ => False) w6 W → ∀ ad, a2 = some ad → ∀ j u, (iv O)[j]? = some u → W.cell? (ad.add j) = some u) := Lib.hid (fun W hk ad e => by obtain ⟨q, rfl⟩ := hb2 ad e; subst e; exact (show RLat _ _ gr 0 _ _ _ N O from (R6.out.kept hk).get1).o2.news)
      have HS3 : Hid (∀ W, Keep (fun _ => False) w6 W → W.cell? ⟨ob, 1, none⟩ = some (.int .i64 s) ∧ W.cell? ⟨gr, 0, none⟩ = some (.slice a1 N.length d1) ∧ W.cell? ⟨gr, 1, none⟩ = some (.slice a2 O.length d2)) := Lib.hid (fun W hk => ⟨Whole.cell (R6.out.kept hk).get2 1, (show RLat _ _ gr 0 _ _ _ N O from (R6.out.kept hk).get1).whole.cell 0, (show RLat _ _ gr 0 _ _ _ N O from (R6.out.kept hk).get1).whole.cell 1⟩)
      clear ha1 hb1 ha2 hb2
      obtain ⟨i0, hi, hz0, hz1, hz2⟩ := info_parts Try.infoLs
      have HI := Lib.hid hi; have HZ0 := Lib.hid hz0; have HZ1 := Lib.hid hz1; have HZ2 := Lib.hid hz2; clear hi hz0 hz1 hz2
      go_upto_region 20 with fail
      go_cut [139] (fun s139 wx => s139 = .bool false ∧ Room w wx [lsT g N O, rlT gr (.slice a1 N.length d1) (.slice a2 O.length d2) N O, blkT ob 31 #[.int .i64 kd, .int .i64 s, .bool f], rowI (.slice p1 A.length c1) A, rowB (.slice p2 A.length c2) (sndL (tellL N O))])
      case first =>
        refine wp_region_sch (fun W => W.cell? ⟨ob, 1, none⟩ = some (.int .i64 s) ∧ W.cell? ⟨gr, 0, none⟩ = some (.slice a1 N.length d1) ∧ W.cell? ⟨gr, 1, none⟩ = some (.slice a2 O.length d2)) [(true, 0), (true, 1), (true, 2), (true, 3), (true, 4), (true, 5), (true, 6), (true, 7), (true, 8), (true, 9), (true, 10), (true, 11), (true, 12), (true, 13), (true, 14), (true, 15), (true, 16), (true, 17), (true, 18), (true, 19), (true, 20), (true, 22), (true, 23), (true, 24), (false, 21), (false, 25), (true, 26), (true, 27), (true, 28), (true, 29), (true, 30), (true, 31), (true, 32), (true, 33), (true, 35), (true, 36), (true, 37), (true, 38), (false, 34), (false, 39), (false, 40), (true, 41), (true, 42)] (by kernel_rfl) (by kernel_rfl) (by kernel_rfl) (by kernel_rfl) (HS3.out _ (Keep.refl _ w6).drew) ?_
        have KD : Hid (Keep (fun _ => False) w6 w6.drew) := Lib.hid (Keep.refl _ w6).drew
        generalize w6.drew = w7 at *
        (repeat (refine wpSch_yes (v := ?_) rfl (fun _ _ _ h => h) (by rfl) ?_ ?_; rotate_left; (next => (intro w hSw; (try dsimp only at hSw); (first | (obtain ⟨hS1, hS2, hS3⟩ := hSw) | (obtain ⟨hS1, hS2⟩ := hSw) | (have hS1 := hSw)); go_simp; (try with_reducible rfl))); (try simp only [Act.put, List.setIfInBounds_toArray, List.set_cons_zero, List.set_cons_succ])))
        refine wpSch_call rfl (by rfl) (fun K hK => ?_); go_simp
        refine (place_any _ N O s w7 (show Ls _ g N O from (R6.out.kept KD.out).get0).at_.is HOK.out.len1 HOK.out.len2).mono ?_
        rintro e w8 ⟨rfl, k8⟩
        rw [HP.out]
        have K8 := Lib.hid (KD.out.trans k8); clear k8
        refine hK.out _ _ ?_ (fun hHeld => ?_)
        · exact HS3.out _ K8.out
        clear hK K hHeld
        (try simp only [Act.put, List.setIfInBounds_toArray, List.set_cons_zero, List.set_cons_succ])
        refine wpSch_call rfl (by rfl) (fun K hK => ?_); go_simp
        refine ((R6.out.kept K8.out).rlplace HOK.out HP.out).mono ?_
        rintro e w8' ⟨rfl, rfl⟩
        refine hK.out _ _ ?_ (fun hHeld => ?_)
        · exact HS3.out _ K8.out
        clear hK K hHeld
        (try simp only [Act.put, List.setIfInBounds_toArray, List.set_cons_zero, List.set_cons_succ])
        (repeat (refine wpSch_yes (v := ?_) rfl (fun _ _ _ h => h) (by rfl) ?_ ?_; rotate_left; (next => (intro w hSw; (try dsimp only at hSw); (first | (obtain ⟨hS1, hS2, hS3⟩ := hSw) | (obtain ⟨hS1, hS2⟩ := hSw) | (have hS1 := hSw)); go_simp; (try with_reducible rfl))); (try simp only [Act.put, List.setIfInBounds_toArray, List.set_cons_zero, List.set_cons_succ])))
        refine wpSch_call rfl (by rfl) (fun K hK => ?_)
        refine oper_append_owns (.const (.slice none 0 0)) (.tmp 130) 26 rfl 3 i0 (.int .i64 0) 8 Try.underlying26 HI.out HZ0.out HZ1.out HZ2.out rfl (.slice none 0 0) [] rfl (Owns.nil _ _) a1 N.length d1 (iv N) rfl (len_iv N) HA1.out (HC1.out _ K8.out) (one_iv N) (by unfold maxLen; have := HOK.out.len1; simp; omega) (by have := HOK.out.len1; simp; omega) ?_
        intro x1 w9 ow1 kw1 nw1 _
        rw [List.nil_append] at ow1
        obtain ⟨q1, e1, hx1, _⟩ := ow1.shape
        rw [len_iv] at hx1
        subst hx1
        have N1 : Hid (∀ j, (Value.slice q1 N.length e1).ownBlock = some j → w6.heap.size ≤ j) := Lib.hid (fun j e => by rcases nw1 j e with h | h; simp [Value.ownBlock] at h; exact Nat.le_trans K8.out.size h)
        have K9 := Lib.hid (K8.out.trans (keep_nil kw1)); have O9 := Lib.hid ow1
        clear ow1 kw1 nw1
        refine hK.out _ _ ?_ (fun hHeld => ?_)
        · exact HS3.out _ K9.out
        clear hK K hHeld
        (try simp only [Act.put, List.setIfInBounds_toArray, List.set_cons_zero, List.set_cons_succ])
        refine wpSch_call rfl (by rfl) (fun K hK => ?_)
        refine oper_append_owns (.tmp 131) (.tmp 135) 26 rfl 3 i0 (.int .i64 0) 8 Try.underlying26 HI.out HZ0.out HZ1.out HZ2.out rfl (.slice q1 N.length e1) (iv N) rfl O9.out a2 O.length d2 (iv O) rfl (len_iv O) HA2.out (HC2.out _ K9.out) (one_iv O) (by unfold maxLen; have := HOK.out.len; rw [len_iv]; omega) (by have := HOK.out.len; rw [len_iv]; omega) ?_
        intro x2 w10 ow2 kw2 nw2 _
        rw [cat_iv, ← HA.out] at ow2
        obtain ⟨q2, e2, hx2, _⟩ := ow2.shape
        rw [len_iv] at hx2
        subst hx2
        have K10 : Hid (Keep (fun _ => False) w6 w10) := Lib.hid (K9.out.then kw2 (fun i e hlt => by have := N1.out i e; omega))
        have O10 := Lib.hid ow2
        clear ow2 kw2 nw2
        refine hK.out _ _ ?_ (fun hHeld => ?_)
        · exact HS3.out _ K10.out
        clear hK K hHeld
        (try simp only [Act.put, List.setIfInBounds_toArray, List.set_cons_zero, List.set_cons_succ])
        refine wpSch_call rfl (by rfl) (fun K hK => ?_); go_simp
        have R10 := Lib.hid (R6.out.kept K10.out)
        have HRA : Hid (Rd .i64 w10 p1 A) := Lib.hid (rowI_owns R10.out.get3).rdi
        refine (plain_int p1 q2 c1 e2 A w10 (by omega) HRA.out O10.out.rdi).mono ?_
        rintro e w11 ⟨rfl, n11, hw11⟩
        have K11 : Hid (Keep (fun _ => False) w6 w11) := Lib.hid (by rw [hw11]; exact K10.out.drewN n11)
        clear hw11
        refine hK.out _ _ ?_ (fun hHeld => ?_)
        · exact HS3.out _ K11.out
        clear hK K hHeld
        (try simp only [Act.put, List.setIfInBounds_toArray, List.set_cons_zero, List.set_cons_succ])
        (repeat (refine wpSch_yes (v := ?_) rfl (fun _ _ _ h => h) (by rfl) ?_ ?_; rotate_left; (next => (intro w hSw; (try dsimp only at hSw); (first | (obtain ⟨hS1, hS2, hS3⟩ := hSw) | (obtain ⟨hS1, hS2⟩ := hSw) | (have hS1 := hSw)); go_simp; (try with_reducible rfl))); (try simp only [Act.put, List.setIfInBounds_toArray, List.set_cons_zero, List.set_cons_succ])))
        refine wpSch_nil ?_
        go_wp2_with fail
        go_meet
        exact ⟨rfl, R6.out.kept K11.out⟩
      case rest =>
      obtain ⟨rfl, hcut⟩ := hcut
      have R7 := Lib.hid (hcut.less (M := [lsT g N O, rlT gr (.slice a1 N.length d1) (.slice a2 O.length d2) N O, rowB (.slice p2 A.length c2) (sndL (tellL N O))]) (List.Sublist.cons_cons _ (List.Sublist.cons_cons _ (List.Sublist.cons _ (List.Sublist.cons _ (List.Sublist.cons_cons _ (List.nil_sublist _)))))))
      clear hcut R6 HS3 HC1 HC2 HA1 HA2 HI HZ0 HZ1 HZ2
      go_wp2
      go_loopw [16] (fun i wx => ∃ q : Nat, q ≤ A.length ∧ i = .int .i64 q ∧ Room w wx [lsT g N O, rlT gr (.slice a1 N.length d1) (.slice a2 O.length d2) N O, rowB (.slice p2 A.length c2) (sndL (tellL N O))]) (fun i _ => A.length - (intOf i).toNat)
      case atStart => exact ⟨0, Nat.zero_le _, rfl, R7.out⟩
      case round =>
        obtain ⟨q, hq, rfl, hR⟩ := hrel
        have R8 := Lib.hid hR; clear hR R7
        by_cases hqa : q < A.length
        · have hi1 : (q : Int) < (A.length : Int) := by omega
          obtain ⟨r, rfl, cq⟩ := row_bool (R8.out.get2) (snd_tell N O q (by rw [← HA.out]; exact hqa))
          have cg := (show RLat _ _ gr 0 _ _ _ N O from R8.out.get1).whole.cell 0
          simp only [List.getElem?_toArray, List.getElem?_cons_zero] at cg
          by_cases hqn : q < N.length
          · have hi2 : (q : Int) < (N.length : Int) := by omega
            have hd : decide (q < N.length) = true := by simpa using hqn
            rw [hd] at cq
            clear hd hqn
            go_wp2
            go_quiet (fail)
            go_wp2
            go_roundw
            case rel => exact ⟨q + 1, by omega, by go_num, R8.out.drewN _⟩
            case measure => simp [intOf]; omega
          · have hi2 : ¬ (q : Int) < (N.length : Int) := by omega
            have hd : decide (q < N.length) = false := by simpa using hqn
            rw [hd] at cq
            clear hd hqn
            go_wp2
            go_quiet (fail)
            go_wp2
            go_roundw
            case rel => exact ⟨q + 1, by omega, by go_num, R8.out.drewN _⟩
            case measure => simp [intOf]; omega
        · obtain rfl : q = A.length := by omega
          clear hqa
          go_wp2
          go_roundg (gk - 1)
          case measure => omega
          case rel => exact ⟨k + 1, _, _, _, _, by omega, by go_num, R8.out.less (List.Sublist.cons_cons _ (List.Sublist.cons_cons _ (List.nil_sublist _)))⟩
    · by_cases hl1 : k < z0.length
      · have hi1 : (k : Int) < (z0.length : Int) := by omega
        have hi2 : ¬ (k : Int) < 120 := by omega
        clear hin
        go_wp2
        go_ret
        exact ⟨rfl, R.out.bel⟩
      · have hi1 : ¬ (k : Int) < (z0.length : Int) := by omega
        clear hin
        go_wp2
        go_ret
        exact ⟨rfl, R.out.bel⟩

set_option maxRecDepth 100000 in
theorem lifted (os : Os) (started : os.Started) (H : Type) (enc : TypeId × Value → H) :
    ReturnsInHanded {} Try.checked os 3 .any (Rows.listsPlaySpec.pre6 enc Try.prog Try.f3 Rows.listsPlayRow.domain false) (Rows.listsPlaySpec.post enc Try.prog Try.f3 false true false false) := by
  refine returnsInHanded_of_change (C := Try.checked) own started (by kernel_rfl) Try.func3
    (ChangeSpec.witness6 (enc := enc) (C := Try.checked) false ⟨#[], #[.slice none 0 0], []⟩ 8 (by kernel_rfl) (by kernel_rfl) (by kernel_rfl) (by kernel_rfl)) ?_
  intro W base args ds gs before hval0 hW hcnd _
  have hval : ∀ (j : Nat) t v, Try.f3.params[j]? = some t → args[j]? = some v → Value.okWide Try.prog W .any base t v := hval0
  have hW' := hW
  obtain ⟨p, q, hA0, hV, rfl, hfz, hnd⟩ := hW
  have hA : DataW.TrodAll enc Try.prog W 0 (fun _ => true) true Try.f3.params.toList args.toList ds p := hA0
  rw [Try.params3] at hA hval
  obtain ⟨v0, vs0, d0, ds0, p0, q0, hargs, rfl, rfl, h0, r0'⟩ := trodAll_cons hA
  obtain ⟨rfl, rfl, rfl⟩ := trodAll_nil r0'
  obtain rfl : args = #[v0] := by cases args; simp_all
  obtain ⟨rfl, rfl⟩ := trodVars_none hV
  obtain ⟨a0, len0, cap0, rfl⟩ := okWide_slice Try.underlying22 (hval 0 22 v0 rfl rfl)
  have k0 := h0
  have lt0 : ∀ x ∈ p0, x.block < W.heap.size := by obtain ⟨m, hm⟩ := k0; exact DataW.trod_lt m _ _ _ hm
  obtain ⟨z0, hz0, hc0, r0⟩ := open_lops h0
  subst hz0
  clear hA0 hval0
  refine (walk a0 cap0 z0 W hc0 r0).mono fun e W' ⟨he, bel⟩ => ?_
  subst he
  exact ⟨_, rfl, _, _, _, [], _, [], hW', trodAll_mk1 (shut_bool Try.underlying4 _), (trodAll_cons_mk (Below.trod laidOut (by kernel_rfl) (of_decide_eq_true (by kernel_rfl)) k0 bel lt0) trodAll_mk0), rfl, bel.frame _, fun h => by cases h⟩

theorem over : Rows.listsPlayRow.holds Try.pinned (OpenSpec.ofChange Rows.listsPlaySpec) :=
  OpenClaim.holds_of_wide 3 Try.f3 rfl rfl rfl rfl rfl rfl rfl ⟨rfl, rfl, rfl, rfl, rfl⟩ rfl rfl rfl rfl rfl (by kernel_rfl) Try.func3 (by kernel_rfl)
    (of_decide_eq_true (by kernel_rfl)) (by unfold Func.isWrapper; first | (rw [if_pos (by decide +kernel)]; kernel_rfl) | (rw [if_neg (by decide +kernel)]; exact ⟨rfl, rfl⟩))
    (fun os started H enc _ => lifted os started H enc)

theorem proved : Rows.ListsPlaySaid := over
end Go.Proofs.Ytcllgfkmjleckaa.listsPlay
namespace Go.Proofs.Ytcllgfkmjleckaa
theorem listsPlay_holds : Rows.ListsPlaySaid := listsPlay.proved
#print axioms listsPlay_holds
end Go.Proofs.Ytcllgfkmjleckaa
