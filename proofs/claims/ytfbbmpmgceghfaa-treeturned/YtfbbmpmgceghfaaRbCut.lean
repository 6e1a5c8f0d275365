/-
  The call cut of package rbtree. Conditions: the tree lies in memory, and what is cut off has one beneath it at most.
-/
import Derived.Test.YtfbbmpmgceghfaaRbMendBlack
import Derived.Test.YtfbbmpmgceghfaaRbRead
import Derived.Deep.CutBlock
namespace Go.Proofs.Ytfbbmpmgceghfaa
open Go.RowKit
set_option maxRecDepth 100000

section
variable {g b cap n tp : Nat} {pa : Value} {m : Nat → Nd} {z : Z} {L : List (Nat × Key)}
/-- What is left when one is cut off: red-black, or one black one less. -/
theorem RepB.cutTwo {s : Bool} {a : Nat} {k : Key} {c : Bool} {x : T} (h : RepB m n tp z (br s a k c x .nil) L) :
    (c = true → ∃ t', RepB (hangM m x.root z.par z.side) n (hangT tp x.root z.par) .top t' (z.zl ++ x.its ++ z.zr)) ∧
    (c = false → x.col = true → ∃ t', RepB (paint (hangM m x.root z.par z.side) x.root false) n (hangT tp x.root z.par) .top t' (z.zl ++ x.its ++ z.zr)) ∧
    (c = false → x.col = false → ∃ N, Less (hangM m x.root z.par z.side) n (hangT tp x.root z.par) z x (z.zl ++ x.its ++ z.zr) N) := by
  have hc := h.rep.cut.1
  obtain ⟨N, h1, h2⟩ := h.rb
  rw [RB_br] at h1
  rw [col_br] at h2
  obtain ⟨h1, n', e, h3, h4⟩ := h1
  refine ⟨fun hc' => ?_, fun hc' hx => ?_, fun hc' hx => ?_⟩
  · subst hc'
    simp at e
    subst e
    refine RepB.top (z := z) ⟨hc, N, h3, ?_⟩
    rw [(h1 rfl).1]; exact h2.weak
  · subst hc'
    simp at e
    have hx' : ∃ i k l r, x = .nd i k true l r := by
      cases x with
      | nil => simp [T.col] at hx
      | nd i k c l r => obtain rfl : c = true := hx; exact ⟨i, k, l, r, rfl⟩
    obtain ⟨i, k', l, r, rfl⟩ := hx'
    have := Rep.paint (s := false) (x := l) (y := r) hc false
    have e2 : z.zl ++ (T.nd i k' true l r).its ++ z.zr = z.zl ++ (T.nd i k' false l r).its ++ z.zr := rfl
    rw [e2] at this ⊢
    refine RepB.top (z := z) ⟨this, n' + 1, ?_, ?_⟩
    · obtain ⟨_, n2, e3, h5, h6⟩ := h3
      simp at e3
      subst e3
      exact RB_br (s := false).2 ⟨fun e => by simp at e, n', by simp, h5, h6⟩
    · rw [← e]; exact h2
  · subst hc'
    simp at e
    subst e
    exact ⟨n', hc, hx, h3, h2⟩

set_option maxHeartbeats 2000000 in
set_option maxRecDepth 100000 in
theorem cut_any {s : Bool} {a : Nat} {k : Key} {c : Bool} {x : T} (w : World) (tr : Tr w g b cap pa n tp m) (hr : RepB m n tp z (br s a k c x .nil) L) (hs : s = false → x ≠ .nil) :
    Calls Try.prog 37 #[.pointer (some ⟨g, 0, none⟩), .int .i64 (a : Int)] w fun e w' => (∃ v, e = .returned v) ∧ ∃ m' tp', Tr w' g b cap pa n tp' m' ∧ (∃ t', RepB m' n tp' .top t' (z.zl ++ x.its ++ z.zr)) ∧ Keep (Mine g b) w w' := by
  obtain ⟨hc1, hc2⟩ := tr.capB
  obtain ⟨q1, q2, q3⟩ := hr.cutTwo
  have hne : br s a k c x .nil ≠ .nil := by cases s <;> simp [br]
  have ha := hr.rep.posT (i := a) (by rw [its_br]; cases s <;> simp)
  have hn : 0 < n := by omega
  have hside : sideM m a = z.side := by have := hr.rep.side hne; rwa [root_br] at this
  have hup : (m a).up = z.par := by have := hr.rep.sub.root_up hne; rwa [root_br] at this
  have hzp := hr.rep.parLt hn
  have hx := hr.rep.down.rootLt hn
  have hx0 := hr.rep.down.root0
  have hred : (hangM m x.root z.par z.side x.root).red = x.col := hr.rep.cut.1.rootRed
  have hma : m a = if s then ⟨k, z.par, 0, x.root, c⟩ else ⟨k, z.par, x.root, 0, c⟩ := by have := hr.rep.sub; cases s; exact this.1; exact this.1
  have HS := Lib.hid (fun w' (t' : Tr w' g b cap pa n tp m) => side_any a w' t' ha.2 (by rw [hup]; exact hzp))
  rw [hside] at HS
  have TT := Lib.hid tr
  obtain ⟨lo, hi, hlo⟩ : ∃ lo hi, m a = ⟨k, z.par, lo, hi, c⟩ ∧ (lo = 0 ∧ hi = x.root ∨ lo ≠ 0 ∧ lo = x.root) := by
    cases s
    · exact ⟨x.root, 0, hma, .inr ⟨fun e => hs rfl (hx0.1 e), rfl⟩⟩
    · exact ⟨0, x.root, hma, .inl ⟨rfl, rfl⟩⟩
  obtain ⟨hlo, hcase⟩ := hlo
  have c1 := tr.st.cell 1
  have d0 := tr.ka ha.2
  have d1 := tr.kb ha.2
  have d2 := tr.upc ha.2
  have d3 := tr.lo ha.2
  have d4 := tr.hi ha.2
  have d5 := tr.red ha.2
  rw [hlo] at d0 d1 d2 d3 d4 d5
  dsimp only at d0 d1 d2 d3 d4 d5
  have hac : (a : Int) < (n : Int) := by omega
  obtain ⟨ka, kb⟩ := k
  dsimp only at d0 d1
  have HC : Hid (∀ W, Tr W g b cap pa n tp m → W.cell? ⟨g, 1, none⟩ = some (.slice (some ⟨b, 0, none⟩) n cap) ∧ W.cell? ⟨b, a * 6, none⟩ = some (.int .u64 ka) ∧ W.cell? ⟨b, a * 6 + 1, none⟩ = some (.int .u64 kb) ∧ W.cell? ⟨b, a * 6 + 2, none⟩ = some (.int .i64 (z.par : Int)) ∧ W.cell? ⟨b, a * 6 + 3, none⟩ = some (.int .i64 (lo : Int)) ∧ W.cell? ⟨b, a * 6 + 4, none⟩ = some (.int .i64 (hi : Int)) ∧ W.cell? ⟨b, a * 6 + 5, none⟩ = some (.bool c)) :=
    Lib.hid fun W tW => ⟨tW.st.cell 1, by rw [tW.ka ha.2, hlo], by rw [tW.kb ha.2, hlo], by rw [tW.upc ha.2, hlo], by rw [tW.lo ha.2, hlo], by rw [tW.hi ha.2, hlo], by rw [tW.red ha.2, hlo]⟩
  clear tr hr hs hne hma hlo c1 d0 d1 d2 d3 d4 d5
  go_enter Try.func37, Try.ntmps37
  go_wp2
  go_cut [4, 5] (fun s4 s5 wx => ∃ B, w.heap.size ≤ B ∧ s4 = .pointer (some ⟨B, 0, none⟩) ∧ s5 = .int .i64 (bit z.side) ∧ Tr wx g b cap pa n tp m ∧ Whole wx B 63 #[.int .u64 ka, .int .u64 kb, .int .i64 (z.par : Int), .int .i64 (lo : Int), .int .i64 (hi : Int), .bool c] ∧ Keep (fun _ => False) w wx)
  case first =>
    refine wp_region_sch2 (fun W => W.cell? ⟨g, 1, none⟩ = some (.slice (some ⟨b, 0, none⟩) n cap) ∧ W.cell? ⟨b, a * 6, none⟩ = some (.int .u64 ka) ∧ W.cell? ⟨b, a * 6 + 1, none⟩ = some (.int .u64 kb) ∧ W.cell? ⟨b, a * 6 + 2, none⟩ = some (.int .i64 (z.par : Int)) ∧ W.cell? ⟨b, a * 6 + 3, none⟩ = some (.int .i64 (lo : Int)) ∧ W.cell? ⟨b, a * 6 + 4, none⟩ = some (.int .i64 (hi : Int)) ∧ W.cell? ⟨b, a * 6 + 5, none⟩ = some (.bool c)) (.yes 0 (.yes 1 (.yes 2 (.yes 3 (.yes 4 (.yes 5 (.yes 6 (.yes 7 (.yes 8 (.two 9 (.one 10 (.one 11 (.yes 12 .nil))) 10 (.one 9 (.one 11 (.yes 12 .nil))))))))))))) (by kernel_rfl) (by kernel_rfl) (by kernel_rfl) (by kernel_rfl) (HC.out _ TT.out.drew) ?_
    (repeat (refine wpSch2_yes (v := ?_) rfl (fun _ _ _ h => h) (by rfl) ?_ ?_; rotate_left; (next => (intro w hSw; (try dsimp only at hSw); obtain ⟨hS1, hS2, hS3, hS4, hS5, hS6, hS7⟩ := hSw; go_simp; (try with_reducible rfl))); (try simp only [Act.put, List.setIfInBounds_toArray, List.set_cons_zero, List.set_cons_succ])))
    refine wpSch2_two ?_ ?_
    · skip
      refine wpOne_call rfl (by rfl) (fun K hK => ?_); go_simp
      refine (HS.out _ TT.out.drew).mono ?_
      rintro e w2 ⟨rfl, k3, hw2⟩
      have T2 := Lib.hid (hw2 ▸ TT.out.drew.drewN k3 : Tr w2 g b cap pa n tp m)
      have K2 := Lib.hid (hw2 ▸ ((Keep.refl _ w).drew.drewN k3) : Keep (fun _ => False) w w2)
      clear hw2
      refine hK.out _ _ ?_ (fun hHeld => ?_)
      · exact HC.out _ T2.out
      clear hK K
      (try simp only [Act.put, List.setIfInBounds_toArray, List.set_cons_zero, List.set_cons_succ])
      refine wpSch2_one ?_
      refine wpOne_call rfl (by rfl) (fun K hK => ?_); go_simp
      refine hK.out _ _ ?_ (fun hHeld => ?_)
      · exact HC.out _ (T2.out.alloc _)
      clear hK K
      (try simp only [Act.put, List.setIfInBounds_toArray, List.set_cons_zero, List.set_cons_succ])
      refine wpSch2_one ?_
      refine wpOne_call rfl (by rfl) (fun K hK => ?_); go_simp
      refine hK.out _ _ ?_ (fun hHeld => ?_)
      · exact HC.out _ (T2.out.alloc _)
      clear hK K
      (try simp only [Act.put, List.setIfInBounds_toArray, List.set_cons_zero, List.set_cons_succ])
      (repeat (refine wpSch2_yes (v := ?_) rfl (fun _ _ _ h => h) (by rfl) ?_ ?_; rotate_left; (next => (intro w hSw; (try dsimp only at hSw); obtain ⟨hS1, hS2, hS3, hS4, hS5, hS6, hS7⟩ := hSw; go_simp; (try with_reducible rfl))); (try simp only [Act.put, List.setIfInBounds_toArray, List.set_cons_zero, List.set_cons_succ])))
      refine wpSch2_nil ?_
      go_wp2
      go_meet
      exact ⟨_, K2.out.size, rfl, rfl, T2.out.alloc _, Whole.new _ _ _, K2.out.alloc _⟩
    · skip
      refine wpOne_call rfl (by rfl) (fun K hK => ?_); go_simp
      refine hK.out _ _ ?_ (fun hHeld => ?_)
      · exact HC.out _ (TT.out.drew.alloc _)
      clear hK K
      (try simp only [Act.put, List.setIfInBounds_toArray, List.set_cons_zero, List.set_cons_succ])
      refine wpSch2_one ?_
      refine wpOne_call rfl (by rfl) (fun K hK => ?_); go_simp
      refine (HS.out _ (TT.out.drew.alloc _)).mono ?_
      rintro e w2 ⟨rfl, k3, hw2⟩
      have T2 := Lib.hid (hw2 ▸ (TT.out.drew.alloc _).drewN k3 : Tr w2 g b cap pa n tp m)
      have K2 := Lib.hid (hw2 ▸ (((Keep.refl _ w).drew.alloc _).drewN k3) : Keep (fun _ => False) w w2)
      have W2 : Whole w2 w.heap.size 63 #[.int .u64 0, .int .u64 0, .int .i64 0, .int .i64 0, .int .i64 0, .bool false] := by rw [hw2]; exact (Whole.new w.drew 63 #[.int .u64 0, .int .u64 0, .int .i64 0, .int .i64 0, .int .i64 0, .bool false]).drewN k3
      have hwB : w.heap.size ≤ w.heap.size := Nat.le_refl _
      clear hw2
      have W3 := W2.put 0 (.int .u64 ka)
      have W4 := W3.put 1 (.int .u64 kb)
      have W5 := W4.put 2 (.int .i64 (z.par : Int))
      have W6 := W5.put 3 (.int .i64 (lo : Int))
      have W7 := W6.put 4 (.int .i64 (hi : Int))
      have W8 := Lib.hid (W7.put 5 (.bool c))
      have e0 := W2.cell 0; have f0 := W2.free 0
      have e1 := W3.cell 1; have f1 := W3.free 1
      have e2 := W4.cell 2; have f2 := W4.free 2
      have e3 := W5.cell 3; have f3 := W5.free 3
      have e4 := W6.cell 4; have f4 := W6.free 4
      have e5 := W7.cell 5; have f5 := W7.free 5
      simp only [List.setIfInBounds_toArray, List.set_cons_zero, List.set_cons_succ, List.getElem?_toArray, List.getElem?_cons_zero, List.getElem?_cons_succ] at e0 e1 e2 e3 e4 e5
      have HB : Hid (∀ (W : World) (q : Nat) (v : Value), Tr W g b cap pa n tp m → Tr (W.setCell ⟨w.heap.size, q, none⟩ v) g b cap pa n tp m) := Lib.hid (fun W q v tW => tW.keep (S := fun k => k = w.heap.size) ((Keep.refl (fun k => k = w.heap.size) W).setCell (p := ⟨w.heap.size, q, none⟩) (.inl rfl) v) (fun h => by have := TT.out.gLt; omega) (fun h => by have := TT.out.hLt; omega))
      have HKB : Hid (∀ (W : World) (q : Nat) (v : Value), Keep (fun _ => False) w W → Keep (fun _ => False) w (W.setCell ⟨w.heap.size, q, none⟩ v)) := Lib.hid (fun W q v hW => hW.setCell (.inr (Nat.le_refl _)) v)
      refine hK.out _ _ ?_ (fun hHeld => ?_)
      · exact HC.out _ T2.out
      clear hK K
      (try simp only [Act.put, List.setIfInBounds_toArray, List.set_cons_zero, List.set_cons_succ])
      refine wpSch2_one ?_
      refine wpOne_call rfl (by rfl) (fun K hK => ?_); go_simp
      have T8 := Lib.hid (HB.out _ 5 (.bool c) (HB.out _ 4 (.int .i64 (hi : Int)) (HB.out _ 3 (.int .i64 (lo : Int)) (HB.out _ 2 (.int .i64 (z.par : Int)) (HB.out _ 1 (.int .u64 kb) (HB.out _ 0 (.int .u64 ka) T2.out))))))
      have K8 := Lib.hid (HKB.out _ 5 (.bool c) (HKB.out _ 4 (.int .i64 (hi : Int)) (HKB.out _ 3 (.int .i64 (lo : Int)) (HKB.out _ 2 (.int .i64 (z.par : Int)) (HKB.out _ 1 (.int .u64 kb) (HKB.out _ 0 (.int .u64 ka) K2.out))))))
      refine hK.out _ _ ?_ (fun hHeld => ?_)
      · exact HC.out _ T8.out
      clear hK K
      (try simp only [Act.put, List.setIfInBounds_toArray, List.set_cons_zero, List.set_cons_succ])
      (repeat (refine wpSch2_yes (v := ?_) rfl (fun _ _ _ h => h) (by rfl) ?_ ?_; rotate_left; (next => (intro w hSw; (try dsimp only at hSw); obtain ⟨hS1, hS2, hS3, hS4, hS5, hS6, hS7⟩ := hSw; go_simp; (try with_reducible rfl))); (try simp only [Act.put, List.setIfInBounds_toArray, List.set_cons_zero, List.set_cons_succ])))
      refine wpSch2_nil ?_
      go_wp2
      go_meet
      exact ⟨_, Nat.le_refl _, rfl, rfl, T8.out, W8.out, K8.out⟩
  case rest =>
    obtain ⟨B, hB, rfl, rfl, t3, w3, k3⟩ := hcut
    have T3 := Lib.hid t3; have K3 := Lib.hid k3; have W3 := Lib.hid w3
    have b1 := w3.cell 2
    have b2 := w3.cell 3
    have b3 := w3.cell 4
    have b4 := w3.cell 5
    have HBM : Hid (¬ Mine g b B) := Lib.hid (fun h => by have h1 := TT.out.gLt; have h2 := TT.out.hLt; rcases h with h | h <;> omega)
    clear t3 k3 w3 b4
    rcases hcase with ⟨rfl, rfl⟩ | ⟨hlo0, rfl⟩
    · skip
      go_wp2_with fail
      refine (hang_any x.root z.par z.side _ T3.out hx hzp).mono ?_
      rintro e w4 ⟨⟨v4, rfl⟩, t4, k4⟩
      have T4 := Lib.hid t4; have K4 := Lib.hid (K3.out.none_left.trans k4)
      have w4w := W3.out.keep k4 HBM.out
      have b1 := w4w.cell 2
      have b4 := w4w.cell 5
      clear t4 k4 T3 K3 W3 w4w
      cases c with
      | true =>
        have Q := Lib.hid (q1 rfl)
        clear q1 q2 q3
        go_wp2
        go_end0
        exact ⟨⟨_, rfl⟩, _, _, T4.out, Q.out, K4.out⟩
      | false =>
        have c1 := T4.out.st.cell 1
        have cx := T4.out.red hx
        rw [hred] at cx
        cases hxc : x.col with
        | true =>
          rw [hxc] at cx
          have Q := Lib.hid (q2 rfl hxc)
          have fx := T4.out.free (x.root * 6 + 5)
          have T5 := Lib.hid (T4.out.paint x.root false)
          clear q1 q2 q3 hred
          generalize hangM m x.root z.par z.side = m4 at *
          generalize x.root = xr at *
          go_wp2
          go_end0
          exact ⟨⟨_, rfl⟩, _, _, T5.out, Q.out, K4.out.mine _ _⟩
        | false =>
          rw [hxc] at cx
          obtain ⟨N, hQ⟩ := q3 rfl hxc
          have Q := Lib.hid hQ
          clear q1 q2 q3 hred hQ
          go_wp2_with fail
          refine (mendBlack_any _ T4.out Q.out).mono ?_
          rintro e w5 ⟨⟨v5, rfl⟩, m5, tp5, t5, r5, k5⟩
          have T5 := Lib.hid t5; have K5 := Lib.hid (K4.out.trans k5); have R5 := Lib.hid r5; clear t5 k5 r5
          go_wp2
          go_end0
          exact ⟨⟨_, rfl⟩, _, _, T5.out, R5.out, K5.out⟩
    · have hlo' : ((x.root : Int) == 0) = false := by rw [beq_eq_false_iff_ne]; omega
      go_wp2_with fail
      refine (hang_any x.root z.par z.side _ T3.out hx hzp).mono ?_
      rintro e w4 ⟨⟨v4, rfl⟩, t4, k4⟩
      have T4 := Lib.hid t4; have K4 := Lib.hid (K3.out.none_left.trans k4)
      have w4w := W3.out.keep k4 HBM.out
      have b1 := w4w.cell 2
      have b4 := w4w.cell 5
      clear t4 k4 T3 K3 W3 w4w
      cases c with
      | true =>
        have Q := Lib.hid (q1 rfl)
        clear q1 q2 q3
        go_wp2
        go_end0
        exact ⟨⟨_, rfl⟩, _, _, T4.out, Q.out, K4.out⟩
      | false =>
        have c1 := T4.out.st.cell 1
        have cx := T4.out.red hx
        rw [hred] at cx
        cases hxc : x.col with
        | true =>
          rw [hxc] at cx
          have Q := Lib.hid (q2 rfl hxc)
          have fx := T4.out.free (x.root * 6 + 5)
          have T5 := Lib.hid (T4.out.paint x.root false)
          clear q1 q2 q3 hred
          generalize hangM m x.root z.par z.side = m4 at *
          generalize x.root = xr at *
          go_wp2
          go_end0
          exact ⟨⟨_, rfl⟩, _, _, T5.out, Q.out, K4.out.mine _ _⟩
        | false =>
          rw [hxc] at cx
          obtain ⟨N, hQ⟩ := q3 rfl hxc
          have Q := Lib.hid hQ
          clear q1 q2 q3 hred hQ
          go_wp2_with fail
          refine (mendBlack_any _ T4.out Q.out).mono ?_
          rintro e w5 ⟨⟨v5, rfl⟩, m5, tp5, t5, r5, k5⟩
          have T5 := Lib.hid t5; have K5 := Lib.hid (K4.out.trans k5); have R5 := Lib.hid r5; clear t5 k5 r5
          go_wp2
          go_end0
          exact ⟨⟨_, rfl⟩, _, _, T5.out, R5.out, K5.out⟩
end
end Go.Proofs.Ytfbbmpmgceghfaa
