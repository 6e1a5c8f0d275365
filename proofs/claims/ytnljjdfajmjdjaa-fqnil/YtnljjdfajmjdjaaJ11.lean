/-
  The call cut of package rbtree. Conditions: the tree lies in memory, and what is cut off has one beneath it at most.
  The calls of package arena (New, Get, Free, Has, Used) answer what the document says, at every arena. Conditions: the arena lies in memory as New makes it.
-/
import Derived.Test.YtnljjdfajmjdjaaJ08
import Derived.Test.YtnljjdfajmjdjaaJ10
import Derived.Test.YtnljjdfajmjdjaaJ05
import Derived.Test.YtnljjdfajmjdjaaChecked
import Derived.Deep.CutBlock
import Derived.WalkSpells
import Derived.WalkLawsBesides
import Derived.LoopTactic
import Derived.Deep.QuietTactic
import Derived.Deep.DeepCutAuto
import Derived.Deep.Draws
import Derived.BigQuiet
namespace Go.Proofs.Ytnljjdfajmjdjaa
open Go.RowKit
set_option maxRecDepth 100000

section
variable {g b cap n tp : Nat} {pa : Value} {m : Nat → Nd} {z : Z} {L : List (Nat × Key)}
/-- What is left when one is cut off: red-black, or one black one less. -/
theorem RepB.cutTwo {s : Bool} {a : Nat} {k : Key} {c : Bool} {x : T} (h : RepB m n tp z (br s a k c x .nil) L) :
    (c = true → ∃ t', RepB (hangM m x.root z.par z.side) n (hangT tp x.root z.par) .top t' (z.zl ++ x.its ++ z.zr)) ∧
    (c = false → x.col = true → ∃ t', RepB (paint (hangM m x.root z.par z.side) x.root false) n (hangT tp x.root z.par) .top t' (z.zl ++ x.its ++ z.zr)) ∧
    (c = false → x.col = false → ∃ N, Less (hangM m x.root z.par z.side) n (hangT tp x.root z.par) z x (z.zl ++ x.its ++ z.zr) N) := by
  have hc := h.rep.cut.1
  obtain ⟨N, h1, h2⟩ := h.rb
  rw [RB_br] at h1
  rw [col_br] at h2
  obtain ⟨h1, n', e, h3, h4⟩ := h1
  refine ⟨fun hc' => ?_, fun hc' hx => ?_, fun hc' hx => ?_⟩
  · subst hc'
    simp at e
    subst e
    refine RepB.top (z := z) ⟨hc, N, h3, ?_⟩
    rw [(h1 rfl).1]; exact h2.weak
  · subst hc'
    simp at e
    have hx' : ∃ i k l r, x = .nd i k true l r := by
      cases x with
      | nil => simp [T.col] at hx
      | nd i k c l r => obtain rfl : c = true := hx; exact ⟨i, k, l, r, rfl⟩
    obtain ⟨i, k', l, r, rfl⟩ := hx'
    have := Rep.paint (s := false) (x := l) (y := r) hc false
    have e2 : z.zl ++ (T.nd i k' true l r).its ++ z.zr = z.zl ++ (T.nd i k' false l r).its ++ z.zr := rfl
    rw [e2] at this ⊢
    refine RepB.top (z := z) ⟨this, n' + 1, ?_, ?_⟩
    · obtain ⟨_, n2, e3, h5, h6⟩ := h3
      simp at e3
      subst e3
      exact RB_br (s := false).2 ⟨fun e => by simp at e, n', by simp, h5, h6⟩
    · rw [← e]; exact h2
  · subst hc'
    simp at e
    subst e
    exact ⟨n', hc, hx, h3, h2⟩

set_option maxHeartbeats 2000000 in
set_option maxRecDepth 100000 in
theorem cut_any {s : Bool} {a : Nat} {k : Key} {c : Bool} {x : T} (w : World) (tr : Tr w g b cap pa n tp m) (hr : RepB m n tp z (br s a k c x .nil) L) (hs : s = false → x ≠ .nil) :
    Calls Try.prog 78 #[.pointer (some ⟨g, 0, none⟩), .int .i64 (a : Int)] w fun e w' => (∃ v, e = .returned v) ∧ ∃ m' tp', Tr w' g b cap pa n tp' m' ∧ (∃ t', RepB m' n tp' .top t' (z.zl ++ x.its ++ z.zr)) ∧ Keep (Mine g b) w w' := by
  obtain ⟨hc1, hc2⟩ := tr.capB
  obtain ⟨q1, q2, q3⟩ := hr.cutTwo
  have hne : br s a k c x .nil ≠ .nil := by cases s <;> simp [br]
  have ha := hr.rep.posT (i := a) (by rw [its_br]; cases s <;> simp)
  have hn : 0 < n := by omega
  have hside : sideM m a = z.side := by have := hr.rep.side hne; rwa [root_br] at this
  have hup : (m a).up = z.par := by have := hr.rep.sub.root_up hne; rwa [root_br] at this
  have hzp := hr.rep.parLt hn
  have hx := hr.rep.down.rootLt hn
  have hx0 := hr.rep.down.root0
  have hred : (hangM m x.root z.par z.side x.root).red = x.col := hr.rep.cut.1.rootRed
  have hma : m a = if s then ⟨k, z.par, 0, x.root, c⟩ else ⟨k, z.par, x.root, 0, c⟩ := by have := hr.rep.sub; cases s; exact this.1; exact this.1
  have HS := Lib.hid (fun w' (t' : Tr w' g b cap pa n tp m) => side_any a w' t' ha.2 (by rw [hup]; exact hzp))
  rw [hside] at HS
  have TT := Lib.hid tr
  obtain ⟨lo, hi, hlo⟩ : ∃ lo hi, m a = ⟨k, z.par, lo, hi, c⟩ ∧ (lo = 0 ∧ hi = x.root ∨ lo ≠ 0 ∧ lo = x.root) := by
    cases s
    · exact ⟨x.root, 0, hma, .inr ⟨fun e => hs rfl (hx0.1 e), rfl⟩⟩
    · exact ⟨0, x.root, hma, .inl ⟨rfl, rfl⟩⟩
  obtain ⟨hlo, hcase⟩ := hlo
  have c1 := tr.st.cell 1
  have d0 := tr.ka ha.2
  have d1 := tr.kb ha.2
  have d2 := tr.upc ha.2
  have d3 := tr.lo ha.2
  have d4 := tr.hi ha.2
  have d5 := tr.red ha.2
  rw [hlo] at d0 d1 d2 d3 d4 d5
  dsimp only at d0 d1 d2 d3 d4 d5
  have hac : (a : Int) < (n : Int) := by omega
  obtain ⟨ka, kb⟩ := k
  dsimp only at d0 d1
  have HC : Hid (∀ W, Tr W g b cap pa n tp m → W.cell? ⟨g, 1, none⟩ = some (.slice (some ⟨b, 0, none⟩) n cap) ∧ W.cell? ⟨b, a * 6, none⟩ = some (.int .u64 ka) ∧ W.cell? ⟨b, a * 6 + 1, none⟩ = some (.int .u64 kb) ∧ W.cell? ⟨b, a * 6 + 2, none⟩ = some (.int .i64 (z.par : Int)) ∧ W.cell? ⟨b, a * 6 + 3, none⟩ = some (.int .i64 (lo : Int)) ∧ W.cell? ⟨b, a * 6 + 4, none⟩ = some (.int .i64 (hi : Int)) ∧ W.cell? ⟨b, a * 6 + 5, none⟩ = some (.bool c)) :=
    Lib.hid fun W tW => ⟨tW.st.cell 1, by rw [tW.ka ha.2, hlo], by rw [tW.kb ha.2, hlo], by rw [tW.upc ha.2, hlo], by rw [tW.lo ha.2, hlo], by rw [tW.hi ha.2, hlo], by rw [tW.red ha.2, hlo]⟩
  clear tr hr hs hne hma hlo c1 d0 d1 d2 d3 d4 d5
  go_enter Try.func78, Try.ntmps78
  go_wp2
  go_cut [4, 5] (fun s4 s5 wx => ∃ B, w.heap.size ≤ B ∧ s4 = .pointer (some ⟨B, 0, none⟩) ∧ s5 = .int .i64 (bit z.side) ∧ Tr wx g b cap pa n tp m ∧ Whole wx B 124 #[.int .u64 ka, .int .u64 kb, .int .i64 (z.par : Int), .int .i64 (lo : Int), .int .i64 (hi : Int), .bool c] ∧ Keep (fun _ => False) w wx)
  case first =>
    refine wp_region_sch2 (fun W => W.cell? ⟨g, 1, none⟩ = some (.slice (some ⟨b, 0, none⟩) n cap) ∧ W.cell? ⟨b, a * 6, none⟩ = some (.int .u64 ka) ∧ W.cell? ⟨b, a * 6 + 1, none⟩ = some (.int .u64 kb) ∧ W.cell? ⟨b, a * 6 + 2, none⟩ = some (.int .i64 (z.par : Int)) ∧ W.cell? ⟨b, a * 6 + 3, none⟩ = some (.int .i64 (lo : Int)) ∧ W.cell? ⟨b, a * 6 + 4, none⟩ = some (.int .i64 (hi : Int)) ∧ W.cell? ⟨b, a * 6 + 5, none⟩ = some (.bool c)) (.yes 0 (.yes 1 (.yes 2 (.yes 3 (.yes 4 (.yes 5 (.yes 6 (.yes 7 (.yes 8 (.two 9 (.one 10 (.one 11 (.yes 12 .nil))) 10 (.one 9 (.one 11 (.yes 12 .nil))))))))))))) (by kernel_rfl) (by kernel_rfl) (by kernel_rfl) (by kernel_rfl) (HC.out _ TT.out.drew) ?_
    (repeat (refine wpSch2_yes (v := ?_) rfl (fun _ _ _ h => h) (by rfl) ?_ ?_; rotate_left; (next => (intro w hSw; (try dsimp only at hSw); obtain ⟨hS1, hS2, hS3, hS4, hS5, hS6, hS7⟩ := hSw; go_simp; (try with_reducible rfl))); (try simp only [Act.put, List.setIfInBounds_toArray, List.set_cons_zero, List.set_cons_succ])))
    refine wpSch2_two ?_ ?_
    · skip
      refine wpOne_call rfl (by rfl) (fun K hK => ?_); go_simp
      refine (HS.out _ TT.out.drew).mono ?_
      rintro e w2 ⟨rfl, k3, hw2⟩
      have T2 := Lib.hid (hw2 ▸ TT.out.drew.drewN k3 : Tr w2 g b cap pa n tp m)
      have K2 := Lib.hid (hw2 ▸ ((Keep.refl _ w).drew.drewN k3) : Keep (fun _ => False) w w2)
      clear hw2
      refine hK.out _ _ ?_ (fun hHeld => ?_)
      · exact HC.out _ T2.out
      clear hK K
      (try simp only [Act.put, List.setIfInBounds_toArray, List.set_cons_zero, List.set_cons_succ])
      refine wpSch2_one ?_
      refine wpOne_call rfl (by rfl) (fun K hK => ?_); go_simp
      refine hK.out _ _ ?_ (fun hHeld => ?_)
      · exact HC.out _ (T2.out.alloc _)
      clear hK K
      (try simp only [Act.put, List.setIfInBounds_toArray, List.set_cons_zero, List.set_cons_succ])
      refine wpSch2_one ?_
      refine wpOne_call rfl (by rfl) (fun K hK => ?_); go_simp
      refine hK.out _ _ ?_ (fun hHeld => ?_)
      · exact HC.out _ (T2.out.alloc _)
      clear hK K
      (try simp only [Act.put, List.setIfInBounds_toArray, List.set_cons_zero, List.set_cons_succ])
      (repeat (refine wpSch2_yes (v := ?_) rfl (fun _ _ _ h => h) (by rfl) ?_ ?_; rotate_left; (next => (intro w hSw; (try dsimp only at hSw); obtain ⟨hS1, hS2, hS3, hS4, hS5, hS6, hS7⟩ := hSw; go_simp; (try with_reducible rfl))); (try simp only [Act.put, List.setIfInBounds_toArray, List.set_cons_zero, List.set_cons_succ])))
      refine wpSch2_nil ?_
      go_wp2
      go_meet
      exact ⟨_, K2.out.size, rfl, rfl, T2.out.alloc _, Whole.new _ _ _, K2.out.alloc _⟩
    · skip
      refine wpOne_call rfl (by rfl) (fun K hK => ?_); go_simp
      refine hK.out _ _ ?_ (fun hHeld => ?_)
      · exact HC.out _ (TT.out.drew.alloc _)
      clear hK K
      (try simp only [Act.put, List.setIfInBounds_toArray, List.set_cons_zero, List.set_cons_succ])
      refine wpSch2_one ?_
      refine wpOne_call rfl (by rfl) (fun K hK => ?_); go_simp
      refine (HS.out _ (TT.out.drew.alloc _)).mono ?_
      rintro e w2 ⟨rfl, k3, hw2⟩
      have T2 := Lib.hid (hw2 ▸ (TT.out.drew.alloc _).drewN k3 : Tr w2 g b cap pa n tp m)
      have K2 := Lib.hid (hw2 ▸ (((Keep.refl _ w).drew.alloc _).drewN k3) : Keep (fun _ => False) w w2)
      have W2 : Whole w2 w.heap.size 124 #[.int .u64 0, .int .u64 0, .int .i64 0, .int .i64 0, .int .i64 0, .bool false] := by rw [hw2]; exact (Whole.new w.drew 124 #[.int .u64 0, .int .u64 0, .int .i64 0, .int .i64 0, .int .i64 0, .bool false]).drewN k3
      have hwB : w.heap.size ≤ w.heap.size := Nat.le_refl _
      clear hw2
      have W3 := W2.put 0 (.int .u64 ka)
      have W4 := W3.put 1 (.int .u64 kb)
      have W5 := W4.put 2 (.int .i64 (z.par : Int))
      have W6 := W5.put 3 (.int .i64 (lo : Int))
      have W7 := W6.put 4 (.int .i64 (hi : Int))
      have W8 := Lib.hid (W7.put 5 (.bool c))
      have e0 := W2.cell 0; have f0 := W2.free 0
      have e1 := W3.cell 1; have f1 := W3.free 1
      have e2 := W4.cell 2; have f2 := W4.free 2
      have e3 := W5.cell 3; have f3 := W5.free 3
      have e4 := W6.cell 4; have f4 := W6.free 4
      have e5 := W7.cell 5; have f5 := W7.free 5
      simp only [List.setIfInBounds_toArray, List.set_cons_zero, List.set_cons_succ, List.getElem?_toArray, List.getElem?_cons_zero, List.getElem?_cons_succ] at e0 e1 e2 e3 e4 e5
      have HB : Hid (∀ (W : World) (q : Nat) (v : Value), Tr W g b cap pa n tp m → Tr (W.setCell ⟨w.heap.size, q, none⟩ v) g b cap pa n tp m) := Lib.hid (fun W q v tW => tW.keep (S := fun k => k = w.heap.size) ((Keep.refl (fun k => k = w.heap.size) W).setCell (p := ⟨w.heap.size, q, none⟩) (.inl rfl) v) (fun h => by have := TT.out.gLt; omega) (fun h => by have := TT.out.hLt; omega))
      have HKB : Hid (∀ (W : World) (q : Nat) (v : Value), Keep (fun _ => False) w W → Keep (fun _ => False) w (W.setCell ⟨w.heap.size, q, none⟩ v)) := Lib.hid (fun W q v hW => hW.setCell (.inr (Nat.le_refl _)) v)
      refine hK.out _ _ ?_ (fun hHeld => ?_)
      · exact HC.out _ T2.out
      clear hK K
      (try simp only [Act.put, List.setIfInBounds_toArray, List.set_cons_zero, List.set_cons_succ])
      refine wpSch2_one ?_
      refine wpOne_call rfl (by rfl) (fun K hK => ?_); go_simp
      have T8 := Lib.hid (HB.out _ 5 (.bool c) (HB.out _ 4 (.int .i64 (hi : Int)) (HB.out _ 3 (.int .i64 (lo : Int)) (HB.out _ 2 (.int .i64 (z.par : Int)) (HB.out _ 1 (.int .u64 kb) (HB.out _ 0 (.int .u64 ka) T2.out))))))
      have K8 := Lib.hid (HKB.out _ 5 (.bool c) (HKB.out _ 4 (.int .i64 (hi : Int)) (HKB.out _ 3 (.int .i64 (lo : Int)) (HKB.out _ 2 (.int .i64 (z.par : Int)) (HKB.out _ 1 (.int .u64 kb) (HKB.out _ 0 (.int .u64 ka) K2.out))))))
      refine hK.out _ _ ?_ (fun hHeld => ?_)
      · exact HC.out _ T8.out
      clear hK K
      (try simp only [Act.put, List.setIfInBounds_toArray, List.set_cons_zero, List.set_cons_succ])
      (repeat (refine wpSch2_yes (v := ?_) rfl (fun _ _ _ h => h) (by rfl) ?_ ?_; rotate_left; (next => (intro w hSw; (try dsimp only at hSw); obtain ⟨hS1, hS2, hS3, hS4, hS5, hS6, hS7⟩ := hSw; go_simp; (try with_reducible rfl))); (try simp only [Act.put, List.setIfInBounds_toArray, List.set_cons_zero, List.set_cons_succ])))
      refine wpSch2_nil ?_
      go_wp2
      go_meet
      exact ⟨_, Nat.le_refl _, rfl, rfl, T8.out, W8.out, K8.out⟩
  case rest =>
    obtain ⟨B, hB, rfl, rfl, t3, w3, k3⟩ := hcut
    have T3 := Lib.hid t3; have K3 := Lib.hid k3; have W3 := Lib.hid w3
    have b1 := w3.cell 2
    have b2 := w3.cell 3
    have b3 := w3.cell 4
    have b4 := w3.cell 5
    have HBM : Hid (¬ Mine g b B) := Lib.hid (fun h => by have h1 := TT.out.gLt; have h2 := TT.out.hLt; rcases h with h | h <;> omega)
    clear t3 k3 w3 b4
    rcases hcase with ⟨rfl, rfl⟩ | ⟨hlo0, rfl⟩
    · skip
      go_wp2_with fail
      refine (hang_any x.root z.par z.side _ T3.out hx hzp).mono ?_
      rintro e w4 ⟨⟨v4, rfl⟩, t4, k4⟩
      have T4 := Lib.hid t4; have K4 := Lib.hid (K3.out.none_left.trans k4)
      have w4w := W3.out.keep k4 HBM.out
      have b1 := w4w.cell 2
      have b4 := w4w.cell 5
      clear t4 k4 T3 K3 W3 w4w
      cases c with
      | true =>
        have Q := Lib.hid (q1 rfl)
        clear q1 q2 q3
        go_wp2
        go_end0
        exact ⟨⟨_, rfl⟩, _, _, T4.out, Q.out, K4.out⟩
      | false =>
        have c1 := T4.out.st.cell 1
        have cx := T4.out.red hx
        rw [hred] at cx
        cases hxc : x.col with
        | true =>
          rw [hxc] at cx
          have Q := Lib.hid (q2 rfl hxc)
          have fx := T4.out.free (x.root * 6 + 5)
          have T5 := Lib.hid (T4.out.paint x.root false)
          clear q1 q2 q3 hred
          generalize hangM m x.root z.par z.side = m4 at *
          generalize x.root = xr at *
          go_wp2
          go_end0
          exact ⟨⟨_, rfl⟩, _, _, T5.out, Q.out, K4.out.mine _ _⟩
        | false =>
          rw [hxc] at cx
          obtain ⟨N, hQ⟩ := q3 rfl hxc
          have Q := Lib.hid hQ
          clear q1 q2 q3 hred hQ
          go_wp2_with fail
          refine (mendBlack_any _ T4.out Q.out).mono ?_
          rintro e w5 ⟨⟨v5, rfl⟩, m5, tp5, t5, r5, k5⟩
          have T5 := Lib.hid t5; have K5 := Lib.hid (K4.out.trans k5); have R5 := Lib.hid r5; clear t5 k5 r5
          go_wp2
          go_end0
          exact ⟨⟨_, rfl⟩, _, _, T5.out, R5.out, K5.out⟩
    · have hlo' : ((x.root : Int) == 0) = false := by rw [beq_eq_false_iff_ne]; omega
      go_wp2_with fail
      refine (hang_any x.root z.par z.side _ T3.out hx hzp).mono ?_
      rintro e w4 ⟨⟨v4, rfl⟩, t4, k4⟩
      have T4 := Lib.hid t4; have K4 := Lib.hid (K3.out.none_left.trans k4)
      have w4w := W3.out.keep k4 HBM.out
      have b1 := w4w.cell 2
      have b4 := w4w.cell 5
      clear t4 k4 T3 K3 W3 w4w
      cases c with
      | true =>
        have Q := Lib.hid (q1 rfl)
        clear q1 q2 q3
        go_wp2
        go_end0
        exact ⟨⟨_, rfl⟩, _, _, T4.out, Q.out, K4.out⟩
      | false =>
        have c1 := T4.out.st.cell 1
        have cx := T4.out.red hx
        rw [hred] at cx
        cases hxc : x.col with
        | true =>
          rw [hxc] at cx
          have Q := Lib.hid (q2 rfl hxc)
          have fx := T4.out.free (x.root * 6 + 5)
          have T5 := Lib.hid (T4.out.paint x.root false)
          clear q1 q2 q3 hred
          generalize hangM m x.root z.par z.side = m4 at *
          generalize x.root = xr at *
          go_wp2
          go_end0
          exact ⟨⟨_, rfl⟩, _, _, T5.out, Q.out, K4.out.mine _ _⟩
        | false =>
          rw [hxc] at cx
          obtain ⟨N, hQ⟩ := q3 rfl hxc
          have Q := Lib.hid hQ
          clear q1 q2 q3 hred hQ
          go_wp2_with fail
          refine (mendBlack_any _ T4.out Q.out).mono ?_
          rintro e w5 ⟨⟨v5, rfl⟩, m5, tp5, t5, r5, k5⟩
          have T5 := Lib.hid t5; have K5 := Lib.hid (K4.out.trans k5); have R5 := Lib.hid r5; clear t5 k5 r5
          go_wp2
          go_end0
          exact ⟨⟨_, rfl⟩, _, _, T5.out, R5.out, K5.out⟩
end
end Go.Proofs.Ytnljjdfajmjdjaa
namespace Go.Proofs.Ytnljjdfajmjdjaa
open Go.RowKit
set_option maxRecDepth 100000

theorem Try.infoBool : (Try.prog.info? 4).map (fun i => (i.zero, i.size, i.bytes)) = some (some (.bool false), 1, 1) := by kernel_rfl
theorem Try.infoInt : (Try.prog.info? 3).map (fun i => (i.zero, i.size, i.bytes)) = some (some (.int .i64 0), 1, 8) := by kernel_rfl

theorem arena_made (T : TypeId) (w : World) (n : Nat) (h : n ≤ 4096) : ArenaAt T (w.alloc (.cells #[.int .i64 n, .slice none 0 0, .slice none 0 0] T)) (· = w.heap.size) w.heap.size ⟨n, [], []⟩ :=
  ⟨_, _, ⟨Whole.new _ _ _, Owns.nil _ _, Owns.nil _ _⟩, ⟨h, Nat.zero_le _, List.nodup_nil, fun i hi => (by cases hi), rfl⟩, fun k => by simp [Foot, Value.ownBlock]⟩

set_option maxHeartbeats 400000 in
theorem anew_any (n : Int) (w : World) :
    Calls Try.prog 75 #[.int .i64 n] w fun e w' => e = .returned (.pointer (some ⟨w.heap.size, 0, none⟩)) ∧ ArenaAt 142 w' (· = w.heap.size) w.heap.size ⟨capN n, [], []⟩ ∧ Keep (fun _ => False) w w' := by
  rcases Int.lt_trichotomy n 0 with h | h | h
  · have He : Hid (capN n = 0) := Lib.hid (if_pos h)
    go_enter Try.func75, Try.ntmps75
    go_wp2
    go_ret
    exact ⟨rfl, by rw [He.out]; exact arena_made _ _ _ (by decide), (Keep.refl _ _).alloc _⟩
  · subst h
    go_enter Try.func75, Try.ntmps75
    go_wp2
    go_ret
    exact ⟨rfl, arena_made _ _ _ (by decide), (Keep.refl _ _).alloc _⟩
  · rcases Int.lt_trichotomy n 4096 with h' | h' | h'
    · have He : Hid (capN n = n.toNat ∧ n = (n.toNat : Int) ∧ n.toNat ≤ 4096) := Lib.hid ⟨by unfold capN; rw [if_neg (by omega), if_pos (by omega)], by omega, by omega⟩
      go_enter Try.func75, Try.ntmps75
      go_wp2
      go_ret
      refine ⟨rfl, ?_, (Keep.refl _ _).alloc _⟩
      rw [He.out.1]
      have := arena_made 142 w n.toNat He.out.2.2
      rwa [← He.out.2.1] at this
    · subst h'
      go_enter Try.func75, Try.ntmps75
      go_wp2
      go_ret
      exact ⟨rfl, arena_made _ _ _ (by decide), (Keep.refl _ _).alloc _⟩
    · have He : Hid (capN n = 4096) := Lib.hid (by unfold capN; rw [if_neg (by omega), if_neg (by omega)])
      go_enter Try.func75, Try.ntmps75
      go_wp2
      go_ret
      exact ⟨rfl, by rw [He.out]; exact arena_made _ _ _ (by decide), (Keep.refl _ _).alloc _⟩

theorem get_nil (w : World) : Calls Try.prog 66 #[.pointer none] w fun e w' => e = .returned (.tuple #[.int .i64 0, .int .i64 2]) ∧ w = w' := by
  go_enter Try.func66, Try.ntmps66
  go_wp2
  go_ret2
  exact ⟨rfl, rfl⟩

theorem has_nil (i : Int) (w : World) : Calls Try.prog 92 #[.pointer none, .int .i64 i] w fun e w' => e = .returned (.bool false) ∧ w = w' := by
  go_enter Try.func92, Try.ntmps92
  go_wp2
  go_ret
  exact ⟨rfl, rfl⟩

theorem free_nil (i : Int) (w : World) : Calls Try.prog 79 #[.pointer none, .int .i64 i] w fun e w' => e = .returned (.int .i64 2) ∧ w = w' := by
  go_enter Try.func79, Try.ntmps79
  go_wp2
  go_ret
  exact ⟨rfl, rfl⟩

theorem used_nil (w : World) : Calls Try.prog 100 #[.pointer none] w fun e w' => e = .returned (.int .i64 0) ∧ w = w' := by
  go_enter Try.func100, Try.ntmps100
  go_wp2
  go_ret
  exact ⟨rfl, rfl⟩

set_option maxHeartbeats 400000 in
theorem used_any (S : Nat → Prop) (g : Nat) (s : St) (w : World) (h : ArenaAt 142 w S g s) :
    Calls Try.prog 100 #[.pointer (some ⟨g, 0, none⟩)] w fun e w' => e = .returned (.int .i64 (s.out.count true : Nat)) ∧ ∃ n, w' = w.drewN n := by
  have hok := h.ok
  obtain ⟨ag, cg, af, cf, _, _, c0, c1, c2, _, _, _⟩ := h.open
  have hb : s.out.length ≤ 4096 := Nat.le_trans hok.len hok.n
  have HE : Hid ((s.out.length : Int) - (s.fr.length : Int) = (s.out.count true : Nat)) := Lib.hid (by have := hok.cnt; omega)
  have hf : s.fr.length ≤ 4096 := by have := hok.cnt; omega
  clear hok h
  go_enter Try.func100, Try.ntmps100
  go_wp2
  go_quiet (fail)
  go_wp2
  go_ret
  exact ⟨ret_i (Eq.trans (by go_num) HE.out), _, rfl⟩


set_option maxHeartbeats 400000 in
theorem has_any (S : Nat → Prop) (g : Nat) (s : St) (i : Int) (w : World) (h : ArenaAt 142 w S g s) :
    Calls Try.prog 92 #[.pointer (some ⟨g, 0, none⟩), .int .i64 i] w fun e w' => e = .returned (.bool (s.has i)) ∧ w = w' := by
  obtain ⟨ag, cg, af, cf, hraw, _, c0, c1, c2, hag, _, _⟩ := h.open
  by_cases hneg : i < 0
  · have HE : Hid (s.has i = false) := Lib.hid (by unfold St.has; simp; omega)
    clear hraw hag h
    go_enter Try.func92, Try.ntmps92
    go_wp2
    go_ret
    exact ⟨ret_b HE.out.symm, rfl⟩
  · obtain ⟨k, rfl⟩ : ∃ k : Nat, i = k := ⟨i.toNat, by omega⟩
    clear hneg
    by_cases hlt : k < s.out.length
    · obtain ⟨gg, rfl⟩ := hag (by omega)
      have hc : w.cell? ⟨gg, k, none⟩ = some (.bool (s.out[k])) := by
        have e : Owns w 4 (.slice (some ⟨gg, 0, none⟩) (bools s.out).length cg) (bools s.out) := by rw [len_bools]; exact hraw.2.1
        rw [e.cell k (by simpa using hlt), get_bools]; simp [hlt]
      have HE : Hid (s.has k = s.out[k]) := Lib.hid (by unfold St.has; simp [hlt])
      have hi : (k : Int) < (s.out.length : Int) := by omega
      clear hraw hag h
      generalize s.out[k] = b at *
      go_enter Try.func92, Try.ntmps92
      go_wp2
      go_ret
      exact ⟨ret_b HE.out.symm, rfl⟩
    · have HE : Hid (s.has k = false) := Lib.hid (by unfold St.has; simp; rw [List.getElem?_eq_none (by omega)]; simp)
      have hi : ¬ (k : Int) < (s.out.length : Int) := by omega
      clear hraw hag h
      go_enter Try.func92, Try.ntmps92
      go_wp2
      go_ret
      exact ⟨ret_b HE.out.symm, rfl⟩

/-- What Get leaves. -/
def Got (T : TypeId) (S : Nat → Prop) (g : Nat) (s : St) (w : World) (e : Ending) (w' : World) : Prop :=
  e = .returned (.tuple #[.int .i64 s.getV, .int .i64 s.getE]) ∧ ∃ S', ArenaAt T w' S' g s.getS ∧ Step S S' w w'

theorem AT : (142 : TypeId) ≠ 4 ∧ (142 : TypeId) ≠ 3 := ⟨by decide, by decide⟩

set_option maxHeartbeats 1000000 in
theorem get_any (S : Nat → Prop) (g : Nat) (s : St) (w : World) (h : ArenaAt 142 w S g s) :
    Calls Try.prog 66 #[.pointer (some ⟨g, 0, none⟩)] w (Got 142 S g s w) := by
  obtain ⟨N, out, fr⟩ := s
  have hok := h.ok
  have hob : out.length ≤ 4096 := Nat.le_trans hok.len hok.n
  have hN : N ≤ 4096 := hok.n
  unfold Got
  have H := Lib.hid h
  obtain ⟨ag, cg, af, cf, hraw, hS, c0, c1, c2, hag, haf, hafn⟩ := h.open
  clear h
  have HR := Lib.hid hraw; have HS := Lib.hid hS; clear hraw hS
  dsimp only at c0 c1 c2 HR HS hag haf hafn
  rcases List.eq_nil_or_concat fr with rfl | ⟨fr, i, rfl⟩
  · clear hag haf hafn
    rw [List.length_nil] at c2 HR HS
    by_cases hfull : out.length = N
    · have E := Lib.hid (get_full hfull)
      rw [hfull] at c1
      clear hok HR HS
      go_enter Try.func66, Try.ntmps66
      go_wp2
      go_quiet (fail)
      go_wp2
      go_ret2
      refine ⟨ret_pair E.out.1.symm E.out.2.1.symm, S, ?_, Step.drewN _ _ _⟩
      rw [E.out.2.2]; exact H.out
    · have E := Lib.hid (get_new hfull)
      have OK := Lib.hid (ok_new hok hfull)
      have hne' : ((out.length : Int) == (N : Int)) = false := by rw [beq_eq_false_iff_ne]; omega
      have hlt : out.length < N := by have := hok.len; simp at this; omega
      clear hok hfull H
      obtain ⟨i0, hi, hz0, hz1, hz2⟩ := info_parts Try.infoBool
      have HI := Lib.hid hi; have HZ0 := Lib.hid hz0; have HZ1 := Lib.hid hz1; have HZ2 := Lib.hid hz2; clear hi hz0 hz1 hz2
      go_enter Try.func66, Try.ntmps66
      go_wp2
      go_quiet (fail)
      have HR0 := Lib.hid (show Raw _ (w.drewN nq) _ _ _ _ _ _ from HR.out)
      go_wp2_with (at_builtin; refine wpList_append_owns rfl _ _ 140 rfl 4 i0 (.bool false) 1 Try.underlying140 HI.out HZ0.out HZ1.out HZ2.out rfl _ (bools out) rfl (HR0.out.2.1.alloc _) (some ⟨w.heap.size, 0, none⟩) 1 1 [.bool true] rfl rfl (fun h => (by cases h)) (one_news (w.drewN nq) _ _) (one_bools [true]) (by unfold maxLen; rw [len_bools]; omega) (by rw [len_bools]; omega) ?_; intro v' w1 hown hk hnew hnil; rw [app_bools] at hown; obtain ⟨gg, cap', hv⟩ := hown.pos (by simp); rw [len_bools, List.length_append, List.length_singleton] at hv; subst hv; obtain ⟨hr1, hc1, hf1⟩ := (HR0.out.alloc _).grownOut AT hk hown; have HR1 := Lib.hid hr1; have HK := Lib.hid hk; have HNEW := Lib.hid hnew; clear hown hk hnew hnil hr1)
      go_ret2
      refine ⟨ret_pair (Eq.trans (by go_num) E.out.1.symm) E.out.2.1.symm, Foot g (.slice (some ⟨gg, 0, none⟩) (out.length + 1) cap') (.slice af 0 cf), ?_, ?_, foot_out HS.out HNEW.out (by simp)⟩
      · rw [E.out.2.2]; exact ⟨_, _, HR1.out, OK.out, fun k => Iff.rfl⟩
      · exact ((((Keep.refl S w).drewN nq).alloc _).then HK.out (fun k hk _ => (HS.out k).2 (.inr (.inl hk)))).setCell (p := ⟨g, 1, none⟩) (.inl ((HS.out g).2 (.inl rfl))) _
  · rw [List.concat_eq_append] at *
    have E := Lib.hid (get_last (N := N) (out := out) (fr := fr) (i := i))
    obtain ⟨hok', hoff⟩ := ok_last hok
    have OK := Lib.hid hok'
    have hio : i < out.length := (List.getElem?_eq_some_iff.1 hoff).1
    obtain ⟨gg, rfl⟩ := hag (by omega)
    obtain ⟨gf, rfl⟩ := haf (by simp)
    rw [List.length_append, List.length_singleton] at c2 HR HS
    have hci : w.cell? ⟨gf, fr.length, none⟩ = some (.int .i64 (i : Int)) := by rw [HR.out.2.2.cell fr.length (by simp), get_ints]; simp
    have hcap : fr.length + 1 ≤ cf := HR.out.2.2.capLe.2.1
    have hcm : cf ≤ 9223372036854775807 := by have := HR.out.2.2.capLe.2.2; unfold maxLen at this; omega
    have hfl : fr.length < 4096 := by have := hok.cnt; simp at this; omega
    have hpop : Owns w 3 (.slice (some ⟨gf, 0, none⟩) fr.length cf) (ints fr) := by
      have := HR.out.2.2
      rw [← app_ints] at this
      have := this.pop
      rwa [len_ints] at this
    have HR1 := Lib.hid (HR.out.turnFr AT hpop)
    obtain ⟨_, d1, _, _, _⟩ := HR1.out.cells
    obtain ⟨_, _, _, f1, f2⟩ := HR.out.cells
    have d2 : (w.setCell ⟨g, 2, none⟩ (.slice (some ⟨gf, 0, none⟩) fr.length cf)).cell? ⟨gg, i, none⟩ = some (.bool false) := by
      rw [HR1.out.2.1.cell i (by simpa using hio), get_bools, hoff]; rfl
    have d3 := HR1.out.2.1.free i
    have HR2 := Lib.hid (HR1.out.putOut AT.1 i (.bool true))
    clear hok hok' hoff hpop hafn hag haf H
    go_enter Try.func66, Try.ntmps66
    go_wp2
    go_ret2
    refine ⟨ret_pair (Eq.trans (by go_num) E.out.1.symm) E.out.2.1.symm, S, ?_, ?_, fun k hk => .inl hk⟩
    · rw [E.out.2.2]; exact ⟨.slice (some ⟨gg, 0, none⟩) out.length cg, .slice (some ⟨gf, 0, none⟩) fr.length cf, by have := HR2.out; rwa [set_bools] at this, OK.out, HS.out⟩
    · exact ((Keep.refl S w).setCell (p := ⟨g, 2, none⟩) (.inl ((HS.out g).2 (.inl rfl))) _).setCell (p := ⟨gg, i, none⟩) (.inl ((HS.out gg).2 (.inr (.inl rfl)))) _

theorem has_is (S : Nat → Prop) (g : Nat) (s : St) (i : Int) (b : Bool) (hb : s.has i = b) (w : World) (h : ArenaAt 142 w S g s) :
    Calls Try.prog 92 #[.pointer (some ⟨g, 0, none⟩), .int .i64 i] w fun e w' => e = .returned (.bool b) ∧ w = w' := by
  subst hb; exact has_any S g s i w h

/-- What Free leaves. -/
def Freed (T : TypeId) (S : Nat → Prop) (g : Nat) (s : St) (i : Int) (w : World) (e : Ending) (w' : World) : Prop :=
  e = .returned (.int .i64 (s.freeE i)) ∧ ∃ S', ArenaAt T w' S' g (s.freeS i) ∧ Step S S' w w'

set_option maxHeartbeats 1000000 in
theorem free_any (S : Nat → Prop) (g : Nat) (s : St) (i : Int) (w : World) (h : ArenaAt 142 w S g s) :
    Calls Try.prog 79 #[.pointer (some ⟨g, 0, none⟩), .int .i64 i] w (Freed 142 S g s i w) := by
  obtain ⟨N, out, fr⟩ := s
  have hok := h.ok
  have hob : out.length ≤ 4096 := Nat.le_trans hok.len hok.n
  have hN : N ≤ 4096 := hok.n
  unfold Freed
  have H := Lib.hid h
  obtain ⟨ag, cg, af, cf, hraw, hS, c0, c1, c2, hag, haf, hafn⟩ := h.open
  clear h
  have HR := Lib.hid hraw; have HS := Lib.hid hS; clear hraw hS
  dsimp only at c0 c1 c2 HR HS hag haf hafn
  by_cases hneg : i < 0
  · have E : Hid (St.freeE ⟨N, out, fr⟩ i = 1 ∧ St.freeS ⟨N, out, fr⟩ i = ⟨N, out, fr⟩) := Lib.hid ⟨if_pos (.inl hneg), if_pos (.inl hneg)⟩
    clear hok HR HS hag haf hafn
    go_enter Try.func79, Try.ntmps79
    go_wp2
    go_ret
    refine ⟨ret_i E.out.1.symm, S, ?_, Step.refl _ _⟩
    rw [E.out.2]; exact H.out
  obtain ⟨k, rfl⟩ : ∃ k : Nat, i = k := ⟨i.toNat, by omega⟩
  clear hneg
  by_cases hbig : N ≤ k
  · have E : Hid (St.freeE ⟨N, out, fr⟩ k = 1 ∧ St.freeS ⟨N, out, fr⟩ k = ⟨N, out, fr⟩) := Lib.hid ⟨if_pos (.inr (by simp; omega)), if_pos (.inr (by simp; omega))⟩
    have hb' : (N : Int) ≤ (k : Int) := by omega
    clear hok HR HS hag haf hafn
    go_enter Try.func79, Try.ntmps79
    go_wp2
    go_ret
    refine ⟨ret_i E.out.1.symm, S, ?_, Step.refl _ _⟩
    rw [E.out.2]; exact H.out
  have hb' : ¬ (N : Int) ≤ (k : Int) := by omega
  have hor : ¬ ((k : Int) < 0 ∨ (N : Int) ≤ (k : Int)) := by omega
  by_cases hhas : St.has ⟨N, out, fr⟩ k = true
  · have E : Hid (St.freeE ⟨N, out, fr⟩ k = 0 ∧ St.freeS ⟨N, out, fr⟩ k = ⟨N, out.set k false, fr ++ [k]⟩) := Lib.hid ⟨by unfold St.freeE; rw [if_neg hor, if_pos hhas], by unfold St.freeS; rw [if_neg hor, if_pos hhas]; simp⟩
    have HA := Lib.hid hhas
    obtain ⟨k', e, hlt, hon⟩ := has_parts hhas
    obtain rfl : k = k' := by omega
    dsimp only at hlt hon
    have OK := Lib.hid (ok_free hok hon)
    have hfl : fr.length ≤ 4096 := by have := hok.cnt; simp at this; omega
    obtain ⟨gg, rfl⟩ := hag (by omega)
    have hck : w.cell? ⟨gg, k, none⟩ = some (.bool true) := by rw [HR.out.2.1.cell k (by simpa using hlt), get_bools, hon]; rfl
    have hfk := HR.out.2.1.free k
    have HR1 := Lib.hid (HR.out.putOut AT.1 k (.bool false))
    obtain ⟨_, d1, d2, f1, f2⟩ := HR1.out.cells
    clear hok hon hag haf hafn hor hhas e
    obtain ⟨i0, hi, hz0, hz1, hz2⟩ := info_parts Try.infoInt
    have HI := Lib.hid hi; have HZ0 := Lib.hid hz0; have HZ1 := Lib.hid hz1; have HZ2 := Lib.hid hz2; clear hi hz0 hz1 hz2
    go_enter Try.func79, Try.ntmps79
    go_wp2_with (first
      | (go_at_call 92; (with_reducible refine (has_is _ _ _ _ true HA.out _ H.out).mono ?_); rintro e w' ⟨rfl, rfl⟩)
      | (at_builtin; refine wpList_append_owns rfl _ _ 55 rfl 3 i0 (.int .i64 0) 8 Try.underlying55 HI.out HZ0.out HZ1.out HZ2.out rfl _ (ints fr) rfl (HR1.out.2.2.alloc _) (some ⟨w.heap.size, 0, none⟩) 1 1 [.int .i64 (k : Int)] rfl rfl (fun h => (by cases h)) (by have := one_news (w.setCell ⟨gg, k, none⟩ (.bool false)) (.int .i64 (k : Int)) 3; rwa [World.size_setCell] at this) (one_ints [k]) (by unfold maxLen; rw [len_ints]; omega) (by rw [len_ints]; omega) ?_; intro v' w1 hown hk hnew hnil; rw [app_ints] at hown; obtain ⟨gf, cap', hv⟩ := hown.pos (by simp); rw [len_ints, List.length_append, List.length_singleton] at hv; subst hv; obtain ⟨hr1, hc1, hf1⟩ := (HR1.out.alloc _).grownFr AT hk hown; have HR2 := Lib.hid hr1; have HK := Lib.hid hk; have HNEW := Lib.hid hnew; clear hown hk hnew hnil hr1))
    go_ret
    refine ⟨ret_i E.out.1.symm, Foot g (.slice (some ⟨gg, 0, none⟩) out.length cg) (.slice (some ⟨gf, 0, none⟩) (fr.length + 1) cap'), ?_, ?_, foot_fr HS.out HNEW.out (by simp)⟩
    · rw [E.out.2]; exact ⟨_, _, by have := HR2.out; rwa [set_bools] at this, OK.out, fun k => Iff.rfl⟩
    · exact ((((Keep.refl S w).setCell (p := ⟨gg, k, none⟩) (.inl ((HS.out gg).2 (.inr (.inl rfl)))) _).alloc _).then HK.out (fun k hk _ => (HS.out k).2 (.inr (.inr hk)))).setCell (p := ⟨g, 2, none⟩) (.inl ((HS.out g).2 (.inl rfl))) _
  · rw [Bool.not_eq_true] at hhas
    have E : Hid (St.freeE ⟨N, out, fr⟩ k = 7 ∧ St.freeS ⟨N, out, fr⟩ k = ⟨N, out, fr⟩) := Lib.hid ⟨by unfold St.freeE; rw [if_neg hor, if_neg (by simp [hhas])], by unfold St.freeS; rw [if_neg hor, if_neg (by simp [hhas])]⟩
    have HA := Lib.hid hhas
    clear hok HR HS hag haf hafn hor hhas
    go_enter Try.func79, Try.ntmps79
    go_wp2_with (go_at_call 92; (with_reducible refine (has_is _ _ _ _ false HA.out _ H.out).mono ?_); rintro e w' ⟨rfl, rfl⟩)
    go_ret
    refine ⟨ret_i E.out.1.symm, S, ?_, Step.refl _ _⟩
    rw [E.out.2]; exact H.out
end Go.Proofs.Ytnljjdfajmjdjaa
