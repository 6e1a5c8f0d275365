/-
  The call lift of package rbtree: a turn. Conditions: the tree lies in memory.
-/
import Derived.Test.YtfbbmpmgceghfaaRbSide
namespace Go.Proofs.Ytfbbmpmgceghfaa
open Go.RowKit
set_option maxRecDepth 100000

theorem bit_not (s : Bool) : bit (!s) = 1 - bit s := by cases s <;> rfl
theorem liftM_is {m : Nat → Nd} {n tp : Nat} {z : Z} {L : List (Nat × Key)} {s : Bool} {i : Nat} {k : Key} {c : Bool} {o : T} {j : Nat} {kj : Key} {cj : Bool} {x y : T} (h : Rep m n tp (.st s i k c o z) (br s j kj cj x y) L) :
    (m j).up = i ∧ sideM m j = s ∧ (m i).up = z.par ∧ sideM m i = z.side ∧ (m j).kid (!s) = y.root ∧ j < n ∧ i < n ∧ z.par < n ∧ y.root < n ∧ i ≠ 0 ∧ j ≠ 0 ∧ liftM m j = hangM (hangM (hangM m y.root i s) i j (!s)) j z.par z.side := by
  have hside : sideM m j = s := by have := h.side (by cases s <;> simp [br]); simpa [Z.side] using this
  have hup : (m j).up = i := by have := h.sub.root_up (by cases s <;> simp [br]); simpa [Z.par] using this
  have hside2 : sideM m i = z.side := by have := h.upw.side (by cases s <;> simp [br]); simpa using this
  have hup2 : (m i).up = z.par := by have := h.upw.sub.root_up (by cases s <;> simp [br]); simpa using this
  have hkid : (m j).kid (!s) = y.root := by
    have := h.sub
    cases s
    · have e := this.1; simp [Nd.kid, e]
    · have e := this.1; simp [Nd.kid, e]
  have hj := h.posT (i := j) (by rw [its_br]; cases s <;> simp)
  have hi := h.posZ (i := i) (by simp [Z.ids])
  have hn : 0 < n := by omega
  refine ⟨hup, hside, hup2, hside2, hkid, hj.2, hi.2, h.upw.parLt hn, ?_, by omega, by omega, by unfold liftM; simp only [hup, hside, hup2, hside2, hkid]⟩
  have h' := h
  rw [show s = !(!s) by simp, br_not] at h'
  exact h'.down.rootLt hn


set_option maxHeartbeats 1000000 in
theorem lift_any {g b cap n tp : Nat} {pa : Value} {m : Nat → Nd} {z : Z} {L : List (Nat × Key)} {s : Bool} {i : Nat} {k : Key} {c : Bool} {o : T} {j : Nat} {kj : Key} {cj : Bool} {x y : T} (w : World) (t : Tr w g b cap pa n tp m) (hr : Rep m n tp (.st s i k c o z) (br s j kj cj x y) L) :
    Calls Try.prog 45 #[.pointer (some ⟨g, 0, none⟩), .int .i64 (j : Int)] w fun e w' => (∃ v, e = .returned v) ∧ Tr w' g b cap pa n (hangT tp j z.par) (liftM m j) ∧ Keep (Mine g b) w w' := by
  obtain ⟨h1, h2, h3, h4, h5, hj, hi, hp, hy, hi0, hj0, hM⟩ := liftM_is hr
  have HT : Hid (hangT (hangT (hangT tp y.root i) i j) j z.par = hangT tp j z.par) := Lib.hid (by rw [show hangT tp y.root i = tp from if_neg hi0, show hangT tp i j = tp from if_neg hj0])
  have HM := Lib.hid hM
  clear hr hM
  cases s
  · generalize z.par = zp at *
    generalize z.side = zs at *
    generalize y.root = yr at *
    have c1 := t.st.cell 1
    have c2 : w.cell? ⟨b, j * 6 + 2, none⟩ = some (.int .i64 ((m j).up : Int)) := t.cell hj (by decide)
    rw [h1] at c2
    obtain ⟨hc1, hc2⟩ := t.capB
    have hjc : j < cap := by omega
    have e2 : Hid (∀ w', Tr w' g b cap pa n tp m → Calls Try.prog 44 #[.pointer (some ⟨g, 0, none⟩), .int .i64 (j : Int)] w' fun e w'' => e = .returned (.int .i64 0) ∧ ∃ k, w'' = w'.drewN k) := Lib.hid (fun w' t' => by have := side_any j w' t' hj (by rw [h1]; exact hi); rwa [h2] at this)
    have e4 : Hid (∀ w', Tr w' g b cap pa n tp m → Calls Try.prog 44 #[.pointer (some ⟨g, 0, none⟩), .int .i64 (i : Int)] w' fun e w'' => e = .returned (.int .i64 (bit zs)) ∧ ∃ k, w'' = w'.drewN k) := Lib.hid (fun w' t' => by have := side_any i w' t' hi (by rw [h3]; exact hp); rwa [h4] at this)
    have TT := Lib.hid t; clear t
    go_enter Try.func45, Try.ntmps45
    go_wp2
    go_quiet ((go_at_call 44; exact Calls.quiet_of (e2.out _ (TT.out.drewN _))))
    have T1 := Lib.hid (TT.out.drewN nq)
    have K1 := Lib.hid ((Keep.refl (Mine g b) w).drewN nq)
    clear TT e2 c1 c2
    generalize w.drewN nq = w1 at *
    have c1 := T1.out.st.cell 1
    have c3 : w1.cell? ⟨b, i * 6 + 2, none⟩ = some (.int .i64 ((m i).up : Int)) := T1.out.cell hi (by decide)
    rw [h3] at c3
    have hic : i < cap := by omega
    go_wp2
    go_quiet ((go_at_call 44; exact Calls.quiet_of (e4.out _ (T1.out.drewN _))))
    have T2 := Lib.hid (T1.out.drewN nq)
    have K2 := Lib.hid (K1.out.drewN nq)
    clear T1 K1 e4 c1 c3
    generalize w1.drewN nq = w2 at *
    have c1 := T2.out.st.cell 1
    have ck : w2.cell? ⟨b, j * 6 + 4, none⟩ = some (.int .i64 (yr : Int)) := by rw [T2.out.cell hj (j := 4) (by decide), ← h5]; rfl
    go_wp2_with fail
    refine (hang_any yr i false w2 T2.out hy hi).mono ?_
    rintro e w3 ⟨⟨v3, rfl⟩, t3, k3⟩
    have T3 := Lib.hid t3; have K3 := Lib.hid (K2.out.trans k3); clear t3 k3 T2 K2 c1 ck
    go_wp2_with fail
    refine (hang_any i j (!false) w3 T3.out hi hj).mono ?_
    rintro e w4 ⟨⟨v4, rfl⟩, t4, k4⟩
    have T4 := Lib.hid t4; have K4 := Lib.hid (K3.out.trans k4); clear t4 k4 T3 K3
    go_wp2_with fail
    refine (hang_any j zp zs w4 T4.out hj hp).mono ?_
    rintro e w5 ⟨⟨v5, rfl⟩, t5, k5⟩
    have T5 := Lib.hid t5; have K5 := Lib.hid (K4.out.trans k5); clear t5 k5 T4 K4
    go_wp2
    go_end0
    refine ⟨⟨_, rfl⟩, ?_, K5.out⟩
    rw [HM.out, ← HT.out]
    exact T5.out
  · generalize z.par = zp at *
    generalize z.side = zs at *
    generalize y.root = yr at *
    have c1 := t.st.cell 1
    have c2 : w.cell? ⟨b, j * 6 + 2, none⟩ = some (.int .i64 ((m j).up : Int)) := t.cell hj (by decide)
    rw [h1] at c2
    obtain ⟨hc1, hc2⟩ := t.capB
    have hjc : j < cap := by omega
    have e2 : Hid (∀ w', Tr w' g b cap pa n tp m → Calls Try.prog 44 #[.pointer (some ⟨g, 0, none⟩), .int .i64 (j : Int)] w' fun e w'' => e = .returned (.int .i64 1) ∧ ∃ k, w'' = w'.drewN k) := Lib.hid (fun w' t' => by have := side_any j w' t' hj (by rw [h1]; exact hi); rwa [h2] at this)
    have e4 : Hid (∀ w', Tr w' g b cap pa n tp m → Calls Try.prog 44 #[.pointer (some ⟨g, 0, none⟩), .int .i64 (i : Int)] w' fun e w'' => e = .returned (.int .i64 (bit zs)) ∧ ∃ k, w'' = w'.drewN k) := Lib.hid (fun w' t' => by have := side_any i w' t' hi (by rw [h3]; exact hp); rwa [h4] at this)
    have TT := Lib.hid t; clear t
    go_enter Try.func45, Try.ntmps45
    go_wp2
    go_quiet ((go_at_call 44; exact Calls.quiet_of (e2.out _ (TT.out.drewN _))))
    have T1 := Lib.hid (TT.out.drewN nq)
    have K1 := Lib.hid ((Keep.refl (Mine g b) w).drewN nq)
    clear TT e2 c1 c2
    generalize w.drewN nq = w1 at *
    have c1 := T1.out.st.cell 1
    have c3 : w1.cell? ⟨b, i * 6 + 2, none⟩ = some (.int .i64 ((m i).up : Int)) := T1.out.cell hi (by decide)
    rw [h3] at c3
    have hic : i < cap := by omega
    go_wp2
    go_quiet ((go_at_call 44; exact Calls.quiet_of (e4.out _ (T1.out.drewN _))))
    have T2 := Lib.hid (T1.out.drewN nq)
    have K2 := Lib.hid (K1.out.drewN nq)
    clear T1 K1 e4 c1 c3
    generalize w1.drewN nq = w2 at *
    have c1 := T2.out.st.cell 1
    have ck : w2.cell? ⟨b, j * 6 + 3, none⟩ = some (.int .i64 (yr : Int)) := by rw [T2.out.cell hj (j := 3) (by decide), ← h5]; rfl
    go_wp2_with fail
    refine (hang_any yr i true w2 T2.out hy hi).mono ?_
    rintro e w3 ⟨⟨v3, rfl⟩, t3, k3⟩
    have T3 := Lib.hid t3; have K3 := Lib.hid (K2.out.trans k3); clear t3 k3 T2 K2 c1 ck
    go_wp2_with fail
    refine (hang_any i j (!true) w3 T3.out hi hj).mono ?_
    rintro e w4 ⟨⟨v4, rfl⟩, t4, k4⟩
    have T4 := Lib.hid t4; have K4 := Lib.hid (K3.out.trans k4); clear t4 k4 T3 K3
    go_wp2_with fail
    refine (hang_any j zp zs w4 T4.out hj hp).mono ?_
    rintro e w5 ⟨⟨v5, rfl⟩, t5, k5⟩
    have T5 := Lib.hid t5; have K5 := Lib.hid (K4.out.trans k5); clear t5 k5 T4 K4
    go_wp2
    go_end0
    refine ⟨⟨_, rfl⟩, ?_, K5.out⟩
    rw [HM.out, ← HT.out]
    exact T5.out
end Go.Proofs.Ytfbbmpmgceghfaa
