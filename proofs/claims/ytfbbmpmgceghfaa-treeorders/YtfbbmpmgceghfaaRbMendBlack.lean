/-
  The call mendBlack of package rbtree. Conditions: the tree lies in memory, and is red-black but for the one way that has a black one less.
-/
import Derived.Test.YtfbbmpmgceghfaaRbMendRed
namespace Go.Proofs.Ytfbbmpmgceghfaa
open Go.RowKit
set_option maxRecDepth 100000

theorem Rep.rootRed {m : Nat → Nd} {n tp : Nat} {z : Z} {t : T} {L : List (Nat × Key)} (h : Rep m n tp z t L) : (m t.root).red = t.col := by
  cases t with
  | nil => rw [T.root, h.m0]; rfl
  | nd i k c l r => have := h.sub.1; rw [T.root, this]; rfl
theorem Less.facts {m : Nat → Nd} {n tp : Nat} {s : Bool} {a : Nat} {ka : Key} {ca : Bool} {e : Nat} {kb : Key} {cb : Bool} {near far : T} {z : Z} {t : T} {L : List (Nat × Key)} {N : Nat} (h : Less m n tp (.st s a ka ca (br s e kb cb near far) z) t L N) :
    a < n ∧ e < n ∧ near.root < n ∧ far.root < n ∧ (m a).kid (!s) = e ∧ (m e).kid s = near.root ∧ (m e).kid (!s) = far.root ∧ (m e).red = cb ∧ (m near.root).red = near.col ∧ (m far.root).red = far.col ∧ (m a).red = ca ∧ (m a).up = z.par ∧ sideM m a = z.side ∧ z.par < n ∧ 0 < a := by
  have h0 := h.rep
  have ha := h0.posZ (i := a) (by simp [Z.ids])
  have hn : 0 < n := by omega
  have h1 := h0.turn
  have h2 := h1.down
  have h3 := h2.turn
  have h4 := h0.upw
  have ma := h0.up.1
  have me : m e = if s then ⟨kb, a, far.root, near.root, cb⟩ else ⟨kb, a, near.root, far.root, cb⟩ := by have := h1.sub; cases s; exact this.1; exact this.1
  have h5 := h1.rootRed; rw [root_br, col_br] at h5
  have h6 := h4.rootRed; rw [root_br, col_br] at h6
  have h7 := h4.sub.root_up (by cases s <;> simp [br]); rw [root_br] at h7
  have h8 := h4.side (by cases s <;> simp [br]); rw [root_br] at h8
  have h9 := h1.rootLt hn; rw [root_br] at h9
  refine ⟨ha.2, h9, h2.rootLt hn, h3.rootLt hn, ?_, ?_, ?_, h5, h2.rootRed, h3.rootRed, h6, h7, h8, h4.parLt hn, ha.1⟩
  · rw [ma]; cases s <;> simp [Nd.kid]
  · rw [me]; cases s <;> simp [Nd.kid]
  · rw [me]; cases s <;> simp [Nd.kid]
theorem Tr.klo {w : World} {g b cap n tp : Nat} {pa : Value} {m : Nat → Nd} (t : Tr w g b cap pa n tp m) {i : Nat} (hi : i < n) : w.cell? ⟨b, i * 6 + 3, none⟩ = some (.int .i64 ((m i).kid false : Int)) := t.cell hi (by decide)
theorem Tr.khi {w : World} {g b cap n tp : Nat} {pa : Value} {m : Nat → Nd} (t : Tr w g b cap pa n tp m) {i : Nat} (hi : i < n) : w.cell? ⟨b, i * 6 + 4, none⟩ = some (.int .i64 ((m i).kid true : Int)) := t.cell hi (by decide)
theorem Tr.kred {w : World} {g b cap n tp : Nat} {pa : Value} {m : Nat → Nd} (t : Tr w g b cap pa n tp m) {i : Nat} (hi : i < n) : w.cell? ⟨b, i * 6 + 5, none⟩ = some (.bool (m i).red) := t.cell hi (by decide)
theorem Tr.kupc {w : World} {g b cap n tp : Nat} {pa : Value} {m : Nat → Nd} (t : Tr w g b cap pa n tp m) {i : Nat} (hi : i < n) : w.cell? ⟨b, i * 6 + 2, none⟩ = some (.int .i64 ((m i).up : Int)) := t.cell hi (by decide)
theorem Tr.paint {w : World} {g b cap n tp : Nat} {pa : Value} {m : Nat → Nd} (t : Tr w g b cap pa n tp m) (i : Nat) (c : Bool) : Tr (w.setCell ⟨b, i * 6 + 5, none⟩ (.bool c)) g b cap pa n tp (Proofs.Ytfbbmpmgceghfaa.paint m i c) := t.put (i := i) (cells_red _ c) (by decide)
theorem Keep.mine {w w' : World} {g b : Nat} (h : Keep (Mine g b) w w') (i : Nat) (v : Value) : Keep (Mine g b) w (w'.setCell ⟨b, i, none⟩ v) := h.setCell (.inl (.inr rfl)) v

theorem paint_up (m : Nat → Nd) (i q : Nat) (c : Bool) : (paint m i c q).up = (m q).up := by
  unfold paint upd; split
  · next h => subst h; rfl
  · rfl
theorem paint_hi (m : Nat → Nd) (i q : Nat) (c : Bool) : (paint m i c q).hi = (m q).hi := by
  unfold paint upd; split
  · next h => subst h; rfl
  · rfl
theorem paint_side (m : Nat → Nd) (i q : Nat) (c : Bool) : sideM (paint m i c) q = sideM m q := by
  unfold sideM; rw [paint_up, paint_hi]

set_option maxHeartbeats 4000000 in
set_option maxRecDepth 100000 in
theorem mendBlack_any {g b cap n tp : Nat} {pa : Value} {m : Nat → Nd} {z : Z} {tt : T} {L : List (Nat × Key)} {N : Nat} (w : World) (t : Tr w g b cap pa n tp m) (hr : Less m n tp z tt L N) :
    Calls Try.prog 48 #[.pointer (some ⟨g, 0, none⟩), .int .i64 (z.par : Int), .int .i64 (bit z.side)] w fun e w' => (∃ v, e = .returned v) ∧ ∃ m' tp', Tr w' g b cap pa n tp' m' ∧ (∃ t', RepB m' n tp' .top t' L) ∧ Keep (Mine g b) w w' := by
  obtain ⟨hc1, hc2⟩ := t.capB
  have TT := Lib.hid t; have HR := Lib.hid hr; clear t hr
  go_enter Try.func48, Try.ntmps48
  go_wp2
  go_step3
  go_wp2
  go_step3
  go_wp2
  go_loopg [1, 2] (rank z) (fun j a1 a2 wr => ∃ (m : Nat → Nd) (tp : Nat) (z : Z) (tt : T) (N : Nat), a1 = .int .i64 (z.par : Int) ∧ a2 = .int .i64 (bit z.side) ∧ Tr wr g b cap pa n tp m ∧ Less m n tp z tt L N ∧ rank z ≤ j ∧ Keep (Mine g b) w wr)
  case atStart => exact ⟨m, tp, z, tt, N, rfl, rfl, TT.out, HR.out, Nat.le_refl _, Keep.refl _ _⟩
  case round =>
    clear TT HR
    obtain ⟨m, tp, z, tt, N, rfl, rfl, ht, hR, hd, hK⟩ := hrel
    have HT := Lib.hid ht; have HK := Lib.hid hK; clear ht hK
    cases z with
    | top =>
      have HD := Lib.hid hR.done
      clear hR hd
      simp only [Z.par]
      go_wp2
      try rw [Exit.noGoto_normal]
      go_end0
      exact ⟨⟨_, rfl⟩, _, _, HT.out, ⟨_, HD.out⟩, HK.out⟩
    | st s a ka ca B z =>
      obtain ⟨e, kb, cb, near, far, rfl, hca⟩ := hR.open
      obtain ⟨hA, hE, hNr, hFr, k1, k2, k3, k4, k5, k6, k7, k8, k9, hzp, hapos⟩ := hR.facts
      simp only [Z.par, Z.side]
      cases cb with
      | true =>
        cases s
        · skip
          obtain rfl : ca = false := by cases ca; rfl; exact absurd (hca rfl) (by simp)
          have HLIFT := Lib.hid hR.red.1
          have HN := Lib.hid hR.red.2
          have hrk : 3 ≤ gk := by have := hd; simp only [rank, col_br, if_true] at this; exact this
          have hrk2 : rank (.st false a ka true near (.st false e kb false far z)) ≤ 2 := by
            have : near.col = false := (hR.red.2.fits.1 rfl).2
            simp only [rank, this, Bool.false_eq_true, if_false, if_true]; split <;> (try split) <;> omega
          have k4 : (m e).red = true := k4
          clear hR hd
          have c1 := HT.out.st.cell 1
          have cE := HT.out.khi hA; rw [show (m a).kid true = e from k1] at cE
          have cN := HT.out.klo hE; rw [k2] at cN
          have cF := HT.out.khi hE; rw [show (m e).kid true = far.root from k3] at cF
          have ha0 : ((a : Int) == 0) = false := by rw [beq_eq_false_iff_ne]; omega
          have hac : a < cap := by omega
          have hec : e < cap := by omega
          simp only [bit_false] at *
          go_wp2
          go_quiet (fail)
          have T2 := Lib.hid (HT.out.drewN nq)
          have K2 := Lib.hid (HK.out.drewN nq)
          clear HT HK c1 cE cN cF
          generalize wr.drewN nq = w2 at *
          have c1 := T2.out.st.cell 1
          have cr := T2.out.kred hE; rw [k4] at cr
          have cf := T2.out.kred hFr; rw [k6] at cf
          have cn := T2.out.kred hNr; rw [k5] at cn
          have ca' := T2.out.kred hA; rw [k7] at ca'
          have cu := T2.out.kupc hA; rw [k8] at cu
          have hfc : far.root < cap := by omega
          have hnc : near.root < cap := by omega
          go_wp2_with fail
          clear c1 cr cf cn ca' cu
          go_wp2_with fail
          refine (lift_any w2 T2.out HLIFT.out).mono ?_
          rintro e' w5 ⟨⟨v5, rfl⟩, t5, k5⟩
          have T5 := Lib.hid t5; have K5 := Lib.hid (K2.out.trans k5); clear t5 k5 T2 K2 HLIFT
          have c1 := T5.out.st.cell 1
          have d1 := T5.out.kred (i := e) hE
          have f1 := T5.out.free (e * 6 + 5)
          have T6 := Lib.hid (T5.out.paint e false)
          have d2 := T6.out.kred (i := a) hA
          have f2 := T6.out.free (a * 6 + 5)
          have T7 := Lib.hid (T6.out.paint a true)
          have K7 := Lib.hid ((K5.out.mine (e * 6 + 5) (.bool false)).mine (a * 6 + 5) (.bool true))
          go_wp2
          go_region
          go_wp2
          go_roundg (gk - 1)
          case measure => omega
          case rel => exact ⟨_, _, _, _, _, rfl, rfl, T7.out.drew, HN.out, by omega, K7.out.drew⟩
        · skip
          obtain rfl : ca = false := by cases ca; rfl; exact absurd (hca rfl) (by simp)
          have HLIFT := Lib.hid hR.red.1
          have HN := Lib.hid hR.red.2
          have hrk : 3 ≤ gk := by have := hd; simp only [rank, col_br, if_true] at this; exact this
          have hrk2 : rank (.st true a ka true near (.st true e kb false far z)) ≤ 2 := by
            have : near.col = false := (hR.red.2.fits.1 rfl).2
            simp only [rank, this, Bool.false_eq_true, if_false, if_true]; split <;> (try split) <;> omega
          have k4 : (m e).red = true := k4
          clear hR hd
          have c1 := HT.out.st.cell 1
          have cE := HT.out.klo hA; rw [show (m a).kid false = e from k1] at cE
          have cN := HT.out.khi hE; rw [k2] at cN
          have cF := HT.out.klo hE; rw [show (m e).kid false = far.root from k3] at cF
          have ha0 : ((a : Int) == 0) = false := by rw [beq_eq_false_iff_ne]; omega
          have hac : a < cap := by omega
          have hec : e < cap := by omega
          simp only [bit_true] at *
          go_wp2
          go_quiet (fail)
          have T2 := Lib.hid (HT.out.drewN nq)
          have K2 := Lib.hid (HK.out.drewN nq)
          clear HT HK c1 cE cN cF
          generalize wr.drewN nq = w2 at *
          have c1 := T2.out.st.cell 1
          have cr := T2.out.kred hE; rw [k4] at cr
          have cf := T2.out.kred hFr; rw [k6] at cf
          have cn := T2.out.kred hNr; rw [k5] at cn
          have ca' := T2.out.kred hA; rw [k7] at ca'
          have cu := T2.out.kupc hA; rw [k8] at cu
          have hfc : far.root < cap := by omega
          have hnc : near.root < cap := by omega
          go_wp2_with fail
          clear c1 cr cf cn ca' cu
          go_wp2_with fail
          refine (lift_any w2 T2.out HLIFT.out).mono ?_
          rintro e' w5 ⟨⟨v5, rfl⟩, t5, k5⟩
          have T5 := Lib.hid t5; have K5 := Lib.hid (K2.out.trans k5); clear t5 k5 T2 K2 HLIFT
          have c1 := T5.out.st.cell 1
          have d1 := T5.out.kred (i := e) hE
          have f1 := T5.out.free (e * 6 + 5)
          have T6 := Lib.hid (T5.out.paint e false)
          have d2 := T6.out.kred (i := a) hA
          have f2 := T6.out.free (a * 6 + 5)
          have T7 := Lib.hid (T6.out.paint a true)
          have K7 := Lib.hid ((K5.out.mine (e * 6 + 5) (.bool false)).mine (a * 6 + 5) (.bool true))
          go_wp2
          go_region
          go_wp2
          go_roundg (gk - 1)
          case measure => omega
          case rel => exact ⟨_, _, _, _, _, rfl, rfl, T7.out.drew, HN.out, by omega, K7.out.drew⟩
      | false =>
        clear hca
        cases hfc0 : far.col with
        | true =>
          cases s
          · skip
            obtain ⟨fi, fk, fx, fy, rfl⟩ : ∃ fi fk fx fy, far = .nd fi fk true fx fy := by
              cases far with
              | nil => simp [T.col] at hfc0
              | nd fi fk fc fx fy => obtain rfl : fc = true := hfc0; exact ⟨fi, fk, fx, fy, rfl⟩
            have HLIFT := Lib.hid hR.farRed.1
            have HA5 := Lib.hid hR.farRed.2.1
            have HQ := Lib.hid hR.farRed.2.2
            have k6 : (m (T.nd fi fk true fx fy).root).red = true := k6
            obtain ⟨far, hfar⟩ : ∃ far : T, far = T.nd fi fk true fx fy := ⟨_, rfl⟩
            have hfi : fi = far.root := by rw [hfar]; rfl
            rw [hfi] at HQ
            simp only [← hfar] at *
            clear hR hd hfar hfi hfc0
            have c1 := HT.out.st.cell 1
            have cE := HT.out.khi hA; rw [show (m a).kid true = e from k1] at cE
            have cN := HT.out.klo hE; rw [k2] at cN
            have cF := HT.out.khi hE; rw [show (m e).kid true = far.root from k3] at cF
            have ha0 : ((a : Int) == 0) = false := by rw [beq_eq_false_iff_ne]; omega
            have hac : a < cap := by omega
            have hec : e < cap := by omega
            simp only [bit_false] at *
            go_wp2
            go_quiet (fail)
            have T2 := Lib.hid (HT.out.drewN nq)
            have K2 := Lib.hid (HK.out.drewN nq)
            clear HT HK c1 cE cN cF
            generalize wr.drewN nq = w2 at *
            have c1 := T2.out.st.cell 1
            have cr := T2.out.kred hE; rw [k4] at cr
            have cf := T2.out.kred hFr; rw [k6] at cf
            have cn := T2.out.kred hNr; rw [k5] at cn
            have ca' := T2.out.kred hA; rw [k7] at ca'
            have cu := T2.out.kupc hA; rw [k8] at cu
            have hfc : far.root < cap := by omega
            have hnc : near.root < cap := by omega
            go_wp2_with fail
            clear c1 cr cf cn ca' cu
            go_wp2_with fail
            refine (lift_any w2 T2.out HLIFT.out).mono ?_
            rintro e' w5 ⟨⟨v5, rfl⟩, t5, k5⟩
            have T5 := Lib.hid t5; have K5 := Lib.hid (K2.out.trans k5); clear t5 k5 T2 K2 HLIFT
            have c1 := T5.out.st.cell 1
            have d0 := T5.out.kred (i := a) hA
            rw [HA5.out] at d0
            have d1 := T5.out.kred (i := e) hE
            have f1 := T5.out.free (e * 6 + 5)
            have T6 := Lib.hid (T5.out.paint e ca)
            have K6 := Lib.hid (K5.out.mine (e * 6 + 5) (.bool ca))
            go_wp2
            go_region
            have T6' := Lib.hid T6.out.drew
            have K6' := Lib.hid K6.out.drew
            clear c1 d0 d1 f1 T5 K5 HA5 T6 K6
            generalize (w5.setCell ⟨b, e * 6 + 5, none⟩ (.bool ca)).drew = w6 at *
            have T5 := T6'; have K5 := K6'; clear T6' K6'
            generalize paint (liftM m e) e ca = m5 at *
            have c1 := T5.out.st.cell 1
            have d1 := T5.out.kred (i := a) hA
            have f1 := T5.out.free (a * 6 + 5)
            have T6 := Lib.hid (T5.out.paint a false)
            have d2 := T6.out.kred (i := far.root) hFr
            have f2 := T6.out.free (far.root * 6 + 5)
            have T7 := Lib.hid (T6.out.paint far.root false)
            have K7 := Lib.hid ((K5.out.mine (a * 6 + 5) (.bool false)).mine (far.root * 6 + 5) (.bool false))
            go_wp2
            go_region
            go_wp2
            try rw [Exit.noGoto_normal]
            go_end0
            exact ⟨⟨_, rfl⟩, _, _, T7.out.drew, HQ.out, K7.out.drew⟩
          · skip
            obtain ⟨fi, fk, fx, fy, rfl⟩ : ∃ fi fk fx fy, far = .nd fi fk true fx fy := by
              cases far with
              | nil => simp [T.col] at hfc0
              | nd fi fk fc fx fy => obtain rfl : fc = true := hfc0; exact ⟨fi, fk, fx, fy, rfl⟩
            have HLIFT := Lib.hid hR.farRed.1
            have HA5 := Lib.hid hR.farRed.2.1
            have HQ := Lib.hid hR.farRed.2.2
            have k6 : (m (T.nd fi fk true fx fy).root).red = true := k6
            obtain ⟨far, hfar⟩ : ∃ far : T, far = T.nd fi fk true fx fy := ⟨_, rfl⟩
            have hfi : fi = far.root := by rw [hfar]; rfl
            rw [hfi] at HQ
            simp only [← hfar] at *
            clear hR hd hfar hfi hfc0
            have c1 := HT.out.st.cell 1
            have cE := HT.out.klo hA; rw [show (m a).kid false = e from k1] at cE
            have cN := HT.out.khi hE; rw [k2] at cN
            have cF := HT.out.klo hE; rw [show (m e).kid false = far.root from k3] at cF
            have ha0 : ((a : Int) == 0) = false := by rw [beq_eq_false_iff_ne]; omega
            have hac : a < cap := by omega
            have hec : e < cap := by omega
            simp only [bit_true] at *
            go_wp2
            go_quiet (fail)
            have T2 := Lib.hid (HT.out.drewN nq)
            have K2 := Lib.hid (HK.out.drewN nq)
            clear HT HK c1 cE cN cF
            generalize wr.drewN nq = w2 at *
            have c1 := T2.out.st.cell 1
            have cr := T2.out.kred hE; rw [k4] at cr
            have cf := T2.out.kred hFr; rw [k6] at cf
            have cn := T2.out.kred hNr; rw [k5] at cn
            have ca' := T2.out.kred hA; rw [k7] at ca'
            have cu := T2.out.kupc hA; rw [k8] at cu
            have hfc : far.root < cap := by omega
            have hnc : near.root < cap := by omega
            go_wp2_with fail
            clear c1 cr cf cn ca' cu
            go_wp2_with fail
            refine (lift_any w2 T2.out HLIFT.out).mono ?_
            rintro e' w5 ⟨⟨v5, rfl⟩, t5, k5⟩
            have T5 := Lib.hid t5; have K5 := Lib.hid (K2.out.trans k5); clear t5 k5 T2 K2 HLIFT
            have c1 := T5.out.st.cell 1
            have d0 := T5.out.kred (i := a) hA
            rw [HA5.out] at d0
            have d1 := T5.out.kred (i := e) hE
            have f1 := T5.out.free (e * 6 + 5)
            have T6 := Lib.hid (T5.out.paint e ca)
            have K6 := Lib.hid (K5.out.mine (e * 6 + 5) (.bool ca))
            go_wp2
            go_region
            have T6' := Lib.hid T6.out.drew
            have K6' := Lib.hid K6.out.drew
            clear c1 d0 d1 f1 T5 K5 HA5 T6 K6
            generalize (w5.setCell ⟨b, e * 6 + 5, none⟩ (.bool ca)).drew = w6 at *
            have T5 := T6'; have K5 := K6'; clear T6' K6'
            generalize paint (liftM m e) e ca = m5 at *
            have c1 := T5.out.st.cell 1
            have d1 := T5.out.kred (i := a) hA
            have f1 := T5.out.free (a * 6 + 5)
            have T6 := Lib.hid (T5.out.paint a false)
            have d2 := T6.out.kred (i := far.root) hFr
            have f2 := T6.out.free (far.root * 6 + 5)
            have T7 := Lib.hid (T6.out.paint far.root false)
            have K7 := Lib.hid ((K5.out.mine (a * 6 + 5) (.bool false)).mine (far.root * 6 + 5) (.bool false))
            go_wp2
            go_region
            go_wp2
            try rw [Exit.noGoto_normal]
            go_end0
            exact ⟨⟨_, rfl⟩, _, _, T7.out.drew, HQ.out, K7.out.drew⟩
        | false =>
          cases hnc0 : near.col with
          | true =>
            cases s
            · skip
              obtain ⟨ci, ck, cc, p, q, rfl⟩ := T.as_br false (T.red_ne hnc0)
              obtain rfl : cc = true := by simpa using hnc0
              have HLIFT := Lib.hid (hR.nearRed hfc0).1
              have HN := Lib.hid (hR.nearRed hfc0).2
              have hrk : 2 ≤ gk := by have := hd; simp only [rank, col_br, kidc_far, kidc_near, hfc0, Bool.false_eq_true, if_false, if_true] at this; exact this
              have hrk2 : rank (.st false a ka ca (br false ci ck false p (br false e kb true q far)) z) ≤ 1 := by simp only [rank, col_br, kidc_far, Bool.false_eq_true, if_false, if_true]; omega
              simp only [root_br] at k2 hNr k5
              have k5 : (m ci).red = true := by simpa using k5
              have k6 : (m far.root).red = false := by rw [k6]; exact hfc0
              clear hR hd hfc0
              have c1 := HT.out.st.cell 1
              have cE := HT.out.khi hA; rw [show (m a).kid true = e from k1] at cE
              have cN := HT.out.klo hE; rw [k2] at cN
              have cF := HT.out.khi hE; rw [show (m e).kid true = far.root from k3] at cF
              have ha0 : ((a : Int) == 0) = false := by rw [beq_eq_false_iff_ne]; omega
              have hac : a < cap := by omega
              have hec : e < cap := by omega
              simp only [bit_false] at *
              go_wp2
              go_quiet (fail)
              have T2 := Lib.hid (HT.out.drewN nq)
              have K2 := Lib.hid (HK.out.drewN nq)
              clear HT HK c1 cE cN cF
              generalize wr.drewN nq = w2 at *
              have c1 := T2.out.st.cell 1
              have cr := T2.out.kred hE; rw [k4] at cr
              have cf := T2.out.kred hFr; rw [k6] at cf
              have cn := T2.out.kred hNr; rw [k5] at cn
              have ca' := T2.out.kred hA; rw [k7] at ca'
              have cu := T2.out.kupc hA; rw [k8] at cu
              have hfc : far.root < cap := by omega
              have hnc : ci < cap := by omega
              go_wp2_with fail
              clear c1 cr cf cn ca' cu
              go_wp2_with fail
              refine (lift_any w2 T2.out HLIFT.out).mono ?_
              rintro e' w5 ⟨⟨v5, rfl⟩, t5, k5⟩
              have T5 := Lib.hid t5; have K5 := Lib.hid (K2.out.trans k5); clear t5 k5 T2 K2 HLIFT
              have c1 := T5.out.st.cell 1
              have d1 := T5.out.kred (i := ci) hNr
              have f1 := T5.out.free (ci * 6 + 5)
              have T6 := Lib.hid (T5.out.paint ci false)
              have d2 := T6.out.kred (i := e) hE
              have f2 := T6.out.free (e * 6 + 5)
              have T7 := Lib.hid (T6.out.paint e true)
              have K7 := Lib.hid ((K5.out.mine (ci * 6 + 5) (.bool false)).mine (e * 6 + 5) (.bool true))
              go_wp2
              go_region
              go_wp2
              go_roundg (gk - 1)
              case measure => omega
              case rel => exact ⟨_, _, _, _, _, rfl, rfl, T7.out.drew, HN.out, by omega, K7.out.drew⟩
            · skip
              obtain ⟨ci, ck, cc, p, q, rfl⟩ := T.as_br true (T.red_ne hnc0)
              obtain rfl : cc = true := by simpa using hnc0
              have HLIFT := Lib.hid (hR.nearRed hfc0).1
              have HN := Lib.hid (hR.nearRed hfc0).2
              have hrk : 2 ≤ gk := by have := hd; simp only [rank, col_br, kidc_far, kidc_near, hfc0, Bool.false_eq_true, if_false, if_true] at this; exact this
              have hrk2 : rank (.st true a ka ca (br true ci ck false p (br true e kb true q far)) z) ≤ 1 := by simp only [rank, col_br, kidc_far, Bool.false_eq_true, if_false, if_true]; omega
              simp only [root_br] at k2 hNr k5
              have k5 : (m ci).red = true := by simpa using k5
              have k6 : (m far.root).red = false := by rw [k6]; exact hfc0
              clear hR hd hfc0
              have c1 := HT.out.st.cell 1
              have cE := HT.out.klo hA; rw [show (m a).kid false = e from k1] at cE
              have cN := HT.out.khi hE; rw [k2] at cN
              have cF := HT.out.klo hE; rw [show (m e).kid false = far.root from k3] at cF
              have ha0 : ((a : Int) == 0) = false := by rw [beq_eq_false_iff_ne]; omega
              have hac : a < cap := by omega
              have hec : e < cap := by omega
              simp only [bit_true] at *
              go_wp2
              go_quiet (fail)
              have T2 := Lib.hid (HT.out.drewN nq)
              have K2 := Lib.hid (HK.out.drewN nq)
              clear HT HK c1 cE cN cF
              generalize wr.drewN nq = w2 at *
              have c1 := T2.out.st.cell 1
              have cr := T2.out.kred hE; rw [k4] at cr
              have cf := T2.out.kred hFr; rw [k6] at cf
              have cn := T2.out.kred hNr; rw [k5] at cn
              have ca' := T2.out.kred hA; rw [k7] at ca'
              have cu := T2.out.kupc hA; rw [k8] at cu
              have hfc : far.root < cap := by omega
              have hnc : ci < cap := by omega
              go_wp2_with fail
              clear c1 cr cf cn ca' cu
              go_wp2_with fail
              refine (lift_any w2 T2.out HLIFT.out).mono ?_
              rintro e' w5 ⟨⟨v5, rfl⟩, t5, k5⟩
              have T5 := Lib.hid t5; have K5 := Lib.hid (K2.out.trans k5); clear t5 k5 T2 K2 HLIFT
              have c1 := T5.out.st.cell 1
              have d1 := T5.out.kred (i := ci) hNr
              have f1 := T5.out.free (ci * 6 + 5)
              have T6 := Lib.hid (T5.out.paint ci false)
              have d2 := T6.out.kred (i := e) hE
              have f2 := T6.out.free (e * 6 + 5)
              have T7 := Lib.hid (T6.out.paint e true)
              have K7 := Lib.hid ((K5.out.mine (ci * 6 + 5) (.bool false)).mine (e * 6 + 5) (.bool true))
              go_wp2
              go_region
              go_wp2
              go_roundg (gk - 1)
              case measure => omega
              case rel => exact ⟨_, _, _, _, _, rfl, rfl, T7.out.drew, HN.out, by omega, K7.out.drew⟩
          | false =>
            cases ca with
            | true =>
              cases s
              · skip
                have HQ := Lib.hid (hR.over hnc0 hfc0)
                have k5 : (m near.root).red = false := by rw [k5]; exact hnc0
                have k6 : (m far.root).red = false := by rw [k6]; exact hfc0
                clear hR hd hfc0 hnc0
                have c1 := HT.out.st.cell 1
                have cE := HT.out.khi hA; rw [show (m a).kid true = e from k1] at cE
                have cN := HT.out.klo hE; rw [k2] at cN
                have cF := HT.out.khi hE; rw [show (m e).kid true = far.root from k3] at cF
                have ha0 : ((a : Int) == 0) = false := by rw [beq_eq_false_iff_ne]; omega
                have hac : a < cap := by omega
                have hec : e < cap := by omega
                simp only [bit_false] at *
                go_wp2
                go_quiet (fail)
                have T2 := Lib.hid (HT.out.drewN nq)
                have K2 := Lib.hid (HK.out.drewN nq)
                clear HT HK c1 cE cN cF
                generalize wr.drewN nq = w2 at *
                have c1 := T2.out.st.cell 1
                have cr := T2.out.kred hE; rw [k4] at cr
                have cf := T2.out.kred hFr; rw [k6] at cf
                have cn := T2.out.kred hNr; rw [k5] at cn
                have ca' := T2.out.kred hA; rw [k7] at ca'
                have cu := T2.out.kupc hA; rw [k8] at cu
                have hfc : far.root < cap := by omega
                have hnc : near.root < cap := by omega
                have T5 := T2; have K5 := K2; clear T2 K2
                have c1 := T5.out.st.cell 1
                have d1 := T5.out.kred (i := a) hA
                have f1 := T5.out.free (a * 6 + 5)
                have T6 := Lib.hid (T5.out.paint a false)
                have d2 := T6.out.kred (i := e) hE
                have f2 := T6.out.free (e * 6 + 5)
                have T7 := Lib.hid (T6.out.paint e true)
                have K7 := Lib.hid ((K5.out.mine (a * 6 + 5) (.bool false)).mine (e * 6 + 5) (.bool true))
                go_wp2
                go_region
                go_wp2
                try rw [Exit.noGoto_normal]
                go_end0
                exact ⟨⟨_, rfl⟩, _, _, T7.out.drew, HQ.out, K7.out.drew⟩
              · skip
                have HQ := Lib.hid (hR.over hnc0 hfc0)
                have k5 : (m near.root).red = false := by rw [k5]; exact hnc0
                have k6 : (m far.root).red = false := by rw [k6]; exact hfc0
                clear hR hd hfc0 hnc0
                have c1 := HT.out.st.cell 1
                have cE := HT.out.klo hA; rw [show (m a).kid false = e from k1] at cE
                have cN := HT.out.khi hE; rw [k2] at cN
                have cF := HT.out.klo hE; rw [show (m e).kid false = far.root from k3] at cF
                have ha0 : ((a : Int) == 0) = false := by rw [beq_eq_false_iff_ne]; omega
                have hac : a < cap := by omega
                have hec : e < cap := by omega
                simp only [bit_true] at *
                go_wp2
                go_quiet (fail)
                have T2 := Lib.hid (HT.out.drewN nq)
                have K2 := Lib.hid (HK.out.drewN nq)
                clear HT HK c1 cE cN cF
                generalize wr.drewN nq = w2 at *
                have c1 := T2.out.st.cell 1
                have cr := T2.out.kred hE; rw [k4] at cr
                have cf := T2.out.kred hFr; rw [k6] at cf
                have cn := T2.out.kred hNr; rw [k5] at cn
                have ca' := T2.out.kred hA; rw [k7] at ca'
                have cu := T2.out.kupc hA; rw [k8] at cu
                have hfc : far.root < cap := by omega
                have hnc : near.root < cap := by omega
                have T5 := T2; have K5 := K2; clear T2 K2
                have c1 := T5.out.st.cell 1
                have d1 := T5.out.kred (i := a) hA
                have f1 := T5.out.free (a * 6 + 5)
                have T6 := Lib.hid (T5.out.paint a false)
                have d2 := T6.out.kred (i := e) hE
                have f2 := T6.out.free (e * 6 + 5)
                have T7 := Lib.hid (T6.out.paint e true)
                have K7 := Lib.hid ((K5.out.mine (a * 6 + 5) (.bool false)).mine (e * 6 + 5) (.bool true))
                go_wp2
                go_region
                go_wp2
                try rw [Exit.noGoto_normal]
                go_end0
                exact ⟨⟨_, rfl⟩, _, _, T7.out.drew, HQ.out, K7.out.drew⟩
            | false =>
              cases s
              · skip
                have HN := Lib.hid (hR.further hnc0 hfc0)
                have k5 : (m near.root).red = false := by rw [k5]; exact hnc0
                have k6 : (m far.root).red = false := by rw [k6]; exact hfc0
                have hrk : rank z + 1 ≤ gk := by
                  have := hd; have h2 := rank_le z
                  simp only [rank, col_br, kidc_far, kidc_near, hfc0, hnc0, Bool.false_eq_true, if_false] at this; omega
                clear hR hd hfc0 hnc0
                have c1 := HT.out.st.cell 1
                have cE := HT.out.khi hA; rw [show (m a).kid true = e from k1] at cE
                have cN := HT.out.klo hE; rw [k2] at cN
                have cF := HT.out.khi hE; rw [show (m e).kid true = far.root from k3] at cF
                have ha0 : ((a : Int) == 0) = false := by rw [beq_eq_false_iff_ne]; omega
                have hac : a < cap := by omega
                have hec : e < cap := by omega
                simp only [bit_false] at *
                go_wp2
                go_quiet (fail)
                have T2 := Lib.hid (HT.out.drewN nq)
                have K2 := Lib.hid (HK.out.drewN nq)
                clear HT HK c1 cE cN cF
                generalize wr.drewN nq = w2 at *
                have c1 := T2.out.st.cell 1
                have cr := T2.out.kred hE; rw [k4] at cr
                have cf := T2.out.kred hFr; rw [k6] at cf
                have cn := T2.out.kred hNr; rw [k5] at cn
                have ca' := T2.out.kred hA; rw [k7] at ca'
                have cu := T2.out.kupc hA; rw [k8] at cu
                have hfc : far.root < cap := by omega
                have hnc : near.root < cap := by omega
                have fe := T2.out.free (e * 6 + 5)
                have T3 := Lib.hid (T2.out.paint e true)
                have K3 := Lib.hid (K2.out.mine (e * 6 + 5) (.bool true))
                have c1' := T3.out.st.cell 1
                have cu' := T3.out.kupc hA
                rw [show (paint m e true a).up = z.par by rw [← k8]; exact paint_up m e a true] at cu'
                have HS := Lib.hid (fun w' (t' : Tr w' g b cap pa n tp (paint m e true)) => side_any a w' t' hA (by rw [paint_up, k8]; exact hzp))
                rw [paint_side, k9] at HS
                go_wp2
                generalize (w2.setCell ⟨b, e * 6 + 5, none⟩ (.bool true)) = w3 at *
                go_quiet ((go_at_call 44; exact Calls.quiet_of (HS.out _ (T3.out.drewN _))))
                go_wp2
                go_roundg (gk - 1)
                case measure => omega
                case rel => exact ⟨_, _, _, _, _, rfl, rfl, T3.out.drewN _, HN.out, by omega, K3.out.drewN _⟩
              · skip
                have HN := Lib.hid (hR.further hnc0 hfc0)
                have k5 : (m near.root).red = false := by rw [k5]; exact hnc0
                have k6 : (m far.root).red = false := by rw [k6]; exact hfc0
                have hrk : rank z + 1 ≤ gk := by
                  have := hd; have h2 := rank_le z
                  simp only [rank, col_br, kidc_far, kidc_near, hfc0, hnc0, Bool.false_eq_true, if_false] at this; omega
                clear hR hd hfc0 hnc0
                have c1 := HT.out.st.cell 1
                have cE := HT.out.klo hA; rw [show (m a).kid false = e from k1] at cE
                have cN := HT.out.khi hE; rw [k2] at cN
                have cF := HT.out.klo hE; rw [show (m e).kid false = far.root from k3] at cF
                have ha0 : ((a : Int) == 0) = false := by rw [beq_eq_false_iff_ne]; omega
                have hac : a < cap := by omega
                have hec : e < cap := by omega
                simp only [bit_true] at *
                go_wp2
                go_quiet (fail)
                have T2 := Lib.hid (HT.out.drewN nq)
                have K2 := Lib.hid (HK.out.drewN nq)
                clear HT HK c1 cE cN cF
                generalize wr.drewN nq = w2 at *
                have c1 := T2.out.st.cell 1
                have cr := T2.out.kred hE; rw [k4] at cr
                have cf := T2.out.kred hFr; rw [k6] at cf
                have cn := T2.out.kred hNr; rw [k5] at cn
                have ca' := T2.out.kred hA; rw [k7] at ca'
                have cu := T2.out.kupc hA; rw [k8] at cu
                have hfc : far.root < cap := by omega
                have hnc : near.root < cap := by omega
                have fe := T2.out.free (e * 6 + 5)
                have T3 := Lib.hid (T2.out.paint e true)
                have K3 := Lib.hid (K2.out.mine (e * 6 + 5) (.bool true))
                have c1' := T3.out.st.cell 1
                have cu' := T3.out.kupc hA
                rw [show (paint m e true a).up = z.par by rw [← k8]; exact paint_up m e a true] at cu'
                have HS := Lib.hid (fun w' (t' : Tr w' g b cap pa n tp (paint m e true)) => side_any a w' t' hA (by rw [paint_up, k8]; exact hzp))
                rw [paint_side, k9] at HS
                go_wp2
                generalize (w2.setCell ⟨b, e * 6 + 5, none⟩ (.bool true)) = w3 at *
                go_quiet ((go_at_call 44; exact Calls.quiet_of (HS.out _ (T3.out.drewN _))))
                go_wp2
                go_roundg (gk - 1)
                case measure => omega
                case rel => exact ⟨_, _, _, _, _, rfl, rfl, T3.out.drewN _, HN.out, by omega, K3.out.drewN _⟩
end Go.Proofs.Ytfbbmpmgceghfaa
