/-
  The call mendRed of package rbtree. Conditions: the tree lies in memory, and is red-black but for the red one that is named.
-/
import Derived.Test.YtfbbmpmgceghfaaRbLift
import Derived.Test.YtfbbmpmgceghfaaRbMend
import Derived.Deep.LoopGhost
import Derived.BigRegion
namespace Go.Proofs.Ytfbbmpmgceghfaa
open Go.RowKit
set_option maxRecDepth 100000

theorem Rep.upUp {m : Nat → Nd} {n tp : Nat} {z : Z} {t : T} {L : List (Nat × Key)} (h : Rep m n tp z t L) (hn : 0 < n) : (m z.par).up < n := by
  cases z with
  | top => rw [Z.par, h.m0]; exact hn
  | st s i k c o z => have := h.upw.sub.root_up (by cases s <;> simp [br]); rw [root_br] at this; rw [Z.par, this]; exact h.upw.parLt hn
theorem bit_true : bit true = 1 := rfl
theorem bit_false : bit false = 0 := rfl

theorem RepB.fin {m : Nat → Nd} {n tp : Nat} {L : List (Nat × Key)} (hL : L ≠ []) (h : ∃ t', RepB m n tp .top t' L) : tp < n ∧ ∃ t', RepB (paint m tp false) n tp .top t' L := by
  obtain ⟨t', h⟩ := h
  exact ⟨(h.tops hL).2.2.2, t', h.topBlack hL⟩

set_option maxHeartbeats 2000000 in
set_option maxRecDepth 100000 in
theorem mendRed_any {g b cap n tp : Nat} {pa : Value} {m : Nat → Nd} {z : Z} {tt : T} {L : List (Nat × Key)} {N : Nat} (w : World) (t : Tr w g b cap pa n tp m) (hr : Red m n tp z tt L N) :
    Calls Try.prog 28 #[.pointer (some ⟨g, 0, none⟩), .int .i64 (tt.root : Int)] w fun e w' => (∃ v, e = .returned v) ∧ ∃ m' tp', Tr w' g b cap pa n tp' m' ∧ (∃ t', RepB m' n tp' .top t' L) ∧ Keep (Mine g b) w w' := by
  obtain ⟨hc1, hc2⟩ := t.capB
  have TT := Lib.hid t; have HR := Lib.hid hr; clear t hr
  go_enter Try.func28, Try.ntmps28
  go_wp2
  go_step3
  go_wp2
  go_step3
  go_wp2
  go_loopg [1] z.depth (fun j a wr => ∃ (m : Nat → Nd) (tp : Nat) (z : Z) (tt : T) (N : Nat), a = .int .i64 (tt.root : Int) ∧ Tr wr g b cap pa n tp m ∧ Red m n tp z tt L N ∧ z.depth ≤ j ∧ Keep (Mine g b) w wr)
  case atStart => exact ⟨m, tp, z, tt, N, rfl, TT.out, HR.out, Nat.le_refl _, Keep.refl _ _⟩
  case round =>
    clear TT HR
    obtain ⟨m, tp, z, tt, N, rfl, ht, hR, hd, hK⟩ := hrel
    have hnn := T.red_ne hR.col
    have hpos := hR.rep.posT (T.mem_its hnn)
    have hn : 0 < n := by omega
    have hA := hR.rep.parLt hn
    have hO := hR.rep.upUp hn
    have hAe := hR.rep.sub.root_up hnn
    have c1 := ht.st.cell 1
    have cA : wr.cell? ⟨b, tt.root * 6 + 2, none⟩ = some (.int .i64 (z.par : Int)) := by rw [← hAe]; exact ht.cell hpos.2 (by decide)
    have cO : wr.cell? ⟨b, z.par * 6 + 2, none⟩ = some (.int .i64 ((m z.par).up : Int)) := ht.cell hA (by decide)
    have ce : wr.cell? ⟨b, z.par * 6 + 5, none⟩ = some (.bool (m z.par).red) := ht.cell hA (by decide)
    have HT := Lib.hid ht; have HK := Lib.hid hK; clear ht hK
    cases hb : (m z.par).red with
    | false =>
      rw [hb] at ce
      have HD7 := Lib.hid (hR.done hb).2; have HB := Lib.hid hb
      have htp7 := (hR.done hb).1.2
      generalize hAA : z.par = A at *
      generalize tt.root = R at *
      clear hAA hR hAe hnn
      have HS := Lib.hid (fun w' (t' : Tr w' g b cap pa n tp m) => side_any A w' t' hA hO)
      generalize hOO : (m A).up = O at *
      cases hs : sideM m A with
      | false =>
        rw [hs] at HS
        have cB : wr.cell? ⟨b, O * 6 + 4, none⟩ = some (.int .i64 ((m O).hi : Int)) := HT.out.cell hO (by decide)
        simp only [bit_false] at HS
        clear hb hs hOO
        go_wp2
        go_quiet ((go_at_call 44; exact Calls.quiet_of (HS.out _ (HT.out.drewN _))))
        have T7 := Lib.hid (HT.out.drewN nq)
        have K7 := Lib.hid (HK.out.drewN nq)
        clear HT HK c1 cA cO cB ce
        generalize wr.drewN nq = w7 at *
        have ce : w7.cell? ⟨b, A * 6 + 5, none⟩ = some (.bool (m A).red) := T7.out.cell hA (by decide)
        rw [HB.out] at ce
        obtain ⟨m7, hm7⟩ : ∃ m7, m7 = m := ⟨_, rfl⟩
        obtain ⟨tp7, htp7'⟩ : ∃ tp7, tp7 = tp := ⟨_, rfl⟩
        rw [← hm7, ← htp7'] at T7 HD7
        rw [← htp7'] at htp7
        clear hm7 htp7'
        have T8 := Lib.hid (T7.out.put (i := tp7) (cells_red _ false) (by decide))
        have c1 := T7.out.st.cell 1
        have ct := T7.out.st.cell 2
        have cx : w7.cell? ⟨b, tp7 * 6 + 5, none⟩ = some (.bool (m7 tp7).red) := T7.out.cell htp7 (by decide)
        have fx := T7.out.free (tp7 * 6 + 5)
        go_wp2
        go_region
        try rw [Exit.noGoto_normal]
        go_end0
        exact ⟨⟨_, rfl⟩, _, _, T8.out.drew, HD7.out, (K7.out.setCell (p := ⟨b, tp7 * 6 + 5, none⟩) (.inl (.inr rfl)) _).drew⟩
      | true =>
        rw [hs] at HS
        have cB : wr.cell? ⟨b, O * 6 + 3, none⟩ = some (.int .i64 ((m O).lo : Int)) := HT.out.cell hO (by decide)
        simp only [bit_true] at HS
        clear hb hs hOO
        go_wp2
        go_quiet ((go_at_call 44; exact Calls.quiet_of (HS.out _ (HT.out.drewN _))))
        have T7 := Lib.hid (HT.out.drewN nq)
        have K7 := Lib.hid (HK.out.drewN nq)
        clear HT HK c1 cA cO cB ce
        generalize wr.drewN nq = w7 at *
        have ce : w7.cell? ⟨b, A * 6 + 5, none⟩ = some (.bool (m A).red) := T7.out.cell hA (by decide)
        rw [HB.out] at ce
        obtain ⟨m7, hm7⟩ : ∃ m7, m7 = m := ⟨_, rfl⟩
        obtain ⟨tp7, htp7'⟩ : ∃ tp7, tp7 = tp := ⟨_, rfl⟩
        rw [← hm7, ← htp7'] at T7 HD7
        rw [← htp7'] at htp7
        clear hm7 htp7'
        have T8 := Lib.hid (T7.out.put (i := tp7) (cells_red _ false) (by decide))
        have c1 := T7.out.st.cell 1
        have ct := T7.out.st.cell 2
        have cx : w7.cell? ⟨b, tp7 * 6 + 5, none⟩ = some (.bool (m7 tp7).red) := T7.out.cell htp7 (by decide)
        have fx := T7.out.free (tp7 * 6 + 5)
        go_wp2
        go_region
        try rw [Exit.noGoto_normal]
        go_end0
        exact ⟨⟨_, rfl⟩, _, _, T8.out.drew, HD7.out, (K7.out.setCell (p := ⟨b, tp7 * 6 + 5, none⟩) (.inl (.inr rfl)) _).drew⟩
    | true =>
      obtain ⟨s, a, ka, u, s1, o, ko, B, z2, rfl, hu, hU, hB, hF⟩ := hR.two hb
      simp only [Z.par] at *
      have hs1 : sideM m a = s1 := by have := hR.rep.upw.side (by cases s <;> simp [br]); simpa [Z.side] using this
      have hs : sideM m tt.root = s := hR.rep.side hnn
      have hoe : (m a).up = o := by have := hR.rep.upw.sub.root_up (by cases s <;> simp [br]); simpa [Z.par] using this
      have HL := Lib.hid (hR.rep.ne_nil hnn)
      have hBr := hR.rep.upw.turn
      have hib := hBr.rootLt hn
      have hmB : wr.cell? ⟨b, o * 6 + (if s1 then 3 else 4), none⟩ = some (.int .i64 (B.root : Int)) := by
        have := hR.rep.up.2.2.1
        cases s1
        · show wr.cell? ⟨b, o * 6 + 4, none⟩ = _
          rw [HT.out.cell (i := o) (j := 4) (by rw [← hoe]; exact hO) (by decide), this]; rfl
        · show wr.cell? ⟨b, o * 6 + 3, none⟩ = _
          rw [HT.out.cell (i := o) (j := 3) (by rw [← hoe]; exact hO) (by decide), this]; rfl
      have hredB : (m B.root).red = B.col := by
        cases B with
        | nil => rw [T.root, hR.rep.m0]; rfl
        | nd ib kb cb xb yb => have := hBr.sub.1; rw [T.root, this]; rfl
      have HS := Lib.hid (fun w' (t' : Tr w' g b cap pa n tp m) => side_any a w' t' hA hO)
      have HSR := Lib.hid (fun w' (t' : Tr w' g b cap pa n tp m) => side_any tt.root w' t' hpos.2 (by rw [hAe]; exact hA))
      rw [hs1] at HS
      rw [hs] at HSR
      rw [hoe] at cO hO
      rw [hb] at ce
      have HB := Lib.hid hb
      cases hBc : B.col with
      | true =>
        cases B with
        | nil => simp [T.col] at hBc
        | nd ib kb cb xb yb =>
          obtain rfl : cb = true := hBc
          have HU := Lib.hid (hR.up2 hU hB hF)
          have HIB : Hid ((m ib).red = true) := Lib.hid hredB
          simp only [T.root] at hib hmB
          clear hR hAe hnn hBr hredB hs hs1 hoe hu hU hB hF hb
          generalize tt.root = R at *
          cases s1
          · have cB := hmB; clear hmB
            simp only [bit_false] at HS
            simp only [Bool.false_eq_true, if_false] at cB
            go_wp2
            go_quiet ((go_at_call 44; exact Calls.quiet_of (HS.out _ (HT.out.drewN _))))
            have T2 := Lib.hid (HT.out.drewN nq)
            have K2 := Lib.hid (HK.out.drewN nq)
            clear HT HK c1 cA cO cB ce
            generalize wr.drewN nq = w2 at *
            have c1 := T2.out.st.cell 1
            have ce : w2.cell? ⟨b, a * 6 + 5, none⟩ = some (.bool (m a).red) := T2.out.cell hA (by decide)
            rw [HB.out] at ce
            have ci : w2.cell? ⟨b, ib * 6 + 5, none⟩ = some (.bool (m ib).red) := T2.out.cell hib (by decide)
            rw [HIB.out] at ci
            have T3 := Lib.hid (T2.out.put (i := a) (cells_red _ false) (by decide))
            have T4 := Lib.hid (T3.out.put (i := ib) (cells_red _ false) (by decide))
            have T5 := Lib.hid (T4.out.put (i := o) (cells_red _ true) (by decide))
            have f2 := T2.out.free (a * 6 + 5)
            have f3 := T3.out.free (ib * 6 + 5)
            have f4 := T4.out.free (o * 6 + 5)
            have d3 := T3.out.cell (i := ib) (j := 5) hib (by decide)
            rw [show (cellsN _)[5]? = some (.bool _) from rfl] at d3
            have d4 := T4.out.cell (i := o) (j := 5) hO (by decide)
            rw [show (cellsN _)[5]? = some (.bool _) from rfl] at d4
            have hac : a < cap := by omega
            have hbc : ib < cap := by omega
            have hoc : o < cap := by omega
            go_wp2
            go_region
            go_wp2
            go_roundg (gk - 1)
            case measure => simp [Z.depth] at hd; omega
            case rel =>
              refine ⟨_, _, _, _, _, ?_, T5.out.drew, HU.out, by simp [Z.depth] at hd; omega, (((K2.out.setCell (p := ⟨b, a * 6 + 5, none⟩) (.inl (.inr rfl)) _).setCell (p := ⟨b, ib * 6 + 5, none⟩) (.inl (.inr rfl)) _).setCell (p := ⟨b, o * 6 + 5, none⟩) (.inl (.inr rfl)) _).drew⟩
              rw [root_br]
          · have cB := hmB; clear hmB
            simp only [bit_true] at HS
            simp only [if_true] at cB
            go_wp2
            go_quiet ((go_at_call 44; exact Calls.quiet_of (HS.out _ (HT.out.drewN _))))
            have T2 := Lib.hid (HT.out.drewN nq)
            have K2 := Lib.hid (HK.out.drewN nq)
            clear HT HK c1 cA cO cB ce
            generalize wr.drewN nq = w2 at *
            have c1 := T2.out.st.cell 1
            have ce : w2.cell? ⟨b, a * 6 + 5, none⟩ = some (.bool (m a).red) := T2.out.cell hA (by decide)
            rw [HB.out] at ce
            have ci : w2.cell? ⟨b, ib * 6 + 5, none⟩ = some (.bool (m ib).red) := T2.out.cell hib (by decide)
            rw [HIB.out] at ci
            have T3 := Lib.hid (T2.out.put (i := a) (cells_red _ false) (by decide))
            have T4 := Lib.hid (T3.out.put (i := ib) (cells_red _ false) (by decide))
            have T5 := Lib.hid (T4.out.put (i := o) (cells_red _ true) (by decide))
            have f2 := T2.out.free (a * 6 + 5)
            have f3 := T3.out.free (ib * 6 + 5)
            have f4 := T4.out.free (o * 6 + 5)
            have d3 := T3.out.cell (i := ib) (j := 5) hib (by decide)
            rw [show (cellsN _)[5]? = some (.bool _) from rfl] at d3
            have d4 := T4.out.cell (i := o) (j := 5) hO (by decide)
            rw [show (cellsN _)[5]? = some (.bool _) from rfl] at d4
            have hac : a < cap := by omega
            have hbc : ib < cap := by omega
            have hoc : o < cap := by omega
            go_wp2
            go_region
            go_wp2
            go_roundg (gk - 1)
            case measure => simp [Z.depth] at hd; omega
            case rel =>
              refine ⟨_, _, _, _, _, ?_, T5.out.drew, HU.out, by simp [Z.depth] at hd; omega, (((K2.out.setCell (p := ⟨b, a * 6 + 5, none⟩) (.inl (.inr rfl)) _).setCell (p := ⟨b, ib * 6 + 5, none⟩) (.inl (.inr rfl)) _).setCell (p := ⟨b, o * 6 + 5, none⟩) (.inl (.inr rfl)) _).drew⟩
              rw [root_br]
      | false =>
        have HIB : Hid ((m B.root).red = false) := Lib.hid (by rw [hredB]; exact hBc)
        cases s <;> cases s1
        · skip
          have cB := hmB; clear hmB
          simp only [bit_false] at HS
          simp only [bit_false] at HSR
          simp only [Bool.false_eq_true, if_false] at cB
          have HLIFT := Lib.hid hR.rep.upw
          have HQ := Lib.hid (hR.out1 hu hU hB hBc hF)
          clear hR hAe hnn hBr hredB hs hs1 hoe hu hU hB hF hb hBc
          generalize tt.root = R at *
          generalize B.root = ib at *
          go_wp2
          go_quiet ((go_at_call 44; exact Calls.quiet_of (HS.out _ (HT.out.drewN _))))
          have T2 := Lib.hid (HT.out.drewN nq)
          have K2 := Lib.hid (HK.out.drewN nq)
          clear HT HK c1 cA cO cB ce
          generalize wr.drewN nq = w2 at *
          have c1 := T2.out.st.cell 1
          have ce : w2.cell? ⟨b, a * 6 + 5, none⟩ = some (.bool (m a).red) := T2.out.cell hA (by decide)
          rw [HB.out] at ce
          have ci : w2.cell? ⟨b, ib * 6 + 5, none⟩ = some (.bool (m ib).red) := T2.out.cell hib (by decide)
          rw [HIB.out] at ci
          have hac : a < cap := by omega
          have hbc : ib < cap := by omega
          have hoc : o < cap := by omega
          go_wp2_with fail
          refine (HSR.out _ T2.out).mono ?_
          rintro e w3 ⟨rfl, k3, hw3⟩
          have T3 := Lib.hid (hw3 ▸ T2.out.drewN k3 : Tr w3 g b cap pa n tp m)
          have K3 := Lib.hid (hw3 ▸ K2.out.drewN k3 : Keep (Mine g b) w w3)
          clear hw3 T2 K2 c1 ce ci
          go_wp2_with fail
          refine (HS.out _ T3.out).mono ?_
          rintro e w4 ⟨rfl, k4, hw4⟩
          have T4 := Lib.hid (hw4 ▸ T3.out.drewN k4 : Tr w4 g b cap pa n tp m)
          have K4 := Lib.hid (hw4 ▸ K3.out.drewN k4 : Keep (Mine g b) w w4)
          clear hw4 T3 K3
          go_wp2_with fail
          refine (lift_any w4 T4.out HLIFT.out).mono ?_
          rintro e w5 ⟨⟨v5, rfl⟩, t5, k5⟩
          have T5 := Lib.hid t5; have K5 := Lib.hid (K4.out.trans k5); clear t5 k5 T4 K4 HLIFT
          obtain ⟨q, hqa⟩ : ∃ q, q = a := ⟨_, rfl⟩
          rw [← hqa] at T5 HQ hA ⊢
          clear hqa
          simp only [paint] at HQ
          generalize hangT tp q z2.par = tp7 at *
          generalize liftM m q = m5 at *
          have hq := hA
          have T5' := Lib.hid (T5.out.put (i := q) (cells_red _ false) (by decide))
          have T7 := Lib.hid (T5'.out.put (i := o) (cells_red _ true) (by decide)).drew
          have K7 := Lib.hid (((K5.out.setCell (p := ⟨b, q * 6 + 5, none⟩) (.inl (.inr rfl)) (.bool false)).setCell (p := ⟨b, o * 6 + 5, none⟩) (.inl (.inr rfl)) (.bool true)).drew)
          have c1 := T5.out.st.cell 1
          have f2 := T5.out.free (q * 6 + 5)
          have f3 := T5'.out.free (o * 6 + 5)
          have d2 := T5.out.cell (i := q) (j := 5) hq (by decide)
          rw [show (cellsN _)[5]? = some (.bool _) from rfl] at d2
          have d3 := T5'.out.cell (i := o) (j := 5) hO (by decide)
          rw [show (cellsN _)[5]? = some (.bool _) from rfl] at d3
          go_wp2
          go_region
          clear c1 f2 f3 d2 d3 T5 T5' K5
          generalize ((w5.setCell ⟨b, q * 6 + 5, none⟩ (.bool false)).setCell ⟨b, o * 6 + 5, none⟩ (.bool true)).drew = w7 at *
          obtain ⟨htp7, hd7⟩ := RepB.fin HL.out HQ.out
          have HD7 := Lib.hid hd7; clear hd7 HQ
          generalize upd (upd m5 q { m5 q with red := false }) o { upd m5 q { m5 q with red := false } o with red := true } = m7 at *
          have T8 := Lib.hid (T7.out.put (i := tp7) (cells_red _ false) (by decide))
          have c1 := T7.out.st.cell 1
          have ct := T7.out.st.cell 2
          have cx : w7.cell? ⟨b, tp7 * 6 + 5, none⟩ = some (.bool (m7 tp7).red) := T7.out.cell htp7 (by decide)
          have fx := T7.out.free (tp7 * 6 + 5)
          go_wp2
          go_region
          try rw [Exit.noGoto_normal]
          go_end0
          exact ⟨⟨_, rfl⟩, _, _, T8.out.drew, HD7.out, (K7.out.setCell (p := ⟨b, tp7 * 6 + 5, none⟩) (.inl (.inr rfl)) _).drew⟩
        · skip
          have cB := hmB; clear hmB
          simp only [bit_true] at HS
          simp only [bit_false] at HSR
          simp only [if_true] at cB
          obtain ⟨j, kj, cj, x, y, rfl⟩ := T.as_br false hnn
          obtain rfl : cj = true := by have := hR.col; simpa using this
          have HLIFT := Lib.hid hR.rep
          have HLIFT2 := Lib.hid (hR.out2 hu hU hB hBc hF).1
          have HQ := Lib.hid (hR.out2 hu hU hB hBc hF).2
          simp only [root_br] at *
          clear hR hAe hnn hBr hredB hs hs1 hoe hu hU hB hF hb hBc
          obtain ⟨R, hRj⟩ : ∃ R, R = j := ⟨_, rfl⟩
          generalize B.root = ib at *
          go_wp2
          go_quiet ((go_at_call 44; exact Calls.quiet_of (HS.out _ (HT.out.drewN _))))
          have T2 := Lib.hid (HT.out.drewN nq)
          have K2 := Lib.hid (HK.out.drewN nq)
          clear HT HK c1 cA cO cB ce
          generalize wr.drewN nq = w2 at *
          have c1 := T2.out.st.cell 1
          have ce : w2.cell? ⟨b, a * 6 + 5, none⟩ = some (.bool (m a).red) := T2.out.cell hA (by decide)
          rw [HB.out] at ce
          have ci : w2.cell? ⟨b, ib * 6 + 5, none⟩ = some (.bool (m ib).red) := T2.out.cell hib (by decide)
          rw [HIB.out] at ci
          have hac : a < cap := by omega
          have hbc : ib < cap := by omega
          have hoc : o < cap := by omega
          go_wp2_with fail
          refine (HSR.out _ T2.out).mono ?_
          rintro e w3 ⟨rfl, k3, hw3⟩
          have T3 := Lib.hid (hw3 ▸ T2.out.drewN k3 : Tr w3 g b cap pa n tp m)
          have K3 := Lib.hid (hw3 ▸ K2.out.drewN k3 : Keep (Mine g b) w w3)
          clear hw3 T2 K2 c1 ce ci
          go_wp2_with fail
          refine (HS.out _ T3.out).mono ?_
          rintro e w4 ⟨rfl, k4, hw4⟩
          have T4 := Lib.hid (hw4 ▸ T3.out.drewN k4 : Tr w4 g b cap pa n tp m)
          have K4 := Lib.hid (hw4 ▸ K3.out.drewN k4 : Keep (Mine g b) w w4)
          clear hw4 T3 K3
          go_wp2_with fail
          refine (lift_any w4 T4.out HLIFT.out).mono ?_
          rintro e w5' ⟨⟨v5, rfl⟩, t5, k5⟩
          have T5 := Lib.hid t5; have K5 := Lib.hid (K4.out.trans k5); clear t5 k5 T4 K4 HLIFT
          go_wp2_with fail
          refine (lift_any w5' T5.out HLIFT2.out).mono ?_
          rintro e w5 ⟨⟨v6, rfl⟩, t6, k6⟩
          have T6 := Lib.hid t6; have K6 := Lib.hid (K5.out.trans k6); clear t6 k6 T5 K5 HLIFT2
          have T5 : Hid (Tr w5 g b cap pa n (hangT (hangT tp j o) j z2.par) (liftM (liftM m j) j)) := T6
          have K5 := K6; clear T6 K6
          have hq := hpos.2
          obtain ⟨q, hqa⟩ : ∃ q, q = j := ⟨_, rfl⟩
          simp only [paint] at HQ
          rw [← hqa] at T5 HQ hq ⊢
          clear hqa hRj R
          generalize hangT (hangT tp q o) q z2.par = tp7 at *
          generalize liftM (liftM m q) q = m5 at *
          have T5' := Lib.hid (T5.out.put (i := q) (cells_red _ false) (by decide))
          have T7 := Lib.hid (T5'.out.put (i := o) (cells_red _ true) (by decide)).drew
          have K7 := Lib.hid (((K5.out.setCell (p := ⟨b, q * 6 + 5, none⟩) (.inl (.inr rfl)) (.bool false)).setCell (p := ⟨b, o * 6 + 5, none⟩) (.inl (.inr rfl)) (.bool true)).drew)
          have c1 := T5.out.st.cell 1
          have f2 := T5.out.free (q * 6 + 5)
          have f3 := T5'.out.free (o * 6 + 5)
          have d2 := T5.out.cell (i := q) (j := 5) hq (by decide)
          rw [show (cellsN _)[5]? = some (.bool _) from rfl] at d2
          have d3 := T5'.out.cell (i := o) (j := 5) hO (by decide)
          rw [show (cellsN _)[5]? = some (.bool _) from rfl] at d3
          go_wp2
          go_region
          clear c1 f2 f3 d2 d3 T5 T5' K5
          generalize ((w5.setCell ⟨b, q * 6 + 5, none⟩ (.bool false)).setCell ⟨b, o * 6 + 5, none⟩ (.bool true)).drew = w7 at *
          obtain ⟨htp7, hd7⟩ := RepB.fin HL.out HQ.out
          have HD7 := Lib.hid hd7; clear hd7 HQ
          generalize upd (upd m5 q { m5 q with red := false }) o { upd m5 q { m5 q with red := false } o with red := true } = m7 at *
          have T8 := Lib.hid (T7.out.put (i := tp7) (cells_red _ false) (by decide))
          have c1 := T7.out.st.cell 1
          have ct := T7.out.st.cell 2
          have cx : w7.cell? ⟨b, tp7 * 6 + 5, none⟩ = some (.bool (m7 tp7).red) := T7.out.cell htp7 (by decide)
          have fx := T7.out.free (tp7 * 6 + 5)
          go_wp2
          go_region
          try rw [Exit.noGoto_normal]
          go_end0
          exact ⟨⟨_, rfl⟩, _, _, T8.out.drew, HD7.out, (K7.out.setCell (p := ⟨b, tp7 * 6 + 5, none⟩) (.inl (.inr rfl)) _).drew⟩
        · skip
          have cB := hmB; clear hmB
          simp only [bit_false] at HS
          simp only [bit_true] at HSR
          simp only [Bool.false_eq_true, if_false] at cB
          obtain ⟨j, kj, cj, x, y, rfl⟩ := T.as_br true hnn
          obtain rfl : cj = true := by have := hR.col; simpa using this
          have HLIFT := Lib.hid hR.rep
          have HLIFT2 := Lib.hid (hR.out2 hu hU hB hBc hF).1
          have HQ := Lib.hid (hR.out2 hu hU hB hBc hF).2
          simp only [root_br] at *
          clear hR hAe hnn hBr hredB hs hs1 hoe hu hU hB hF hb hBc
          obtain ⟨R, hRj⟩ : ∃ R, R = j := ⟨_, rfl⟩
          generalize B.root = ib at *
          go_wp2
          go_quiet ((go_at_call 44; exact Calls.quiet_of (HS.out _ (HT.out.drewN _))))
          have T2 := Lib.hid (HT.out.drewN nq)
          have K2 := Lib.hid (HK.out.drewN nq)
          clear HT HK c1 cA cO cB ce
          generalize wr.drewN nq = w2 at *
          have c1 := T2.out.st.cell 1
          have ce : w2.cell? ⟨b, a * 6 + 5, none⟩ = some (.bool (m a).red) := T2.out.cell hA (by decide)
          rw [HB.out] at ce
          have ci : w2.cell? ⟨b, ib * 6 + 5, none⟩ = some (.bool (m ib).red) := T2.out.cell hib (by decide)
          rw [HIB.out] at ci
          have hac : a < cap := by omega
          have hbc : ib < cap := by omega
          have hoc : o < cap := by omega
          go_wp2_with fail
          refine (HSR.out _ T2.out).mono ?_
          rintro e w3 ⟨rfl, k3, hw3⟩
          have T3 := Lib.hid (hw3 ▸ T2.out.drewN k3 : Tr w3 g b cap pa n tp m)
          have K3 := Lib.hid (hw3 ▸ K2.out.drewN k3 : Keep (Mine g b) w w3)
          clear hw3 T2 K2 c1 ce ci
          go_wp2_with fail
          refine (HS.out _ T3.out).mono ?_
          rintro e w4 ⟨rfl, k4, hw4⟩
          have T4 := Lib.hid (hw4 ▸ T3.out.drewN k4 : Tr w4 g b cap pa n tp m)
          have K4 := Lib.hid (hw4 ▸ K3.out.drewN k4 : Keep (Mine g b) w w4)
          clear hw4 T3 K3
          go_wp2_with fail
          refine (lift_any w4 T4.out HLIFT.out).mono ?_
          rintro e w5' ⟨⟨v5, rfl⟩, t5, k5⟩
          have T5 := Lib.hid t5; have K5 := Lib.hid (K4.out.trans k5); clear t5 k5 T4 K4 HLIFT
          go_wp2_with fail
          refine (lift_any w5' T5.out HLIFT2.out).mono ?_
          rintro e w5 ⟨⟨v6, rfl⟩, t6, k6⟩
          have T6 := Lib.hid t6; have K6 := Lib.hid (K5.out.trans k6); clear t6 k6 T5 K5 HLIFT2
          have T5 : Hid (Tr w5 g b cap pa n (hangT (hangT tp j o) j z2.par) (liftM (liftM m j) j)) := T6
          have K5 := K6; clear T6 K6
          have hq := hpos.2
          obtain ⟨q, hqa⟩ : ∃ q, q = j := ⟨_, rfl⟩
          simp only [paint] at HQ
          rw [← hqa] at T5 HQ hq ⊢
          clear hqa hRj R
          generalize hangT (hangT tp q o) q z2.par = tp7 at *
          generalize liftM (liftM m q) q = m5 at *
          have T5' := Lib.hid (T5.out.put (i := q) (cells_red _ false) (by decide))
          have T7 := Lib.hid (T5'.out.put (i := o) (cells_red _ true) (by decide)).drew
          have K7 := Lib.hid (((K5.out.setCell (p := ⟨b, q * 6 + 5, none⟩) (.inl (.inr rfl)) (.bool false)).setCell (p := ⟨b, o * 6 + 5, none⟩) (.inl (.inr rfl)) (.bool true)).drew)
          have c1 := T5.out.st.cell 1
          have f2 := T5.out.free (q * 6 + 5)
          have f3 := T5'.out.free (o * 6 + 5)
          have d2 := T5.out.cell (i := q) (j := 5) hq (by decide)
          rw [show (cellsN _)[5]? = some (.bool _) from rfl] at d2
          have d3 := T5'.out.cell (i := o) (j := 5) hO (by decide)
          rw [show (cellsN _)[5]? = some (.bool _) from rfl] at d3
          go_wp2
          go_region
          clear c1 f2 f3 d2 d3 T5 T5' K5
          generalize ((w5.setCell ⟨b, q * 6 + 5, none⟩ (.bool false)).setCell ⟨b, o * 6 + 5, none⟩ (.bool true)).drew = w7 at *
          obtain ⟨htp7, hd7⟩ := RepB.fin HL.out HQ.out
          have HD7 := Lib.hid hd7; clear hd7 HQ
          generalize upd (upd m5 q { m5 q with red := false }) o { upd m5 q { m5 q with red := false } o with red := true } = m7 at *
          have T8 := Lib.hid (T7.out.put (i := tp7) (cells_red _ false) (by decide))
          have c1 := T7.out.st.cell 1
          have ct := T7.out.st.cell 2
          have cx : w7.cell? ⟨b, tp7 * 6 + 5, none⟩ = some (.bool (m7 tp7).red) := T7.out.cell htp7 (by decide)
          have fx := T7.out.free (tp7 * 6 + 5)
          go_wp2
          go_region
          try rw [Exit.noGoto_normal]
          go_end0
          exact ⟨⟨_, rfl⟩, _, _, T8.out.drew, HD7.out, (K7.out.setCell (p := ⟨b, tp7 * 6 + 5, none⟩) (.inl (.inr rfl)) _).drew⟩
        · skip
          have cB := hmB; clear hmB
          simp only [bit_true] at HS
          simp only [bit_true] at HSR
          simp only [if_true] at cB
          have HLIFT := Lib.hid hR.rep.upw
          have HQ := Lib.hid (hR.out1 hu hU hB hBc hF)
          clear hR hAe hnn hBr hredB hs hs1 hoe hu hU hB hF hb hBc
          generalize tt.root = R at *
          generalize B.root = ib at *
          go_wp2
          go_quiet ((go_at_call 44; exact Calls.quiet_of (HS.out _ (HT.out.drewN _))))
          have T2 := Lib.hid (HT.out.drewN nq)
          have K2 := Lib.hid (HK.out.drewN nq)
          clear HT HK c1 cA cO cB ce
          generalize wr.drewN nq = w2 at *
          have c1 := T2.out.st.cell 1
          have ce : w2.cell? ⟨b, a * 6 + 5, none⟩ = some (.bool (m a).red) := T2.out.cell hA (by decide)
          rw [HB.out] at ce
          have ci : w2.cell? ⟨b, ib * 6 + 5, none⟩ = some (.bool (m ib).red) := T2.out.cell hib (by decide)
          rw [HIB.out] at ci
          have hac : a < cap := by omega
          have hbc : ib < cap := by omega
          have hoc : o < cap := by omega
          go_wp2_with fail
          refine (HSR.out _ T2.out).mono ?_
          rintro e w3 ⟨rfl, k3, hw3⟩
          have T3 := Lib.hid (hw3 ▸ T2.out.drewN k3 : Tr w3 g b cap pa n tp m)
          have K3 := Lib.hid (hw3 ▸ K2.out.drewN k3 : Keep (Mine g b) w w3)
          clear hw3 T2 K2 c1 ce ci
          go_wp2_with fail
          refine (HS.out _ T3.out).mono ?_
          rintro e w4 ⟨rfl, k4, hw4⟩
          have T4 := Lib.hid (hw4 ▸ T3.out.drewN k4 : Tr w4 g b cap pa n tp m)
          have K4 := Lib.hid (hw4 ▸ K3.out.drewN k4 : Keep (Mine g b) w w4)
          clear hw4 T3 K3
          go_wp2_with fail
          refine (lift_any w4 T4.out HLIFT.out).mono ?_
          rintro e w5 ⟨⟨v5, rfl⟩, t5, k5⟩
          have T5 := Lib.hid t5; have K5 := Lib.hid (K4.out.trans k5); clear t5 k5 T4 K4 HLIFT
          obtain ⟨q, hqa⟩ : ∃ q, q = a := ⟨_, rfl⟩
          rw [← hqa] at T5 HQ hA ⊢
          clear hqa
          simp only [paint] at HQ
          generalize hangT tp q z2.par = tp7 at *
          generalize liftM m q = m5 at *
          have hq := hA
          have T5' := Lib.hid (T5.out.put (i := q) (cells_red _ false) (by decide))
          have T7 := Lib.hid (T5'.out.put (i := o) (cells_red _ true) (by decide)).drew
          have K7 := Lib.hid (((K5.out.setCell (p := ⟨b, q * 6 + 5, none⟩) (.inl (.inr rfl)) (.bool false)).setCell (p := ⟨b, o * 6 + 5, none⟩) (.inl (.inr rfl)) (.bool true)).drew)
          have c1 := T5.out.st.cell 1
          have f2 := T5.out.free (q * 6 + 5)
          have f3 := T5'.out.free (o * 6 + 5)
          have d2 := T5.out.cell (i := q) (j := 5) hq (by decide)
          rw [show (cellsN _)[5]? = some (.bool _) from rfl] at d2
          have d3 := T5'.out.cell (i := o) (j := 5) hO (by decide)
          rw [show (cellsN _)[5]? = some (.bool _) from rfl] at d3
          go_wp2
          go_region
          clear c1 f2 f3 d2 d3 T5 T5' K5
          generalize ((w5.setCell ⟨b, q * 6 + 5, none⟩ (.bool false)).setCell ⟨b, o * 6 + 5, none⟩ (.bool true)).drew = w7 at *
          obtain ⟨htp7, hd7⟩ := RepB.fin HL.out HQ.out
          have HD7 := Lib.hid hd7; clear hd7 HQ
          generalize upd (upd m5 q { m5 q with red := false }) o { upd m5 q { m5 q with red := false } o with red := true } = m7 at *
          have T8 := Lib.hid (T7.out.put (i := tp7) (cells_red _ false) (by decide))
          have c1 := T7.out.st.cell 1
          have ct := T7.out.st.cell 2
          have cx : w7.cell? ⟨b, tp7 * 6 + 5, none⟩ = some (.bool (m7 tp7).red) := T7.out.cell htp7 (by decide)
          have fx := T7.out.free (tp7 * 6 + 5)
          go_wp2
          go_region
          try rw [Exit.noGoto_normal]
          go_end0
          exact ⟨⟨_, rfl⟩, _, _, T8.out.drew, HD7.out, (K7.out.setCell (p := ⟨b, tp7 * 6 + 5, none⟩) (.inl (.inr rfl)) _).drew⟩
end Go.Proofs.Ytfbbmpmgceghfaa
