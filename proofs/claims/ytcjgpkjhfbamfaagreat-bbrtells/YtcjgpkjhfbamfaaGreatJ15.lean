/-
  The document's own cycle (canterref08.Cycle) inside a block: Start, Gain, Update answer, and leave, what package cycle does. Conditions: numbers are of 64 bits; phases are not below nothing.
-/
import Derived.Test.YtcjgpkjhfbamfaaGreatJ08
import Derived.Test.YtcjgpkjhfbamfaaGreatJ14
set_option linter.unusedVariables false
namespace Go.Proofs.YtcjgpkjhfbamfaaGreat
open Go.RowKit
set_option maxRecDepth 100000
variable {Fm : Fr} {oo : Nat}
/-- A Cycle of canterref08. -/
structure RCycAt (Fm : Fr) (oo : Nat) (w : World) (g : Nat) (x : Cst) : Prop where
  whole : Part Fm oo w g (cycC x).toList
  fit : x.Fit
set_option maxHeartbeats 1000000 in
theorem rcystart_any (g : Nat) (x : Cst) (n p : Int) (w : World) (h : RCycAt Fm oo w g x) (hn : Num n) (hp : 0 ≤ p) (hp8 : p ≤ 8) : Calls Tryz.prog 80 #[.pointer (some ⟨g, oo, none⟩), .int .u64 n, .int .i64 p] w fun e w' => (∃ v, e = .returned v) ∧ RCycAt Fm oo w' g (startC n p) ∧ Keep (fun k => k = g) w w' := by
  obtain ⟨T, hT⟩ : ∃ T, p % 8 = T := ⟨_, rfl⟩
  have ht : p.tmod 8 = T := by rw [Int.tmod_eq_emod_of_nonneg hp]; exact hT
  have ht0 : ¬ T < 0 := by omega
  have HE : Hid (startC n p = ⟨T, n⟩) := Lib.hid (by unfold startC; rw [hT])
  have c0 : w.cell? ⟨g, oo, none⟩ = some (.int .i64 x.p) := h.whole.cell0
  have f0 := h.whole.free0
  have HP0 := Lib.hid (h.whole.put0 (.int .i64 T))
  have c1 : (w.setCell ⟨g, oo, none⟩ (.int .i64 T)).cell? ⟨g, oo + 1, none⟩ = some (.int .u64 x.s) := HP0.out.cell 1
  have f1 := HP0.out.free 1
  have HP1 := Lib.hid (HP0.out.put 1 (.int .u64 n))
  have d0 : ((w.setCell ⟨g, oo, none⟩ (.int .i64 T)).setCell ⟨g, oo + 1, none⟩ (.int .u64 n)).cell? ⟨g, oo, none⟩ = some (.int .i64 T) := HP1.out.cell0
  have HK := Lib.hid (((Keep.refl (fun k => k = g) w).setCell (p := ⟨g, oo, none⟩) (.inl rfl) (.int .i64 T)).setCell (p := ⟨g, oo + 1, none⟩) (.inl rfl) (.int .u64 n))
  have HF := Lib.hid (fit_start hn p)
  clear h hT hn hp hp8
  go_enter Tryz.func80, Tryz.ntmps80
  go_wp2
  go_end0
  exact ⟨⟨_, rfl⟩, ⟨by rw [HE.out]; exact HP1.out, HF.out⟩, HK.out⟩
set_option maxHeartbeats 400000 in
theorem rcygain_any (g : Nat) (x : Cst) (w : World) (h : RCycAt Fm oo w g x) : Calls Tryz.prog 82 #[.pointer (some ⟨g, oo, none⟩)] w fun e w' => e = .returned (.int .u64 (gainC x)) ∧ w = w' := by
  have c0 : w.cell? ⟨g, oo, none⟩ = some (.int .i64 x.p) := h.whole.cell0
  clear h
  obtain ⟨p, s⟩ := x
  by_cases h0 : p = 0
  · subst h0
    go_enter Tryz.func82, Tryz.ntmps82
    go_wp2
    go_ret
    exact ⟨rfl, rfl⟩
  · by_cases h1 : p = 1
    · subst h1
      go_enter Tryz.func82, Tryz.ntmps82
      go_wp2
      go_ret
      exact ⟨rfl, rfl⟩
    · have HG : Hid (256 = gainC ⟨p, s⟩) := Lib.hid (by simp [gainC, h0, h1])
      have e0 : (p == 0) = false := by simp [h0]
      have e1 : (p == 1) = false := by simp [h1]
      clear h0 h1
      go_enter Tryz.func82, Tryz.ntmps82
      go_wp2
      go_ret
      exact ⟨ret_i HG.out, rfl⟩
set_option maxHeartbeats 2000000 in
theorem rcyupd_any (g : Nat) (x : Cst) (l : CLok) (w : World) (h : RCycAt Fm oo w g x) (hn : Num l.n) (hl0 : 0 ≤ l.l) :
    Calls Tryz.prog 77 #[.pointer (some ⟨g, oo, none⟩), .int .u64 l.n, .int .u64 l.r, .int .u64 l.l, .int .u64 l.f, .int .u64 l.u, .int .u64 l.o] w fun e w' => e = .returned (.bool (begC x l)) ∧ RCycAt Fm oo w' g (updC x l) ∧ Keep (fun k => k = g) w w' := by
  obtain ⟨Z, hZ⟩ : ∃ Z, satSub l.n x.s = Z := ⟨_, rfl⟩
  have HZ := Lib.hid hZ
  have HN := Lib.hid hn
  have HS := Lib.hid h.fit.s
  have HX := Lib.hid h
  have HP : Hid (0 ≤ x.p + 1 ∧ x.p + 1 ≤ 8) := Lib.hid (by have := h.fit.p0; have := h.fit.p7; omega)
  have hwp : IntKind.i64.wrap (x.p + 1) = x.p + 1 := by have := h.fit.p0; have := h.fit.p7; rw [IntKind.wrap_i64]; omega
  have c0 : w.cell? ⟨g, oo, none⟩ = some (.int .i64 x.p) := h.whole.cell0
  have c1 : w.cell? ⟨g, oo + 1, none⟩ = some (.int .u64 x.s) := h.whole.cell 1
  have hov : overC x l = decide (l.r < Z) := by unfold overC; rw [hZ]
  clear h hn hZ
  by_cases hp0 : x.p = 0
  · have q0 : (x.p == 0) = true := by simp [hp0]
    by_cases ho : l.r < Z
    · by_cases hl : 0 < l.l
      · have hbg : begC x l = true := by
          have : (l.l == 0) = false := by simp; omega
          simp [begC, hp0, hov, ho, this]
        clear hp0 hov
        have HB : Hid (begC x l = true ∧ updC x l = startC l.n (x.p + 1)) := Lib.hid ⟨hbg, by simp [updC, hbg]⟩
        clear hbg
        go_enter Tryz.func77, Tryz.ntmps77
        go_wp2_with fail
        refine (rsub_any _ _ HN.out.1 HN.out.2 HS.out.1 HS.out.2 _).mono ?_
        rintro e w' ⟨rfl, rfl⟩
        rw [HZ.out]
        go_wp2_with fail
        refine (rcystart_any _ _ l.n (x.p + 1) _ HX.out HN.out HP.out.1 HP.out.2).mono ?_
        rintro e w1 ⟨⟨_, rfl⟩, h1, k1⟩
        have H1 := Lib.hid h1; have K1 := Lib.hid k1; clear h1 k1
        go_wp2
        go_ret
        exact ⟨ret_b HB.out.1.symm, by rw [HB.out.2]; exact H1.out, K1.out⟩
      · have hll : l.l = 0 := by omega
        have hl' : decide (0 < l.l) = false := by simp [hl]
        by_cases hf : l.u ≤ l.f
        · have hbg : begC x l = true := by
            have : ¬ l.f < l.u := by omega
            simp [begC, hp0, hov, ho, this]
          clear hp0 hov hll
          have HB : Hid (begC x l = true ∧ updC x l = startC l.n (x.p + 1)) := Lib.hid ⟨hbg, by simp [updC, hbg]⟩
          clear hbg
          go_enter Tryz.func77, Tryz.ntmps77
          go_wp2_with fail
          refine (rsub_any _ _ HN.out.1 HN.out.2 HS.out.1 HS.out.2 _).mono ?_
          rintro e w' ⟨rfl, rfl⟩
          rw [HZ.out]
          go_wp2_with fail
          refine (rcystart_any _ _ l.n (x.p + 1) _ HX.out HN.out HP.out.1 HP.out.2).mono ?_
          rintro e w1 ⟨⟨_, rfl⟩, h1, k1⟩
          have H1 := Lib.hid h1; have K1 := Lib.hid k1; clear h1 k1
          go_wp2
          go_ret
          exact ⟨ret_b HB.out.1.symm, by rw [HB.out.2]; exact H1.out, K1.out⟩
        · have hf' : decide (l.u ≤ l.f) = false := by simp [hf]
          have hbg : begC x l = false := by
            have : l.f < l.u := by omega
            simp [begC, hp0, hll, this]
          clear hp0 hov hll
          have HB : Hid (begC x l = false ∧ updC x l = x) := Lib.hid ⟨hbg, by simp [updC, hbg]⟩
          clear hbg
          go_enter Tryz.func77, Tryz.ntmps77
          go_wp2_with fail
          refine (rsub_any _ _ HN.out.1 HN.out.2 HS.out.1 HS.out.2 _).mono ?_
          rintro e w' ⟨rfl, rfl⟩
          rw [HZ.out]
          go_wp2
          go_ret
          exact ⟨ret_b HB.out.1.symm, by rw [HB.out.2]; exact HX.out, Keep.refl _ _⟩
    · have ho' : decide (l.r < Z) = false := by simp [ho]
      have hbg : begC x l = false := by simp [begC, hp0, hov, ho]
      clear hp0 hov
      have HB : Hid (begC x l = false ∧ updC x l = x) := Lib.hid ⟨hbg, by simp [updC, hbg]⟩
      clear hbg
      go_enter Tryz.func77, Tryz.ntmps77
      go_wp2_with fail
      refine (rsub_any _ _ HN.out.1 HN.out.2 HS.out.1 HS.out.2 _).mono ?_
      rintro e w' ⟨rfl, rfl⟩
      rw [HZ.out]
      go_wp2
      go_ret
      exact ⟨ret_b HB.out.1.symm, by rw [HB.out.2]; exact HX.out, Keep.refl _ _⟩
  · have q0 : (x.p == 0) = false := by simp [hp0]
    by_cases hp1 : x.p = 1
    · have q1 : (x.p == 1) = true := by simp [hp1]
      by_cases ho : l.r < Z
      · have hbg : begC x l = true := by simp [begC, hp1, hov, ho]
        clear hp0 hp1 hov
        have HB : Hid (begC x l = true ∧ updC x l = startC l.n (x.p + 1)) := Lib.hid ⟨hbg, by simp [updC, hbg]⟩
        clear hbg
        go_enter Tryz.func77, Tryz.ntmps77
        go_wp2_with fail
        refine (rsub_any _ _ HN.out.1 HN.out.2 HS.out.1 HS.out.2 _).mono ?_
        rintro e w' ⟨rfl, rfl⟩
        rw [HZ.out]
        go_wp2_with fail
        refine (rcystart_any _ _ l.n (x.p + 1) _ HX.out HN.out HP.out.1 HP.out.2).mono ?_
        rintro e w1 ⟨⟨_, rfl⟩, h1, k1⟩
        have H1 := Lib.hid h1; have K1 := Lib.hid k1; clear h1 k1
        go_wp2
        go_ret
        exact ⟨ret_b HB.out.1.symm, by rw [HB.out.2]; exact H1.out, K1.out⟩
      · have ho' : decide (l.r < Z) = false := by simp [ho]
        by_cases hf : l.f ≤ l.o
        · have hbg : begC x l = true := by
            have : ¬ l.o < l.f := by omega
            simp [begC, hp1, this]
          clear hp0 hp1 hov
          have HB : Hid (begC x l = true ∧ updC x l = startC l.n (x.p + 1)) := Lib.hid ⟨hbg, by simp [updC, hbg]⟩
          clear hbg
          go_enter Tryz.func77, Tryz.ntmps77
          go_wp2_with fail
          refine (rsub_any _ _ HN.out.1 HN.out.2 HS.out.1 HS.out.2 _).mono ?_
          rintro e w' ⟨rfl, rfl⟩
          rw [HZ.out]
          go_wp2_with fail
          refine (rcystart_any _ _ l.n (x.p + 1) _ HX.out HN.out HP.out.1 HP.out.2).mono ?_
          rintro e w1 ⟨⟨_, rfl⟩, h1, k1⟩
          have H1 := Lib.hid h1; have K1 := Lib.hid k1; clear h1 k1
          go_wp2
          go_ret
          exact ⟨ret_b HB.out.1.symm, by rw [HB.out.2]; exact H1.out, K1.out⟩
        · have hf' : decide (l.f ≤ l.o) = false := by simp [hf]
          have hbg : begC x l = false := by
            have : l.o < l.f := by omega
            simp [begC, hp1, hov, ho, this]
          clear hp0 hp1 hov
          have HB : Hid (begC x l = false ∧ updC x l = x) := Lib.hid ⟨hbg, by simp [updC, hbg]⟩
          clear hbg
          go_enter Tryz.func77, Tryz.ntmps77
          go_wp2_with fail
          refine (rsub_any _ _ HN.out.1 HN.out.2 HS.out.1 HS.out.2 _).mono ?_
          rintro e w' ⟨rfl, rfl⟩
          rw [HZ.out]
          go_wp2
          go_ret
          exact ⟨ret_b HB.out.1.symm, by rw [HB.out.2]; exact HX.out, Keep.refl _ _⟩
    · have q1 : (x.p == 1) = false := by simp [hp1]
      by_cases ho : l.r < Z
      · have hbg : begC x l = true := by simp [begC, hp0, hp1, hov, ho]
        clear hp0 hp1 hov
        have HB : Hid (begC x l = true ∧ updC x l = startC l.n (x.p + 1)) := Lib.hid ⟨hbg, by simp [updC, hbg]⟩
        clear hbg
        go_enter Tryz.func77, Tryz.ntmps77
        go_wp2_with fail
        refine (rsub_any _ _ HN.out.1 HN.out.2 HS.out.1 HS.out.2 _).mono ?_
        rintro e w' ⟨rfl, rfl⟩
        rw [HZ.out]
        go_wp2_with fail
        refine (rcystart_any _ _ l.n (x.p + 1) _ HX.out HN.out HP.out.1 HP.out.2).mono ?_
        rintro e w1 ⟨⟨_, rfl⟩, h1, k1⟩
        have H1 := Lib.hid h1; have K1 := Lib.hid k1; clear h1 k1
        go_wp2
        go_ret
        exact ⟨ret_b HB.out.1.symm, by rw [HB.out.2]; exact H1.out, K1.out⟩
      · have ho' : decide (l.r < Z) = false := by simp [ho]
        have hbg : begC x l = false := by simp [begC, hp0, hp1, hov, ho]
        clear hp0 hp1 hov
        have HB : Hid (begC x l = false ∧ updC x l = x) := Lib.hid ⟨hbg, by simp [updC, hbg]⟩
        clear hbg
        go_enter Tryz.func77, Tryz.ntmps77
        go_wp2_with fail
        refine (rsub_any _ _ HN.out.1 HN.out.2 HS.out.1 HS.out.2 _).mono ?_
        rintro e w' ⟨rfl, rfl⟩
        rw [HZ.out]
        go_wp2
        go_ret
        exact ⟨ret_b HB.out.1.symm, by rw [HB.out.2]; exact HX.out, Keep.refl _ _⟩
end Go.Proofs.YtcjgpkjhfbamfaaGreat
