/-
  The document's own probe (canterref08.Probe): Update answers, and leaves, what package probe does. Conditions: now and the round trip are numbers of 64 bits.
-/
import Derived.Test.YtcjgpkjhfbamfaaGreatJ01
import Derived.Test.YtcjgpkjhfbamfaaGreatJ09
import Derived.Test.YtcjgpkjhfbamfaaGreatJ14
set_option linter.unusedVariables false
set_option linter.unusedSimpArgs false
namespace Go.Proofs.YtcjgpkjhfbamfaaGreat
open Go.RowKit
set_option maxRecDepth 100000
variable {Fm : Fr} {oo : Nat}

/-- A Probe of canterref08 that answers as x does: best; stamp; whether it probes; whether it waits; while it waits: whether a round was seen, and till when. -/
structure RPrbAt (Fm : Fr) (oo : Nat) (w : World) (g : Nat) (x : Prb) : Prop where
  fit : x.Fit
  at_ : ∃ r d, Part Fm oo w g #[.int .u64 x.b, .int .u64 x.s, .bool x.i, .bool (x.i && !(x.u == 0)), .bool r, .int .u64 d].toList ∧ (x.i = true → x.u ≠ 0 → r = x.r ∧ d = x.u)
section
variable {w w' : World} {g : Nat} {x : Prb} {R : Nat → Prop}
theorem RPrbAt.keep (h : RPrbAt Fm oo w g x) (hk : Keep R w w') (hg : ¬ R g) : RPrbAt Fm oo w' g x := by
  obtain ⟨hf, r, d, hw, hd⟩ := h
  exact ⟨hf, r, d, hw.keep hk hg, hd⟩
theorem RPrbAt.lt (h : RPrbAt Fm oo w g x) : g < w.heap.size := by
  obtain ⟨hf, r, d, hw, hd⟩ := h
  exact hw.lt
theorem RPrbAt.c0 (h : RPrbAt Fm oo w g x) : w.cell? ⟨g, oo, none⟩ = some (.int .u64 x.b) := by
  obtain ⟨hf, r, d, hw, hd⟩ := h
  exact hw.cell0
theorem RPrbAt.c2 (h : RPrbAt Fm oo w g x) : w.cell? ⟨g, oo + 2, none⟩ = some (.bool x.i) := by
  obtain ⟨hf, r, d, hw, hd⟩ := h
  exact hw.cell 2
end
theorem satAdd_pos {a b : Int} (ha : 0 ≤ a) (hb : 0 < b) : satAdd a b ≠ 0 := by unfold satAdd; split <;> omega
set_option maxHeartbeats 4000000 in
set_option maxRecDepth 100000 in
theorem rprupd_any (g : Nat) (x : Prb) (l : Lok) (w : World) (h : RPrbAt Fm oo w g x) (hn : Num l.n) (ht : Num l.t) :
    Calls Tryz.prog 81 #[.pointer (some ⟨g, oo, none⟩), .int .u64 l.n, .int .u64 l.t, .bool l.g, .int .u64 l.f, .int .u64 l.o] w fun e w' => e = .returned (.tuple #[.bool (begB x l), .bool (leaB x l)]) ∧ RPrbAt Fm oo w' g (updB x l) ∧ Keep (fun k => k = g) w w' := by
  have HF := Lib.hid (h.fit.upd hn ht)
  obtain ⟨hfit, r, d, hW, hD⟩ := h
  obtain ⟨xb, xs, xi, xu, xr⟩ := x
  obtain ⟨E, hE⟩ : ∃ E, expB ⟨xb, xs, xi, xu, xr⟩ l.n = E := ⟨_, rfl⟩
  obtain ⟨K, hK⟩ : ∃ K, tookB ⟨xb, xs, xi, xu, xr⟩ l.t E = K := ⟨_, rfl⟩
  obtain ⟨yb, hyb⟩ : ∃ v, (takeB ⟨xb, xs, xi, xu, xr⟩ l.n l.t E).b = v := ⟨_, rfl⟩
  obtain ⟨ys, hys⟩ : ∃ v, (takeB ⟨xb, xs, xi, xu, xr⟩ l.n l.t E).s = v := ⟨_, rfl⟩
  have HYK : Hid ((K = true → yb = l.t ∧ ys = l.n) ∧ (K = false → yb = xb ∧ ys = xs)) := Lib.hid (by
    subst hyb; subst hys
    exact ⟨fun k => by rw [takeB, hK, k]; exact ⟨rfl, rfl⟩, fun k => by rw [takeB, hK, k]; exact ⟨rfl, rfl⟩⟩)
  obtain ⟨wt, hwt⟩ : ∃ wt, (xi && !(xu == 0)) = wt := ⟨_, rfl⟩
  have HW : Hid (Part Fm oo w g #[.int .u64 xb, .int .u64 xs, .bool xi, .bool wt, .bool r, .int .u64 d].toList) := Lib.hid (by subst hwt; exact hW)
  have HEX := Lib.hid hE
  have HKK := Lib.hid hK
  have HYB := Lib.hid hyb
  have HYS := Lib.hid hys
  have HWT := Lib.hid hwt
  have HD := Lib.hid hD
  have NN := Lib.hid hn
  have NS : Hid (Num xs) := Lib.hid hfit.s
  have c0 : w.cell? ⟨g, oo, none⟩ = some (.int .u64 xb) := HW.out.cell0
  have c1 : w.cell? ⟨g, oo + 1, none⟩ = some (.int .u64 xs) := HW.out.cell 1
  clear hn ht hfit hW hD hE hK hyb hys hwt
  go_enter Tryz.func81, Tryz.ntmps81
  go_upto_region 1 with fail
  go_cut [14] (fun s14 wx => s14 = .bool E ∧ wx = w)
  case first =>
    by_cases hb : 0 < xb
    · have HE : Hid (decide (satAdd xs 10000000000 < l.n) = E) := Lib.hid (by rw [← HEX.out]; simp [expB, hb])
      go_wp2_with fail
      refine (radd_any _ _ NS.out.1 NS.out.2 (by decide) (by decide) _).mono ?_
      rintro e w' ⟨rfl, rfl⟩
      go_wp2
      go_meet
      exact ⟨congrArg Value.bool HE.out, rfl⟩
    · have HE : Hid (false = E) := Lib.hid (by rw [← HEX.out]; simp [expB, hb])
      have hb' : decide (0 < xb) = false := by simp [hb]
      go_wp2
      go_meet
      exact ⟨congrArg Value.bool HE.out, rfl⟩
  case rest =>
    obtain ⟨rfl, hwc⟩ := hcut
    have hwc := hwc.symm
    subst hwc
    go_upto_region 2 with fail
    go_cut [48] (fun s48 wx => s48 = .bool K ∧ wx = w)
    case first =>
      by_cases h0 : 0 < l.t
      · by_cases h1 : xb = 0
        · have HK : Hid (true = K) := Lib.hid (by rw [← HKK.out]; simp [tookB, h0, h1])
          have q1 : (xb == 0) = true := by simp [h1]
          clear h1
          go_wp2
          go_meet
          exact ⟨congrArg Value.bool HK.out, rfl⟩
        · have q1 : (xb == 0) = false := by simp [h1]
          by_cases h2 : l.t ≤ xb
          · have HK : Hid (true = K) := Lib.hid (by rw [← HKK.out]; simp [tookB, h0, h2])
            clear h1
            go_wp2
            go_meet
            exact ⟨congrArg Value.bool HK.out, rfl⟩
          · have q2 : decide (l.t ≤ xb) = false := by simp [h2]
            have HK : Hid (E = K) := Lib.hid (by rw [← HKK.out]; simp [tookB, h0, h1, h2])
            clear h1
            go_wp2
            go_meet
            exact ⟨congrArg Value.bool HK.out, rfl⟩
      · have HK : Hid (false = K) := Lib.hid (by rw [← HKK.out]; simp [tookB, h0])
        have q0 : decide (0 < l.t) = false := by simp [h0]
        go_wp2
        go_meet
        exact ⟨congrArg Value.bool HK.out, rfl⟩
    case rest =>
      obtain ⟨rfl, hwc⟩ := hcut
      have hwc := hwc.symm
      subst hwc
      go_upto_if 48 with fail
      go_cut [14] (fun s14 wx => s14 = .bool E ∧ Part Fm oo wx g #[.int .u64 yb, .int .u64 ys, .bool xi, .bool wt, .bool r, .int .u64 d].toList ∧ Keep (fun k => k = g) w wx)
      case first =>
        have f0 := HW.out.free0
        have HP0 := Lib.hid (HW.out.put0 (.int .u64 l.t))
        have g1 : (w.setCell ⟨g, oo, none⟩ (.int .u64 l.t)).cell? ⟨g, oo + 1, none⟩ = some (.int .u64 xs) := HP0.out.cell 1
        have k1 := HP0.out.free 1
        have HP1 := Lib.hid (HP0.out.put 1 (.int .u64 l.n))
        have HKP := Lib.hid (((Keep.refl (fun k => k = g) w).setCell (p := ⟨g, oo, none⟩) (.inl rfl) (.int .u64 l.t)).setCell (p := ⟨g, oo + 1, none⟩) (.inl rfl) (.int .u64 l.n))
        cases K
        · obtain ⟨rfl, rfl⟩ := HYK.out.2 rfl
          go_wp2
          go_meet
          exact ⟨rfl, HW.out, Keep.refl _ _⟩
        · obtain ⟨rfl, rfl⟩ := HYK.out.1 rfl
          go_wp2
          go_meet
          exact ⟨rfl, HP1.out, HKP.out⟩
      case rest =>
        obtain ⟨rfl, hW3, hK3⟩ := hcut
        have H3 := Lib.hid hW3
        have K3 := Lib.hid hK3
        clear hW3 hK3 c0 c1 HW
        generalize wc = w3 at *
        have e1 : w3.cell? ⟨g, oo + 1, none⟩ = some (.int .u64 ys) := H3.out.cell 1
        have e2 : w3.cell? ⟨g, oo + 2, none⟩ = some (.bool xi) := H3.out.cell 2
        have e3 : w3.cell? ⟨g, oo + 3, none⟩ = some (.bool wt) := H3.out.cell 3
        have e4 : w3.cell? ⟨g, oo + 4, none⟩ = some (.bool r) := H3.out.cell 4
        have e5 : w3.cell? ⟨g, oo + 5, none⟩ = some (.int .u64 d) := H3.out.cell 5
        have f1 := H3.out.free 1
        have f2 := H3.out.free 2
        have f3 := H3.out.free 3
        have f4 := H3.out.free 4
        have f5 := H3.out.free 5
        cases xi
        · obtain rfl : false = wt := HWT.out
          have HL : Hid (false = leaB ⟨xb, xs, false, xu, xr⟩ l) := Lib.hid (by simp [leaB])
          cases E
          · have HB : Hid (false = begB ⟨xb, xs, false, xu, xr⟩ l) := Lib.hid (by simp [begB, HEX.out])
            have HU : Hid (∀ y, goB ⟨xb, xs, false, xu, xr⟩ y l = ⟨y.b, y.s, false, xu, xr⟩) := Lib.hid (fun y => by simp [goB, ← HB.out])
            go_wp2
            go_ret2
            refine ⟨ret_bb HB.out HL.out, ⟨HF.out, ?_⟩, ?_⟩
            · rw [updB, HEX.out, HU.out, HYB.out, HYS.out]
              exact ⟨r, d, H3.out, fun h => by cases h⟩
            · exact K3.out
          · have HB : Hid (true = begB ⟨xb, xs, false, xu, xr⟩ l) := Lib.hid (by simp [begB, HEX.out])
            have HU : Hid (∀ y, goB ⟨xb, xs, false, xu, xr⟩ y l = ⟨y.b, y.s, true, 0, xr⟩) := Lib.hid (fun y => by simp [goB, ← HB.out])
            have HP0 := Lib.hid (H3.out.put 2 (.bool true))
            have g3 : (w3.setCell ⟨g, oo + 2, none⟩ (.bool true)).cell? ⟨g, oo + 3, none⟩ = some (.bool false) := HP0.out.cell 3
            have k3 := HP0.out.free 3
            have HP1 := Lib.hid (HP0.out.put 3 (.bool false))
            have g4 : ((w3.setCell ⟨g, oo + 2, none⟩ (.bool true)).setCell ⟨g, oo + 3, none⟩ (.bool false)).cell? ⟨g, oo + 4, none⟩ = some (.bool r) := HP1.out.cell 4
            have k4 := HP1.out.free 4
            have HP2 := Lib.hid (HP1.out.put 4 (.bool false))
            have HK6 := Lib.hid (((K3.out.setCell (p := ⟨g, oo + 2, none⟩) (.inl rfl) (.bool true)).setCell (p := ⟨g, oo + 3, none⟩) (.inl rfl) (.bool false)).setCell (p := ⟨g, oo + 4, none⟩) (.inl rfl) (.bool false))
            go_wp2
            go_ret2
            refine ⟨ret_bb HB.out HL.out, ⟨HF.out, ?_⟩, ?_⟩
            · rw [updB, HEX.out, HU.out, HYB.out, HYS.out]
              exact ⟨_, _, HP2.out, fun _ h => absurd rfl h⟩
            · exact HK6.out
        · have HB : Hid (false = begB ⟨xb, xs, true, xu, xr⟩ l) := Lib.hid (by simp [begB])
          go_upto_region 4 with fail
          go_cut [64] (fun s64 wx => s64 = .bool false ∧ wx = w3)
          case first =>
            cases E
            · go_wp2
              go_meet
              exact ⟨rfl, rfl⟩
            · go_wp2
              go_meet
              exact ⟨rfl, rfl⟩
          case rest =>
            obtain ⟨rfl, hwc⟩ := hcut
            have hwc := hwc.symm
            subst hwc
            by_cases hu : xu = 0
            · obtain rfl : false = wt := by rw [← HWT.out, hu]; rfl
              have HL : Hid (false = leaB ⟨xb, xs, true, xu, xr⟩ l) := Lib.hid (by simp [leaB, hu])
              by_cases hf : l.f ≤ l.o
              · have HU : Hid (∀ y, goB ⟨xb, xs, true, xu, xr⟩ y l = ⟨y.b, y.s, true, satAdd l.n 200000000, false⟩) := Lib.hid (fun y => by simp [goB, begB, hu, hf])
                clear hu
                have HNZ : Hid ((satAdd l.n 200000000 == 0) = false) := Lib.hid (by simp [satAdd_pos NN.out.1 (show (0 : Int) < 200000000 by decide)])
                have HP0 := Lib.hid (H3.out.put 3 (.bool true))
                have g4 : (w3.setCell ⟨g, oo + 3, none⟩ (.bool true)).cell? ⟨g, oo + 4, none⟩ = some (.bool r) := HP0.out.cell 4
                have k4 := HP0.out.free 4
                have HP1 := Lib.hid (HP0.out.put 4 (.bool false))
                have g5 : ((w3.setCell ⟨g, oo + 3, none⟩ (.bool true)).setCell ⟨g, oo + 4, none⟩ (.bool false)).cell? ⟨g, oo + 5, none⟩ = some (.int .u64 d) := HP1.out.cell 5
                have k5 := HP1.out.free 5
                have HP2 := Lib.hid (HP1.out.put 5 (.int .u64 (satAdd l.n 200000000)))
                have HK6 := Lib.hid (((K3.out.setCell (p := ⟨g, oo + 3, none⟩) (.inl rfl) (.bool true)).setCell (p := ⟨g, oo + 4, none⟩) (.inl rfl) (.bool false)).setCell (p := ⟨g, oo + 5, none⟩) (.inl rfl) (.int .u64 (satAdd l.n 200000000)))
                go_wp2_with fail
                refine (radd_any _ _ NN.out.1 NN.out.2 (by decide) (by decide) _).mono ?_
                rintro e w' ⟨rfl, rfl⟩
                go_wp2
                go_ret2
                refine ⟨ret_bb HB.out HL.out, ⟨HF.out, ?_⟩, ?_⟩
                · rw [updB, HEX.out, HU.out, HYB.out, HYS.out]
                  refine ⟨false, satAdd l.n 200000000, ?_, fun _ _ => ⟨rfl, rfl⟩⟩
                  rw [show (true && !(satAdd l.n 200000000 == 0)) = true by rw [HNZ.out]; rfl]
                  exact HP2.out
                · exact HK6.out
              · have HU : Hid (∀ y, goB ⟨xb, xs, true, xu, xr⟩ y l = ⟨y.b, y.s, true, xu, xr⟩) := Lib.hid (fun y => by simp [goB, ← HB.out, hu, hf])
                have qf : decide (l.f ≤ l.o) = false := by simp [hf]
                have HU0 := Lib.hid hu
                clear hu
                go_wp2
                go_ret2
                refine ⟨ret_bb HB.out HL.out, ⟨HF.out, ?_⟩, ?_⟩
                · rw [updB, HEX.out, HU.out, HYB.out, HYS.out]
                  refine ⟨r, d, ?_, fun _ h => absurd HU0.out h⟩
                  rw [show (true && !(xu == 0)) = false by rw [HU0.out]; rfl]
                  exact H3.out
                · exact K3.out
            · have HQ : Hid ((xu == 0) = false) := Lib.hid (by simp [hu])
              obtain rfl : true = wt := by rw [← HWT.out, HQ.out]; rfl
              obtain ⟨rfl, rfl⟩ : xr = r ∧ xu = d := ⟨(HD.out rfl hu).1.symm, (HD.out rfl hu).2.symm⟩
              have HX : Hid (xu ≠ 0) := Lib.hid hu
              cases xr
              · by_cases hg : l.g = true
                · by_cases hl : xu < l.n
                  · have HL : Hid (true = leaB ⟨xb, xs, true, xu, false⟩ l) := Lib.hid (by simp [leaB, hu, hg, hl])
                    have HU : Hid (∀ y, goB ⟨xb, xs, true, xu, false⟩ y l = ⟨y.b, l.n, false, xu, true⟩) := Lib.hid (fun y => by simp [goB, ← HB.out, ← HL.out, hu])
                    clear hu
                    have HP0 := Lib.hid (H3.out.put 4 (.bool true))
                    have HK4 := Lib.hid (K3.out.setCell (p := ⟨g, oo + 4, none⟩) (.inl rfl) (.bool true))
                    have g4 : (w3.setCell ⟨g, oo + 4, none⟩ (.bool true)).cell? ⟨g, oo + 4, none⟩ = some (.bool true) := HP0.out.cell 4
                    have g5 : (w3.setCell ⟨g, oo + 4, none⟩ (.bool true)).cell? ⟨g, oo + 5, none⟩ = some (.int .u64 xu) := HP0.out.cell 5
                    have g1 : (w3.setCell ⟨g, oo + 4, none⟩ (.bool true)).cell? ⟨g, oo + 1, none⟩ = some (.int .u64 ys) := HP0.out.cell 1
                    have k1 := HP0.out.free 1
                    have HP1 := Lib.hid (HP0.out.put 1 (.int .u64 l.n))
                    have i2 : ((w3.setCell ⟨g, oo + 4, none⟩ (.bool true)).setCell ⟨g, oo + 1, none⟩ (.int .u64 l.n)).cell? ⟨g, oo + 2, none⟩ = some (.bool true) := HP1.out.cell 2
                    have k2 := HP1.out.free 2
                    have HP2 := Lib.hid (HP1.out.put 2 (.bool false))
                    have i3 : (((w3.setCell ⟨g, oo + 4, none⟩ (.bool true)).setCell ⟨g, oo + 1, none⟩ (.int .u64 l.n)).setCell ⟨g, oo + 2, none⟩ (.bool false)).cell? ⟨g, oo + 3, none⟩ = some (.bool true) := HP2.out.cell 3
                    have k3 := HP2.out.free 3
                    have HP3 := Lib.hid (HP2.out.put 3 (.bool false))
                    have HK7 := Lib.hid (((HK4.out.setCell (p := ⟨g, oo + 1, none⟩) (.inl rfl) (.int .u64 l.n)).setCell (p := ⟨g, oo + 2, none⟩) (.inl rfl) (.bool false)).setCell (p := ⟨g, oo + 3, none⟩) (.inl rfl) (.bool false))
                    go_wp2
                    go_ret2
                    refine ⟨ret_bb HB.out HL.out, ⟨HF.out, ?_⟩, ?_⟩
                    · rw [updB, HEX.out, HU.out, HYB.out]
                      exact ⟨_, _, HP3.out, fun h => by cases h⟩
                    · exact HK7.out
                  · have HL : Hid (false = leaB ⟨xb, xs, true, xu, false⟩ l) := Lib.hid (by simp [leaB, hu, hg, hl])
                    have HU : Hid (∀ y, goB ⟨xb, xs, true, xu, false⟩ y l = ⟨y.b, y.s, true, xu, true⟩) := Lib.hid (fun y => by simp [goB, ← HB.out, ← HL.out, hu, hg])
                    have ql : decide (xu < l.n) = false := by simp [hl]
                    clear hu
                    have HP0 := Lib.hid (H3.out.put 4 (.bool true))
                    have HK4 := Lib.hid (K3.out.setCell (p := ⟨g, oo + 4, none⟩) (.inl rfl) (.bool true))
                    have g4 : (w3.setCell ⟨g, oo + 4, none⟩ (.bool true)).cell? ⟨g, oo + 4, none⟩ = some (.bool true) := HP0.out.cell 4
                    have g5 : (w3.setCell ⟨g, oo + 4, none⟩ (.bool true)).cell? ⟨g, oo + 5, none⟩ = some (.int .u64 xu) := HP0.out.cell 5
                    go_wp2
                    go_ret2
                    refine ⟨ret_bb HB.out HL.out, ⟨HF.out, ?_⟩, ?_⟩
                    · rw [updB, HEX.out, HU.out, HYB.out, HYS.out]
                      refine ⟨true, xu, ?_, fun _ _ => ⟨rfl, rfl⟩⟩
                      rw [show (true && !(xu == 0)) = true by rw [HQ.out]; rfl]
                      exact HP0.out
                    · exact HK4.out
                · have hg' : l.g = false := by simpa using hg
                  clear hg
                  have HL : Hid (false = leaB ⟨xb, xs, true, xu, false⟩ l) := Lib.hid (by simp [leaB, hg'])
                  have HU : Hid (∀ y, goB ⟨xb, xs, true, xu, false⟩ y l = ⟨y.b, y.s, true, xu, false⟩) := Lib.hid (fun y => by simp [goB, ← HB.out, ← HL.out, hu, hg'])
                  clear hu
                  have HP0 := Lib.hid (H3.out.put 4 (.bool false))
                  have HK4 := Lib.hid (K3.out.setCell (p := ⟨g, oo + 4, none⟩) (.inl rfl) (.bool false))
                  have g4 : (w3.setCell ⟨g, oo + 4, none⟩ (.bool false)).cell? ⟨g, oo + 4, none⟩ = some (.bool false) := HP0.out.cell 4
                  go_wp2
                  go_ret2
                  refine ⟨ret_bb HB.out HL.out, ⟨HF.out, ?_⟩, ?_⟩
                  · rw [updB, HEX.out, HU.out, HYB.out, HYS.out]
                    refine ⟨false, xu, ?_, fun _ _ => ⟨rfl, rfl⟩⟩
                    rw [show (true && !(xu == 0)) = true by rw [HQ.out]; rfl]
                    exact HP0.out
                  · exact HK4.out
              · by_cases hl : xu < l.n
                · have HL : Hid (true = leaB ⟨xb, xs, true, xu, true⟩ l) := Lib.hid (by simp [leaB, hu, hl])
                  have HU : Hid (∀ y, goB ⟨xb, xs, true, xu, true⟩ y l = ⟨y.b, l.n, false, xu, true⟩) := Lib.hid (fun y => by simp [goB, ← HB.out, ← HL.out, hu])
                  clear hu
                  have HP0 := Lib.hid (H3.out.put 4 (.bool true))
                  have HK4 := Lib.hid (K3.out.setCell (p := ⟨g, oo + 4, none⟩) (.inl rfl) (.bool true))
                  have g4 : (w3.setCell ⟨g, oo + 4, none⟩ (.bool true)).cell? ⟨g, oo + 4, none⟩ = some (.bool true) := HP0.out.cell 4
                  have g5 : (w3.setCell ⟨g, oo + 4, none⟩ (.bool true)).cell? ⟨g, oo + 5, none⟩ = some (.int .u64 xu) := HP0.out.cell 5
                  have g1 : (w3.setCell ⟨g, oo + 4, none⟩ (.bool true)).cell? ⟨g, oo + 1, none⟩ = some (.int .u64 ys) := HP0.out.cell 1
                  have k1 := HP0.out.free 1
                  have HP1 := Lib.hid (HP0.out.put 1 (.int .u64 l.n))
                  have i2 : ((w3.setCell ⟨g, oo + 4, none⟩ (.bool true)).setCell ⟨g, oo + 1, none⟩ (.int .u64 l.n)).cell? ⟨g, oo + 2, none⟩ = some (.bool true) := HP1.out.cell 2
                  have k2 := HP1.out.free 2
                  have HP2 := Lib.hid (HP1.out.put 2 (.bool false))
                  have i3 : (((w3.setCell ⟨g, oo + 4, none⟩ (.bool true)).setCell ⟨g, oo + 1, none⟩ (.int .u64 l.n)).setCell ⟨g, oo + 2, none⟩ (.bool false)).cell? ⟨g, oo + 3, none⟩ = some (.bool true) := HP2.out.cell 3
                  have k3 := HP2.out.free 3
                  have HP3 := Lib.hid (HP2.out.put 3 (.bool false))
                  have HK7 := Lib.hid (((HK4.out.setCell (p := ⟨g, oo + 1, none⟩) (.inl rfl) (.int .u64 l.n)).setCell (p := ⟨g, oo + 2, none⟩) (.inl rfl) (.bool false)).setCell (p := ⟨g, oo + 3, none⟩) (.inl rfl) (.bool false))
                  go_wp2
                  go_ret2
                  refine ⟨ret_bb HB.out HL.out, ⟨HF.out, ?_⟩, ?_⟩
                  · rw [updB, HEX.out, HU.out, HYB.out]
                    exact ⟨_, _, HP3.out, fun h => by cases h⟩
                  · exact HK7.out
                · have HL : Hid (false = leaB ⟨xb, xs, true, xu, true⟩ l) := Lib.hid (by simp [leaB, hu, hl])
                  have HU : Hid (∀ y, goB ⟨xb, xs, true, xu, true⟩ y l = ⟨y.b, y.s, true, xu, true⟩) := Lib.hid (fun y => by simp [goB, ← HB.out, ← HL.out, hu])
                  have ql : decide (xu < l.n) = false := by simp [hl]
                  clear hu
                  have HP0 := Lib.hid (H3.out.put 4 (.bool true))
                  have HK4 := Lib.hid (K3.out.setCell (p := ⟨g, oo + 4, none⟩) (.inl rfl) (.bool true))
                  have g4 : (w3.setCell ⟨g, oo + 4, none⟩ (.bool true)).cell? ⟨g, oo + 4, none⟩ = some (.bool true) := HP0.out.cell 4
                  have g5 : (w3.setCell ⟨g, oo + 4, none⟩ (.bool true)).cell? ⟨g, oo + 5, none⟩ = some (.int .u64 xu) := HP0.out.cell 5
                  go_wp2
                  go_ret2
                  refine ⟨ret_bb HB.out HL.out, ⟨HF.out, ?_⟩, ?_⟩
                  · rw [updB, HEX.out, HU.out, HYB.out, HYS.out]
                    refine ⟨true, xu, ?_, fun _ _ => ⟨rfl, rfl⟩⟩
                    rw [show (true && !(xu == 0)) = true by rw [HQ.out]; rfl]
                    exact HP0.out
                  · exact HK4.out

end Go.Proofs.YtcjgpkjhfbamfaaGreat
