/-
  Package winmax's Update and Reset answer what the document says, and leave what it says. Conditions: the window lies in memory as New makes it, or is nil; the numbers are of their kind.
-/
import Derived.Test.YtfbbmpmgceghfaaWinAge
namespace Go.Proofs.Ytfbbmpmgceghfaa
open Go.RowKit
set_option maxRecDepth 100000

theorem xupd_nil (t v : Int) (w : World) : Calls Try.prog 21 #[.pointer none, .int .u64 t, .int .u64 v] w fun e w' => e = .returned (.int .u64 0) ∧ w = w' := by
  go_enter Try.func21, Try.ntmps21
  go_wp2
  go_ret
  exact ⟨rfl, rfl⟩
theorem MaxAt.last {w : World} {g : Nat} {win t : Int} {x : Tri} (h : MaxAt w g win x) (ht : x.l ≤ t) (ht1 : t ≤ 18446744073709551615) : MaxAt (w.setCell ⟨g, 1, none⟩ (.int .u64 t)) g win (lastT x t) :=
  ⟨h.whole.put 1 _, h.fit.last ht ht1, h.win⟩
set_option maxHeartbeats 1000000 in
theorem xupd_any (g : Nat) (win t v : Int) (x : Tri) (w : World) (h : MaxAt w g win x) (ht : Num t) (hv : Num v) :
    Calls Try.prog 21 #[.pointer (some ⟨g, 0, none⟩), .int .u64 t, .int .u64 v] w fun e w' => e = .returned (.int .u64 (updT false win x t v).v0) ∧ MaxAt w' g win (updT false win x t v) ∧ Keep (fun k => k = g) w w' := by
  have H := Lib.hid h
  have HV := Lib.hid hv
  obtain ⟨L, hL⟩ : ∃ L, L = x.l := ⟨_, rfl⟩
  obtain ⟨T, hT⟩ : ∃ T, T = topT t L := ⟨_, rfl⟩
  obtain ⟨t0, h0⟩ : ∃ t0, t0 = t := ⟨_, rfl⟩
  have c1 : w.cell? ⟨g, 1, none⟩ = some (.int .u64 L) := hL ▸ h.whole.cell 1
  have HU : Hid (updT false win x t0 v = ageT win (rankT false win (lastT x T) T v) T v) := Lib.hid (by subst h0; subst hT; subst hL; rfl)
  have hT1 : x.l ≤ T := by subst hT; subst hL; exact topT_ge.2
  have hT2 : T ≤ 18446744073709551615 := by subst hT; subst hL; exact topT_num ht.2 h.fit.l1
  rw [show updT false win x t v = updT false win x t0 v from h0 ▸ rfl]
  clear h hv ht hL h0
  by_cases hc : L ≤ t
  · obtain rfl : T = t := hT.trans (if_pos hc)
    clear hT
    have hlt := H.out.lt
    have f1 := H.out.whole.free 1
    have B0 := Lib.hid (Whole.new (w.setCell ⟨g, 1, none⟩ (.int .u64 T)) 73 #[.int .u64 T, .int .u64 v])
    have H0 := Lib.hid ((H.out.last hT1 hT2).alloc (.cells #[.int .u64 T, .int .u64 v] 73))
    have K0 := Lib.hid (((Keep.refl (fun k => k = g) w).setCell (p := ⟨g, 1, none⟩) (.inl rfl) (.int .u64 T)).alloc (.cells #[.int .u64 T, .int .u64 v] 73))
    have hs : (w.setCell ⟨g, 1, none⟩ (.int .u64 T)).heap.size = w.heap.size := by simp [World.setCell]
    rw [hs] at B0
    clear hs
    go_enter Try.func21, Try.ntmps21
    go_wp2_with fail
    refine (rank_any g win v _ _ H0.out HV.out).mono ?_
    rintro e w1 ⟨⟨_, rfl⟩, h1, k1⟩
    have HN := Lib.hid (H.out.lt)
    have H1 : Hid (MaxAt w1 g win (rankT false win (lastT x T) T v)) := Lib.hid h1
    have B1 := Lib.hid (B0.out.keep k1 (by omega)); have K1 := Lib.hid (K0.out.trans k1); clear h1 k1 K0 B0 H0
    have b0 : w1.cell? ⟨w.heap.size, 0, none⟩ = some (.int .u64 T) := B1.out.cell 0
    have b1 : w1.cell? ⟨w.heap.size, 1, none⟩ = some (.int .u64 v) := B1.out.cell 1
    have HA : Hid (Calls Try.prog 42 #[.pointer (some ⟨g, 0, none⟩), .agg #[.int .u64 T, .int .u64 v]] w1 fun e w' => (∃ v, e = .returned v) ∧ MaxAt w' g win (updT false win x t0 v) ∧ Keep (fun k => k = g) w1 w') := Lib.hid (by
      have := age_any g win v _ _ H1.out HV.out
      rw [rankT_l] at this
      rw [HU.out]
      exact this)
    go_wp2_with fail
    refine HA.out.mono ?_
    rintro e w2 ⟨⟨_, rfl⟩, h2, k2⟩
    have H2 := Lib.hid h2; have K2 := Lib.hid (K1.out.trans k2); clear h2 k2 HA
    go_wp2_with (go_at_call 23; refine (xbest_any g win _ _ H2.out).mono ?_; rintro e w3 ⟨rfl, rfl⟩)
    go_ret
    exact ⟨rfl, H2.out, K2.out⟩
  · obtain rfl : T = L := hT.trans (if_neg hc)
    have hc : t < T := by omega
    clear hT
    have hlt := H.out.lt
    have f1 := H.out.whole.free 1
    have B0 := Lib.hid (Whole.new (w.setCell ⟨g, 1, none⟩ (.int .u64 T)) 73 #[.int .u64 T, .int .u64 v])
    have H0 := Lib.hid ((H.out.last hT1 hT2).alloc (.cells #[.int .u64 T, .int .u64 v] 73))
    have K0 := Lib.hid (((Keep.refl (fun k => k = g) w).setCell (p := ⟨g, 1, none⟩) (.inl rfl) (.int .u64 T)).alloc (.cells #[.int .u64 T, .int .u64 v] 73))
    have hs : (w.setCell ⟨g, 1, none⟩ (.int .u64 T)).heap.size = w.heap.size := by simp [World.setCell]
    rw [hs] at B0
    clear hs
    go_enter Try.func21, Try.ntmps21
    go_wp2_with fail
    refine (rank_any g win v _ _ H0.out HV.out).mono ?_
    rintro e w1 ⟨⟨_, rfl⟩, h1, k1⟩
    have HN := Lib.hid (H.out.lt)
    have H1 : Hid (MaxAt w1 g win (rankT false win (lastT x T) T v)) := Lib.hid h1
    have B1 := Lib.hid (B0.out.keep k1 (by omega)); have K1 := Lib.hid (K0.out.trans k1); clear h1 k1 K0 B0 H0
    have b0 : w1.cell? ⟨w.heap.size, 0, none⟩ = some (.int .u64 T) := B1.out.cell 0
    have b1 : w1.cell? ⟨w.heap.size, 1, none⟩ = some (.int .u64 v) := B1.out.cell 1
    have HA : Hid (Calls Try.prog 42 #[.pointer (some ⟨g, 0, none⟩), .agg #[.int .u64 T, .int .u64 v]] w1 fun e w' => (∃ v, e = .returned v) ∧ MaxAt w' g win (updT false win x t0 v) ∧ Keep (fun k => k = g) w1 w') := Lib.hid (by
      have := age_any g win v _ _ H1.out HV.out
      rw [rankT_l] at this
      rw [HU.out]
      exact this)
    go_wp2_with fail
    refine HA.out.mono ?_
    rintro e w2 ⟨⟨_, rfl⟩, h2, k2⟩
    have H2 := Lib.hid h2; have K2 := Lib.hid (K1.out.trans k2); clear h2 k2 HA
    go_wp2_with (go_at_call 23; refine (xbest_any g win _ _ H2.out).mono ?_; rintro e w3 ⟨rfl, rfl⟩)
    go_ret
    exact ⟨rfl, H2.out, K2.out⟩

end Go.Proofs.Ytfbbmpmgceghfaa
