/-
  Package winmin's Update and Reset answer what the document says, and leave what it says. Conditions: the window lies in memory as New makes it, or is nil; the numbers are of their kind.
-/
import Derived.Test.YtcdhnokhklnkoaaMinAge
namespace Go.Proofs.Ytcdhnokhklnkoaa
open Go.RowKit

theorem nupd_nil (t v : Int) (w : World) : Calls Try.prog 11 #[.pointer none, .int .u64 t, .int .u64 v] w fun e w' => e = .returned (.int .u64 18446744073709551615) ∧ w = w' := by
  go_enter Try.func11, Try.ntmps11
  go_wp2
  go_ret
  exact ⟨rfl, rfl⟩
theorem MinAt.last {w : World} {g : Nat} {win t : Int} {x : Tri} (h : MinAt w g win x) (ht : x.l ≤ t) (ht1 : t ≤ 18446744073709551615) : MinAt (w.setCell ⟨g, 1, none⟩ (.int .u64 t)) g win (lastT x t) :=
  ⟨h.whole.put 1 _, h.fit.last ht ht1, h.win⟩
set_option maxHeartbeats 1000000 in
theorem nupd_any (g : Nat) (win t v : Int) (x : Tri) (w : World) (h : MinAt w g win x) (ht : Num t) (hv : Num v) :
    Calls Try.prog 11 #[.pointer (some ⟨g, 0, none⟩), .int .u64 t, .int .u64 v] w fun e w' => e = .returned (.int .u64 (updT true win x t v).v0) ∧ MinAt w' g win (updT true win x t v) ∧ Keep (fun k => k = g) w w' := by
  have H := Lib.hid h
  have HV := Lib.hid hv
  obtain ⟨L, hL⟩ : ∃ L, L = x.l := ⟨_, rfl⟩
  obtain ⟨T, hT⟩ : ∃ T, T = topT t L := ⟨_, rfl⟩
  obtain ⟨t0, h0⟩ : ∃ t0, t0 = t := ⟨_, rfl⟩
  have c1 : w.cell? ⟨g, 1, none⟩ = some (.int .u64 L) := hL ▸ h.whole.cell 1
  have HU : Hid (updT true win x t0 v = ageT win (rankT true win (lastT x T) T v) T v) := Lib.hid (by subst h0; subst hT; subst hL; rfl)
  have hT1 : x.l ≤ T := by subst hT; subst hL; exact topT_ge.2
  have hT2 : T ≤ 18446744073709551615 := by subst hT; subst hL; exact topT_num ht.2 h.fit.l1
  rw [show updT true win x t v = updT true win x t0 v from h0 ▸ rfl]
  clear h hv ht hL h0
  by_cases hc : L ≤ t
  · obtain rfl : T = t := hT.trans (if_pos hc)
    clear hT
    have hlt := H.out.lt
    have f1 := H.out.whole.free 1
    have B0 := Lib.hid (Whole.new (w.setCell ⟨g, 1, none⟩ (.int .u64 T)) 43 #[.int .u64 T, .int .u64 v])
    have H0 := Lib.hid ((H.out.last hT1 hT2).alloc (.cells #[.int .u64 T, .int .u64 v] 43))
    have K0 := Lib.hid (((Keep.refl (fun k => k = g) w).setCell (p := ⟨g, 1, none⟩) (.inl rfl) (.int .u64 T)).alloc (.cells #[.int .u64 T, .int .u64 v] 43))
    have hs : (w.setCell ⟨g, 1, none⟩ (.int .u64 T)).heap.size = w.heap.size := by simp [World.setCell]
    rw [hs] at B0
    clear hs
    go_enter Try.func11, Try.ntmps11
    go_wp2_with fail
    refine (nrank_any g win v _ _ H0.out HV.out).mono ?_
    rintro e w1 ⟨⟨_, rfl⟩, h1, k1⟩
    have HN := Lib.hid (H.out.lt)
    have H1 : Hid (MinAt w1 g win (rankT true win (lastT x T) T v)) := Lib.hid h1
    have B1 := Lib.hid (B0.out.keep k1 (by omega)); have K1 := Lib.hid (K0.out.trans k1); clear h1 k1 K0 B0 H0
    have b0 : w1.cell? ⟨w.heap.size, 0, none⟩ = some (.int .u64 T) := B1.out.cell 0
    have b1 : w1.cell? ⟨w.heap.size, 1, none⟩ = some (.int .u64 v) := B1.out.cell 1
    have HA : Hid (Calls Try.prog 18 #[.pointer (some ⟨g, 0, none⟩), .agg #[.int .u64 T, .int .u64 v]] w1 fun e w' => (∃ v, e = .returned v) ∧ MinAt w' g win (updT true win x t0 v) ∧ Keep (fun k => k = g) w1 w') := Lib.hid (by
      have := nage_any g win v _ _ H1.out HV.out
      rw [rankT_l] at this
      rw [HU.out]
      exact this)
    go_wp2_with fail
    refine HA.out.mono ?_
    rintro e w2 ⟨⟨_, rfl⟩, h2, k2⟩
    have H2 := Lib.hid h2; have K2 := Lib.hid (K1.out.trans k2); clear h2 k2 HA
    go_wp2_with (go_at_call 13; refine (nbest_any g win _ _ H2.out).mono ?_; rintro e w3 ⟨rfl, rfl⟩)
    go_ret
    exact ⟨rfl, H2.out, K2.out⟩
  · obtain rfl : T = L := hT.trans (if_neg hc)
    have hc : t < T := by omega
    clear hT
    have hlt := H.out.lt
    have f1 := H.out.whole.free 1
    have B0 := Lib.hid (Whole.new (w.setCell ⟨g, 1, none⟩ (.int .u64 T)) 43 #[.int .u64 T, .int .u64 v])
    have H0 := Lib.hid ((H.out.last hT1 hT2).alloc (.cells #[.int .u64 T, .int .u64 v] 43))
    have K0 := Lib.hid (((Keep.refl (fun k => k = g) w).setCell (p := ⟨g, 1, none⟩) (.inl rfl) (.int .u64 T)).alloc (.cells #[.int .u64 T, .int .u64 v] 43))
    have hs : (w.setCell ⟨g, 1, none⟩ (.int .u64 T)).heap.size = w.heap.size := by simp [World.setCell]
    rw [hs] at B0
    clear hs
    go_enter Try.func11, Try.ntmps11
    go_wp2_with fail
    refine (nrank_any g win v _ _ H0.out HV.out).mono ?_
    rintro e w1 ⟨⟨_, rfl⟩, h1, k1⟩
    have HN := Lib.hid (H.out.lt)
    have H1 : Hid (MinAt w1 g win (rankT true win (lastT x T) T v)) := Lib.hid h1
    have B1 := Lib.hid (B0.out.keep k1 (by omega)); have K1 := Lib.hid (K0.out.trans k1); clear h1 k1 K0 B0 H0
    have b0 : w1.cell? ⟨w.heap.size, 0, none⟩ = some (.int .u64 T) := B1.out.cell 0
    have b1 : w1.cell? ⟨w.heap.size, 1, none⟩ = some (.int .u64 v) := B1.out.cell 1
    have HA : Hid (Calls Try.prog 18 #[.pointer (some ⟨g, 0, none⟩), .agg #[.int .u64 T, .int .u64 v]] w1 fun e w' => (∃ v, e = .returned v) ∧ MinAt w' g win (updT true win x t0 v) ∧ Keep (fun k => k = g) w1 w') := Lib.hid (by
      have := nage_any g win v _ _ H1.out HV.out
      rw [rankT_l] at this
      rw [HU.out]
      exact this)
    go_wp2_with fail
    refine HA.out.mono ?_
    rintro e w2 ⟨⟨_, rfl⟩, h2, k2⟩
    have H2 := Lib.hid h2; have K2 := Lib.hid (K1.out.trans k2); clear h2 k2 HA
    go_wp2_with (go_at_call 13; refine (nbest_any g win _ _ H2.out).mono ?_; rintro e w3 ⟨rfl, rfl⟩)
    go_ret
    exact ⟨rfl, H2.out, K2.out⟩

theorem nres_nil (t v : Int) (w : World) : Calls Try.prog 9 #[.pointer none, .int .u64 t, .int .u64 v] w fun e w' => (∃ v, e = .returned v) ∧ w = w' := by
  go_enter Try.func9, Try.ntmps9
  go_wp2
  refine bodyPost_ret (results_none rfl _ _ _) rfl ?_
  exact ⟨⟨_, rfl⟩, rfl⟩
set_option maxHeartbeats 1000000 in
theorem nres_any (g : Nat) (win t v : Int) (x : Tri) (w : World) (h : MinAt w g win x) (ht : Num t) (hv : Num v) :
    Calls Try.prog 9 #[.pointer (some ⟨g, 0, none⟩), .int .u64 t, .int .u64 v] w fun e w' => (∃ v, e = .returned v) ∧ MinAt w' g win (resT x t v) ∧ Keep (fun k => k = g) w w' := by
  have H := Lib.hid h
  have HV := Lib.hid hv
  have HT := Lib.hid ht
  obtain ⟨L, hL⟩ : ∃ L, L = x.l := ⟨_, rfl⟩
  obtain ⟨T, hT⟩ : ∃ T, T = topT t L := ⟨_, rfl⟩
  have c1 : w.cell? ⟨g, 1, none⟩ = some (.int .u64 L) := hL ▸ h.whole.cell 1
  have HU : Hid (resT x t v = allT T t v) := Lib.hid (by subst hT; subst hL; rfl)
  have hT1 : x.l ≤ T := by subst hT; subst hL; exact topT_ge.2
  have hT2 : T ≤ 18446744073709551615 := by subst hT; subst hL; exact topT_num ht.2 h.fit.l1
  have HT0 : Hid (t ≤ T) := Lib.hid (by subst hT; exact topT_ge.1)
  clear h hv ht hL
  by_cases hc : L ≤ t
  · obtain rfl : T = t := hT.trans (if_pos hc)
    clear hT
    have f1 := H.out.whole.free 1
    have H0 := Lib.hid (H.out.last hT1 hT2)
    have K0 := Lib.hid ((Keep.refl (fun k => k = g) w).setCell (p := ⟨g, 1, none⟩) (.inl rfl) (.int .u64 T))
    go_enter Try.func9, Try.ntmps9
    go_wp2_with fail
    refine (nfill0_is H0.out HT.out.1 HT0.out HV.out).mono ?_
    rintro e w1 ⟨⟨_, rfl⟩, h1, k1⟩
    have H1 := Lib.hid h1; have K1 := Lib.hid (K0.out.trans k1); clear h1 k1
    go_wp2
    go_end0
    exact ⟨⟨_, rfl⟩, by rw [HU.out]; exact H1.out, K1.out⟩
  · obtain rfl : T = L := hT.trans (if_neg hc)
    have hc : t < T := by omega
    clear hT
    have f1 := H.out.whole.free 1
    have H0 := Lib.hid (H.out.last hT1 hT2)
    have K0 := Lib.hid ((Keep.refl (fun k => k = g) w).setCell (p := ⟨g, 1, none⟩) (.inl rfl) (.int .u64 T))
    go_enter Try.func9, Try.ntmps9
    go_wp2_with fail
    refine (nfill0_is H0.out HT.out.1 HT0.out HV.out).mono ?_
    rintro e w1 ⟨⟨_, rfl⟩, h1, k1⟩
    have H1 := Lib.hid h1; have K1 := Lib.hid (K0.out.trans k1); clear h1 k1
    go_wp2
    go_end0
    exact ⟨⟨_, rfl⟩, by rw [HU.out]; exact H1.out, K1.out⟩
end Go.Proofs.Ytcdhnokhklnkoaa
