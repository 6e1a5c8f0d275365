/-
  The document's own model: Update: what it answers and leaves. Conditions: numbers are of 64 bits; fewer than 2^64-1 rounds have begun.
-/
import Derived.Test.YtcjgpkjhfbamfaaGreatJ27
import Derived.Test.YtcjgpkjhfbamfaaGreatJ28
import Derived.Test.YtcjgpkjhfbamfaaGreatJ29
import Derived.Test.YtcjgpkjhfbamfaaGreatJ30
import Derived.Test.YtcjgpkjhfbamfaaGreatJ34
set_option linter.unusedVariables false
set_option linter.unusedSimpArgs false
namespace Go.Proofs.YtcjgpkjhfbamfaaGreat
open Go.RowKit
set_option maxRecDepth 100000
/-- Since w0: the document's model in blocks g and k, the sample in block B, the result's block R. -/
structure RU (w0 : World) (g k B R : Nat) (x : Mdl) (G : Int) (s : Spl) (W : World) : Prop where
  rs : RS w0 g k B x G s W
  z : Whole W R 31 zeroC
  ne : g ≠ R
  nk : k ≠ R
  lo : w0.heap.size ≤ R
section
variable {w0 w w' : World} {g k B R : Nat} {x y : Mdl} {G H : Int} {s : Spl} {st : Bool} {tso : Int}
theorem RU.call (h : RU w0 g k B R x G s w) (m : RM w' g k y H) (kk : Keep (own2 g k) w w') : RU w0 g k B R y H s w' := ⟨h.rs.call m kk, h.z.keep kk (fun e => by rcases e with e | e; exact h.ne e.symm; exact h.nk e.symm), h.ne, h.nk, h.lo⟩
theorem RU.callg (h : RU w0 g k B R x G s w) (m : RM w' g k y H) (kk : Keep (fun i => i = g) w w') : RU w0 g k B R y H s w' := h.call m (kk.mono fun _ e => .inl e)
theorem RU.callk (h : RU w0 g k B R x G s w) (m : RM w' g k y H) (kk : Keep (fun i => i = k) w w') : RU w0 g k B R y H s w' := h.call m (kk.mono fun _ e => .inr e)
theorem RU.drew (h : RU w0 g k B R x G s w) : RU w0 g k B R x G s w.drew := ⟨h.rs.drew, h.z, h.ne, h.nk, h.lo⟩
theorem RU.put (h : RU w0 g k B R x G s w) (i : Nat) (u : Value) (hi : i < 31) (e : ∀ z, (rmL x k G z).set i u = rmL y k H z) (hb : y.b = x.b) (hq : y.q = x.q) (ho : y.o = x.o) : RU w0 g k B R y H s (w.setCell ⟨g, i, none⟩ u) :=
  ⟨h.rs.put i u hi e hb hq ho, h.z.far (p := ⟨g, i, none⟩) (fun e => h.ne e.symm) u, h.ne, h.nk, h.lo⟩
theorem Mdl.Fit.rme (h : x.Fit) (hs : s.Fit) : (rmeM x st s).Fit := by
  unfold rmeM
  split
  · exact { h with k := maxI_num h.k h.w, u := numAdd hs.d hs.f }
  · split
    · split
      · exact { h with w := maxI_num h.w h.k }
      · exact { h with w := maxI_num h.w h.k, k := show Num 0 from num00 }
    · split
      · exact { h with }
      · exact h
theorem room_rme : roomM (rmeM x st s) = roomM x := by
  unfold rmeM
  split
  · rfl
  · split
    · split <;> rfl
    · split <;> rfl
theorem room_pac : roomM (pacM x) = roomM x := by
  unfold pacM
  split
  · rfl
  · split <;> rfl
theorem gain_rme : gainM (rmeM x st s) = gainM x := by
  unfold rmeM
  split
  · rfl
  · split
    · split <;> rfl
    · split <;> rfl
theorem gain_pac : gainM (pacM x) = gainM x := by
  unfold pacM
  split
  · rfl
  · split <;> rfl
theorem gain_fit : gainM (fitM x s tso) = gainM x := by
  unfold fitM finM ackM
  split
  · rfl
  · split
    · unfold groM; split
      · rfl
      · split <;> rfl
    · rfl
end
set_option maxHeartbeats 8000000 in
set_option maxRecDepth 100000 in
theorem rmupd_any (g k : Nat) (x : Mdl) (G : Int) (s : Spl) (tso : Int) (w : World) (h : RM w g k x G) (hf : x.Fit) (hs : s.Fit) (ht : Num tso) (hc : x.r.c < 18446744073709551615) :
    Calls Tryz.prog 11 #[.pointer (some ⟨g, 0, none⟩), s.v, .int .u64 tso] w fun e w' => e = .returned (.agg (staC (updM x s tso))) ∧ RM w' g k (updM x s tso) (gainM (updM x s tso)) ∧ Keep (own2 g k) w w' := by
  obtain ⟨st, hst⟩ : ∃ st, begR x.r s = st := ⟨_, rfl⟩
  obtain ⟨x1, hx1⟩ : ∃ y : Mdl, y = { x with r := updR x.r s } := ⟨_, rfl⟩
  have HF1 : Hid x1.Fit := Lib.hid (hx1 ▸ { hf with r := hf.r.upd hs.d hc })
  obtain ⟨x2, hx2⟩ : ∃ y : Mdl, y = { x1 with o := updPol x1.o st s } := ⟨_, rfl⟩
  have HF2 : Hid x2.Fit := Lib.hid (hx2 ▸ { HF1.out with o := HF1.out.o.upd hs })
  obtain ⟨x3, hx3⟩ : ∃ y : Mdl, y = meaM x2 s := ⟨_, rfl⟩
  have HF3 : Hid x3.Fit := Lib.hid (hx3 ▸ HF2.out.mea hs)
  obtain ⟨x7, hx7⟩ : ∃ y : Mdl, y = looM (walM (pipM (turM x3 s) st s) s) st s := ⟨_, rfl⟩
  have HF7 : Hid x7.Fit := Lib.hid (hx7 ▸ ((((HF3.out.tur hs).pip (st := st) (s := s)).wal hs).loo hs))
  obtain ⟨x8, hx8⟩ : ∃ y : Mdl, y = pacM x7 := ⟨_, rfl⟩
  have HF8 : Hid x8.Fit := Lib.hid (hx8 ▸ HF7.out.pac)
  obtain ⟨x9, hx9⟩ : ∃ y : Mdl, y = rmeM x8 st s := ⟨_, rfl⟩
  have HF9 : Hid x9.Fit := Lib.hid (hx9 ▸ HF8.out.rme hs)
  obtain ⟨xa, hxa⟩ : ∃ y : Mdl, y = fitM x9 s tso := ⟨_, rfl⟩
  have hE : updM x s tso = xa := by rw [hxa, hx9, fit_rme, hx8, hx7, hx3, hx2, hx1, ← hst]; rfl
  obtain ⟨GN, hG⟩ : ∃ a, gainM x7 = a := ⟨_, rfl⟩
  obtain ⟨RN, hR⟩ : ∃ a, roomM x7 = a := ⟨_, rfl⟩
  have HGN0 : Hid (Num GN) := Lib.hid (hG ▸ gainM_num)
  have HGA : Hid (gainM xa = GN) := Lib.hid (by rw [hxa, gain_fit, hx9, gain_rme, hx8, gain_pac, hG])
  have HRA : Hid (roomM x9 = RN) := Lib.hid (by rw [hx9, room_rme, hx8, room_pac, hR])
  have HGN := Lib.hid hG; have HRN := Lib.hid hR
  have H1 := Lib.hid hx1; have H2 := Lib.hid hx2; have H3 := Lib.hid hx3; have H7 := Lib.hid hx7; have H8 := Lib.hid hx8; have H9 := Lib.hid hx9; have HA := Lib.hid hxa
  have HST := Lib.hid hst
  have HFX := Lib.hid hf; have HS := Lib.hid hs; have HT := Lib.hid ht; have HC := Lib.hid hc
  rw [hE]
  clear hx1 hx2 hx3 hx7 hx8 hx9 hxa hst hf hs ht hc hE hG hR
  have HU0 : Hid (RU w g k w.heap.size (w.heap.size + 1) x G s ((w.alloc (.cells s.c 34)).alloc (.cells zeroC 31))) := Lib.hid (by
    have e := RS.begin (s := s) h
    have hz := Whole.new (w.alloc (.cells s.c 34)) 31 zeroC
    rw [World.size_alloc] at hz
    exact ⟨⟨e.m.kept ((Keep.refl _ _).alloc _), e.b.alloc _, e.neg, e.nek, e.kp.alloc _⟩, hz, Nat.ne_of_lt (Nat.lt_succ_of_lt h.lt), Nat.ne_of_lt (Nat.lt_succ_of_lt h.m.lt), Nat.le_succ _⟩)
  clear h
  go_enter Tryz.func11, Tryz.ntmps11
  go_upto_region 1 with fail
  generalize hw1 : World.alloc (World.alloc w _) _ = w1 at *
  have HU : Hid (RU w g k w.heap.size (w.heap.size + 1) x G s w1) := HU0
  clear HU0 hw1
  generalize w.heap.size + 1 = R at *
  generalize w.heap.size = B at *
  refine wp_region_sch (fun W => Whole W B 34 s.c) [(true, 0), (true, 1), (true, 2), (true, 3), (false, 4), (true, 5)] (by kernel_rfl) (by kernel_rfl) (by kernel_rfl) (by kernel_rfl) HU.out.drew.rs.b ?_
  (repeat (refine wpSch_yes (v := ?_) rfl (fun _ _ _ h => h) (by rfl) ?_ ?_; rotate_left; (next => (intro w hSw; obtain ⟨a0, a1, a2, a3, a4, a5, a6, a7, a8⟩ := spl_cells hSw; clear hSw; go_simp; (try with_reducible rfl))); (try simp only [Act.put, List.setIfInBounds_toArray, List.set_cons_zero, List.set_cons_succ])))
  refine wpSch_call rfl (by rfl) (fun K hK => ?_)
  go_simp
  refine (rm_rnd _ HU.out.drew.rs.m HFX.out HS.out.d HC.out).mono ?_
  rintro e w2 ⟨rfl, h1, k1⟩
  rw [HST.out]
  rw [← H1.out] at h1
  have HU1 := Lib.hid (HU.out.drew.callg h1 k1)
  clear h1 k1 HU
  have HU := HU1
  clear HU1
  refine hK.out _ _ HU.out.rs.b (fun hHeld => ?_)
  clear hK K hHeld
  (try simp only [Act.put, List.setIfInBounds_toArray, List.set_cons_zero, List.set_cons_succ])
  (repeat (refine wpSch_yes (v := ?_) rfl (fun _ _ _ h => h) (by rfl) ?_ ?_; rotate_left; (next => (intro w hSw; obtain ⟨a0, a1, a2, a3, a4, a5, a6, a7, a8⟩ := spl_cells hSw; clear hSw; go_simp; (try with_reducible rfl))); (try simp only [Act.put, List.setIfInBounds_toArray, List.set_cons_zero, List.set_cons_succ])))
  refine wpSch_nil ?_
  go_upto_region 2 with fail
  refine wp_region_sch (fun W => Whole W B 34 s.c) [(true, 0), (true, 1), (true, 2), (true, 3), (true, 4), (false, 5)] (by kernel_rfl) (by kernel_rfl) (by kernel_rfl) (by kernel_rfl) HU.out.drew.rs.b ?_
  (repeat (refine wpSch_yes (v := ?_) rfl (fun _ _ _ h => h) (by rfl) ?_ ?_; rotate_left; (next => (intro w hSw; obtain ⟨a0, a1, a2, a3, a4, a5, a6, a7, a8⟩ := spl_cells hSw; clear hSw; go_simp; (try with_reducible rfl))); (try simp only [Act.put, List.setIfInBounds_toArray, List.set_cons_zero, List.set_cons_succ])))
  refine wpSch_call rfl (by rfl) (fun K hK => ?_)
  go_simp
  refine (rm_pol _ st HU.out.drew.rs.m HF1.out HS.out).mono ?_
  rintro e w3 ⟨⟨_, rfl⟩, h1, k1⟩
  rw [← H2.out] at h1
  have HU1 := Lib.hid (HU.out.drew.callg h1 k1)
  clear h1 k1 HU
  have HU := HU1
  clear HU1
  refine hK.out _ _ HU.out.rs.b (fun hHeld => ?_)
  clear hK K hHeld
  (try simp only [Act.put, List.setIfInBounds_toArray, List.set_cons_zero, List.set_cons_succ])
  (repeat (refine wpSch_yes (v := ?_) rfl (fun _ _ _ h => h) (by rfl) ?_ ?_; rotate_left; (next => (intro w hSw; obtain ⟨a0, a1, a2, a3, a4, a5, a6, a7, a8⟩ := spl_cells hSw; clear hSw; go_simp; (try with_reducible rfl))); (try simp only [Act.put, List.setIfInBounds_toArray, List.set_cons_zero, List.set_cons_succ])))
  refine wpSch_nil ?_
  obtain ⟨a0, a1, a2, a3, a4, a5, a6, a7, a8⟩ := spl_cells HU.out.rs.b
  go_upto_region 3 with fail
  go_cut [30] (fun s30 wx => s30 = .bool (telM s) ∧ wx = w3)
  case first => as_aux_lemma =>
    by_cases ha : 0 < s.a
    · have HCC : Hid (decide (0 < s.i) = telM s) := Lib.hid (by
        have h1 : (s.a == 0) = false := by simp; omega
        have h2 := HS.out.i.1
        by_cases hi : 0 < s.i
        · have h3 : (s.i == 0) = false := by simp; omega
          simp [telM, h1, h3, hi]
        · have h3 : s.i = 0 := by omega
          simp [telM, h3])
      go_wp2
      go_meet
      exact ⟨congrArg Value.bool HCC.out, rfl⟩
    · have ha' : decide (0 < s.a) = false := by simp [ha]
      have HCC : Hid (false = telM s) := Lib.hid (by have := HS.out.a.1; unfold telM; rw [show s.a = 0 by omega]; simp)
      go_wp2
      go_meet
      exact ⟨congrArg Value.bool HCC.out, rfl⟩
  case rest =>
  obtain ⟨rfl, rfl⟩ := hcut
  go_upto_if 30 with fail
  go_cut [7] (fun s7 wx => s7 = .bool st ∧ RU w g k B R x3 G s wx)
  case first => as_aux_lemma =>
    obtain ⟨C, hC⟩ : ∃ C, telM s = C := ⟨_, rfl⟩
    rw [hC]
    cases C
    · have HE : Hid (x3 = x2) := Lib.hid (by rw [H3.out]; unfold meaM; rw [hC]; simp)
      clear hC
      go_wp2
      go_meet
      exact ⟨rfl, by rw [HE.out]; exact HU.out⟩
    · obtain ⟨V, hV⟩ : ∃ V, mulDivV (satSub s.d s.p) 1000000000 s.i = V := ⟨_, rfl⟩
      have hm : x3 = if (!s.l || decide (x2.b.v0 ≤ V)) = true then { x2 with b := updT false 10 x2.b x2.r.c V } else x2 := by rw [H3.out, ← hV]; unfold meaM; rw [if_pos hC]; rfl
      have HD := Lib.hid (numSub HS.out.d HS.out.p)
      have HVN : Hid (Num V) := Lib.hid (hV ▸ tolM_num HS.out)
      have HV := Lib.hid hV
      clear hV hC
      cases hl : s.l
      · have HE : Hid (x3 = { x2 with b := updT false 10 x2.b x2.r.c V }) := Lib.hid (by rw [hm, hl]; rfl)
        clear hm
        have HL := Lib.hid hl
        clear hl
        go_upto_region 4 with fail
        refine wp_region_sch (fun W => Whole W B 34 s.c) [(true, 0), (true, 1), (true, 2), (true, 3), (true, 5), (true, 6), (false, 4), (false, 7), (true, 8)] (by kernel_rfl) (by kernel_rfl) (by kernel_rfl) (by kernel_rfl) HU.out.drew.rs.b ?_
        (repeat (refine wpSch_yes (v := ?_) rfl (fun _ _ _ h => h) (by rfl) ?_ ?_; rotate_left; (next => (intro w hSw; obtain ⟨a0, a1, a2, a3, a4, a5, a6, a7, a8⟩ := spl_cells hSw; clear hSw; go_simp; (try with_reducible rfl))); (try simp only [Act.put, List.setIfInBounds_toArray, List.set_cons_zero, List.set_cons_succ])))
        refine wpSch_call rfl (by rfl) (fun K hK => ?_)
        go_simp
        refine (rsub_any _ _ HS.out.d.1 HS.out.d.2 HS.out.p.1 HS.out.p.2 _).mono ?_
        rintro e w' ⟨rfl, rfl⟩
        refine hK.out _ _ HU.out.drew.rs.b (fun hHeld => ?_)
        clear hK K hHeld
        (try simp only [Act.put, List.setIfInBounds_toArray, List.set_cons_zero, List.set_cons_succ])
        refine wpSch_call rfl (by rfl) (fun K hK => ?_)
        go_simp
        refine (rmuldiv_any _ _ _ HD.out.1 HD.out.2 (by decide) (by decide) HS.out.i.1 HS.out.i.2 _).mono ?_
        rintro e w' ⟨rfl, rfl⟩
        rw [HV.out]
        refine hK.out _ _ HU.out.drew.rs.b (fun hHeld => ?_)
        clear hK K hHeld
        (try simp only [Act.put, List.setIfInBounds_toArray, List.set_cons_zero, List.set_cons_succ])
        (repeat (refine wpSch_yes (v := ?_) rfl (fun _ _ _ h => h) (by rfl) ?_ ?_; rotate_left; (next => (intro w hSw; obtain ⟨a0, a1, a2, a3, a4, a5, a6, a7, a8⟩ := spl_cells hSw; clear hSw; go_simp; (try with_reducible rfl))); (try simp only [Act.put, List.setIfInBounds_toArray, List.set_cons_zero, List.set_cons_succ])))
        refine wpSch_nil ?_
        have HU2 := Lib.hid HU.out.drew
        clear a0 a1 a2 a3 a4 a5 a6 a7 a8 HU
        generalize wc.drew = w4 at *
        obtain ⟨a0, a1, a2, a3, a4, a5, a6, a7, a8⟩ := spl_cells HU2.out.rs.b
        obtain ⟨c0, c1, c2, c3, c4, c5, c6, c7⟩ := HU2.out.rs.m.own
        have cb := HU2.out.rs.m.best
        clear a0 a1 a2 a3 a4 a5 a6 a7 c0 c2 c3 c4 c5 c6 c7
        have hl := HL.out
        go_upto_region 6 with fail
        clear a8 c1 cb hl
        refine wp_region_late (RS w g k B x2 G s) [10] (.yes 0 (.yes 1 (.yes 2 (.yes 3 (.yes 4 (.yes 5 (.yes 6 (.yes 7 (.yes 8 (.yes 9 (.one 10 .nil))))))))))) (by kernel_rfl) (by kernel_rfl) (by kernel_rfl) (by kernel_rfl) HU2.out.drew.rs ?_
        (repeat (refine wpSchL_yes (v := ?_) rfl (fun _ _ _ h => h) (by rfl) ?_ ?_; rotate_left; (next => (intro w hSw; obtain ⟨a0, a1, a2, a3, a4, a5, a6, a7, a8⟩ := spl_cells (RS.b hSw); obtain ⟨c0, c1, c2, c3, c4, c5, c6, c7⟩ := RM.own (RS.m hSw); obtain ⟨m0, m1, m2, m3, m4, m5, m6, m7⟩ := RM.own' (RS.m hSw); have cb := RM.best (RS.m hSw); clear hSw; go_simp; (try with_reducible rfl))); (try simp only [Act.put, List.setIfInBounds_toArray, List.set_cons_zero, List.set_cons_succ])))
        refine wpSchL_one ?_
        refine wpOneL_call rfl (by rfl) (fun K hK => ?_)
        go_simp
        refine (rm_win _ x2.r.c V HU2.out.drew.rs.m HF2.out.r.c HVN.out).mono ?_
        rintro e w5 ⟨⟨_, rfl⟩, h1, k1⟩
        have HU3 : Hid (RU w g k B R x3 G s w5) := Lib.hid (by rw [HE.out]; exact HU2.out.drew.callk h1 k1)
        clear h1 k1
        refine hK.out _ _ (fun h => absurd h (by decide)) (fun hHeld => ?_)
        clear hK K hHeld
        (try simp only [Act.put, List.setIfInBounds_toArray, List.set_cons_zero, List.set_cons_succ])
        refine wpSchL_nil ?_
        go_wp2
        go_meet
        exact ⟨rfl, HU3.out⟩
      · by_cases hv : x2.b.v0 ≤ V
        · have HE : Hid (x3 = { x2 with b := updT false 10 x2.b x2.r.c V }) := Lib.hid (by rw [hm, hl]; simp [hv])
          clear hm
          have HL := Lib.hid hl
          clear hl
          go_upto_region 4 with fail
          refine wp_region_sch (fun W => Whole W B 34 s.c) [(true, 0), (true, 1), (true, 2), (true, 3), (true, 5), (true, 6), (false, 4), (false, 7), (true, 8)] (by kernel_rfl) (by kernel_rfl) (by kernel_rfl) (by kernel_rfl) HU.out.drew.rs.b ?_
          (repeat (refine wpSch_yes (v := ?_) rfl (fun _ _ _ h => h) (by rfl) ?_ ?_; rotate_left; (next => (intro w hSw; obtain ⟨a0, a1, a2, a3, a4, a5, a6, a7, a8⟩ := spl_cells hSw; clear hSw; go_simp; (try with_reducible rfl))); (try simp only [Act.put, List.setIfInBounds_toArray, List.set_cons_zero, List.set_cons_succ])))
          refine wpSch_call rfl (by rfl) (fun K hK => ?_)
          go_simp
          refine (rsub_any _ _ HS.out.d.1 HS.out.d.2 HS.out.p.1 HS.out.p.2 _).mono ?_
          rintro e w' ⟨rfl, rfl⟩
          refine hK.out _ _ HU.out.drew.rs.b (fun hHeld => ?_)
          clear hK K hHeld
          (try simp only [Act.put, List.setIfInBounds_toArray, List.set_cons_zero, List.set_cons_succ])
          refine wpSch_call rfl (by rfl) (fun K hK => ?_)
          go_simp
          refine (rmuldiv_any _ _ _ HD.out.1 HD.out.2 (by decide) (by decide) HS.out.i.1 HS.out.i.2 _).mono ?_
          rintro e w' ⟨rfl, rfl⟩
          rw [HV.out]
          refine hK.out _ _ HU.out.drew.rs.b (fun hHeld => ?_)
          clear hK K hHeld
          (try simp only [Act.put, List.setIfInBounds_toArray, List.set_cons_zero, List.set_cons_succ])
          (repeat (refine wpSch_yes (v := ?_) rfl (fun _ _ _ h => h) (by rfl) ?_ ?_; rotate_left; (next => (intro w hSw; obtain ⟨a0, a1, a2, a3, a4, a5, a6, a7, a8⟩ := spl_cells hSw; clear hSw; go_simp; (try with_reducible rfl))); (try simp only [Act.put, List.setIfInBounds_toArray, List.set_cons_zero, List.set_cons_succ])))
          refine wpSch_nil ?_
          have HU2 := Lib.hid HU.out.drew
          clear a0 a1 a2 a3 a4 a5 a6 a7 a8 HU
          generalize wc.drew = w4 at *
          obtain ⟨a0, a1, a2, a3, a4, a5, a6, a7, a8⟩ := spl_cells HU2.out.rs.b
          obtain ⟨c0, c1, c2, c3, c4, c5, c6, c7⟩ := HU2.out.rs.m.own
          have cb := HU2.out.rs.m.best
          clear a0 a1 a2 a3 a4 a5 a6 a7 c0 c2 c3 c4 c5 c6 c7
          have hl := HL.out
          go_upto_region 6 with fail
          clear a8 c1 cb hl
          refine wp_region_late (RS w g k B x2 G s) [10] (.yes 0 (.yes 1 (.yes 2 (.yes 3 (.yes 4 (.yes 5 (.yes 6 (.yes 7 (.yes 8 (.yes 9 (.one 10 .nil))))))))))) (by kernel_rfl) (by kernel_rfl) (by kernel_rfl) (by kernel_rfl) HU2.out.drew.rs ?_
          (repeat (refine wpSchL_yes (v := ?_) rfl (fun _ _ _ h => h) (by rfl) ?_ ?_; rotate_left; (next => (intro w hSw; obtain ⟨a0, a1, a2, a3, a4, a5, a6, a7, a8⟩ := spl_cells (RS.b hSw); obtain ⟨c0, c1, c2, c3, c4, c5, c6, c7⟩ := RM.own (RS.m hSw); obtain ⟨m0, m1, m2, m3, m4, m5, m6, m7⟩ := RM.own' (RS.m hSw); have cb := RM.best (RS.m hSw); clear hSw; go_simp; (try with_reducible rfl))); (try simp only [Act.put, List.setIfInBounds_toArray, List.set_cons_zero, List.set_cons_succ])))
          refine wpSchL_one ?_
          refine wpOneL_call rfl (by rfl) (fun K hK => ?_)
          go_simp
          refine (rm_win _ x2.r.c V HU2.out.drew.rs.m HF2.out.r.c HVN.out).mono ?_
          rintro e w5 ⟨⟨_, rfl⟩, h1, k1⟩
          have HU3 : Hid (RU w g k B R x3 G s w5) := Lib.hid (by rw [HE.out]; exact HU2.out.drew.callk h1 k1)
          clear h1 k1
          refine hK.out _ _ (fun h => absurd h (by decide)) (fun hHeld => ?_)
          clear hK K hHeld
          (try simp only [Act.put, List.setIfInBounds_toArray, List.set_cons_zero, List.set_cons_succ])
          refine wpSchL_nil ?_
          go_wp2
          go_meet
          exact ⟨rfl, HU3.out⟩
        · have HE : Hid (x3 = x2) := Lib.hid (by rw [hm, hl]; simp [hv])
          have hv' : decide (x2.b.v0 ≤ V) = false := by simp [hv]
          clear hm
          have HL := Lib.hid hl
          clear hl
          go_upto_region 4 with fail
          refine wp_region_sch (fun W => Whole W B 34 s.c) [(true, 0), (true, 1), (true, 2), (true, 3), (true, 5), (true, 6), (false, 4), (false, 7), (true, 8)] (by kernel_rfl) (by kernel_rfl) (by kernel_rfl) (by kernel_rfl) HU.out.drew.rs.b ?_
          (repeat (refine wpSch_yes (v := ?_) rfl (fun _ _ _ h => h) (by rfl) ?_ ?_; rotate_left; (next => (intro w hSw; obtain ⟨a0, a1, a2, a3, a4, a5, a6, a7, a8⟩ := spl_cells hSw; clear hSw; go_simp; (try with_reducible rfl))); (try simp only [Act.put, List.setIfInBounds_toArray, List.set_cons_zero, List.set_cons_succ])))
          refine wpSch_call rfl (by rfl) (fun K hK => ?_)
          go_simp
          refine (rsub_any _ _ HS.out.d.1 HS.out.d.2 HS.out.p.1 HS.out.p.2 _).mono ?_
          rintro e w' ⟨rfl, rfl⟩
          refine hK.out _ _ HU.out.drew.rs.b (fun hHeld => ?_)
          clear hK K hHeld
          (try simp only [Act.put, List.setIfInBounds_toArray, List.set_cons_zero, List.set_cons_succ])
          refine wpSch_call rfl (by rfl) (fun K hK => ?_)
          go_simp
          refine (rmuldiv_any _ _ _ HD.out.1 HD.out.2 (by decide) (by decide) HS.out.i.1 HS.out.i.2 _).mono ?_
          rintro e w' ⟨rfl, rfl⟩
          rw [HV.out]
          refine hK.out _ _ HU.out.drew.rs.b (fun hHeld => ?_)
          clear hK K hHeld
          (try simp only [Act.put, List.setIfInBounds_toArray, List.set_cons_zero, List.set_cons_succ])
          (repeat (refine wpSch_yes (v := ?_) rfl (fun _ _ _ h => h) (by rfl) ?_ ?_; rotate_left; (next => (intro w hSw; obtain ⟨a0, a1, a2, a3, a4, a5, a6, a7, a8⟩ := spl_cells hSw; clear hSw; go_simp; (try with_reducible rfl))); (try simp only [Act.put, List.setIfInBounds_toArray, List.set_cons_zero, List.set_cons_succ])))
          refine wpSch_nil ?_
          have HU2 := Lib.hid HU.out.drew
          clear a0 a1 a2 a3 a4 a5 a6 a7 a8 HU
          generalize wc.drew = w4 at *
          obtain ⟨a0, a1, a2, a3, a4, a5, a6, a7, a8⟩ := spl_cells HU2.out.rs.b
          obtain ⟨c0, c1, c2, c3, c4, c5, c6, c7⟩ := HU2.out.rs.m.own
          have cb := HU2.out.rs.m.best
          clear a0 a1 a2 a3 a4 a5 a6 a7 c0 c2 c3 c4 c5 c6 c7
          have hl := HL.out
          go_wp2
          go_meet
          exact ⟨rfl, by rw [HE.out]; exact HU2.out⟩
  case rest =>
  obtain ⟨rfl, hr⟩ := hcut
  clear HU a0 a1 a2 a3 a4 a5 a6 a7 a8
  have HU := Lib.hid hr
  clear hr
  obtain ⟨a0, a1, a2, a3, a4, a5, a6, a7, a8⟩ := spl_cells HU.out.rs.b
  go_wp2_with fail
  refine (modes_any _ _ _ _ st s _ HU.out.rs.m HF3.out HS.out).mono ?_
  rintro e w4 ⟨⟨_, rfl⟩, h1, k1⟩
  rw [← H7.out] at h1
  have HU1 := Lib.hid (HU.out.call h1 k1)
  clear h1 k1 HU a0 a1 a2 a3 a4 a5 a6 a7 a8
  have HU := HU1
  clear HU1
  go_wp2_with fail
  refine (gains_any _ HU.out.rs.m HF7.out).mono ?_
  rintro e w' ⟨rfl, rfl⟩
  rw [HGN.out, HRN.out]
  obtain ⟨m0, m1, m2, m3, m4, m5, m6, m7⟩ := HU.out.rs.m.own'
  clear m0 m1 m2 m4 m5 m6 m7
  have f3 := HU.out.rs.m.free 26
  have HU1 := Lib.hid (HU.out.put (y := x7) (H := GN) 26 (.int .u64 GN) (by decide) (fun _ => rfl) rfl rfl rfl)
  go_upto_region 10 with fail
  clear m3 f3 HU
  generalize World.setCell _ _ _ = w5 at *
  have HU := HU1
  clear HU1
  obtain ⟨V, hV⟩ : ∃ V, bwM x7 = V := ⟨_, rfl⟩
  have HV := Lib.hid hV
  clear hV
  go_wp2_with fail
  refine (rbw_any _ HU.out.rs.m).mono ?_
  rintro e w' ⟨rfl, rfl⟩
  rw [HV.out]
  go_upto_if 80 with fail
  go_cut [7] (fun s7 wx => s7 = .bool st ∧ RU w g k B R x8 GN s wx)
  case first => as_aux_lemma =>
    have hV := HV.out
    obtain ⟨Rr, hR⟩ : ∃ R, rateV V GN = R := ⟨_, rfl⟩
    have HVN : Hid (Num V) := Lib.hid (hV ▸ bwM_num HF7.out)
    have hrm : rateM x7 = maxI Rr 1 := by rw [← hR, ← hV, ← HGN.out]; rfl
    have HR := Lib.hid hR
    clear hR
    by_cases h0 : 0 < V
    · have hv0 : ¬ V = 0 := by omega
      obtain ⟨FU, hFU⟩ : ∃ b, fullP x7.p = b := ⟨_, rfl⟩
      obtain ⟨c0, c1, c2, c3, c4, c5, c6, c7⟩ := HU.out.rs.m.own
      obtain ⟨m0, m1, m2, m3, m4, m5, m6, m7⟩ := HU.out.rs.m.own'
      rw [hFU] at c3
      clear c0 c1 c2 c4 c5 c6 c7 m0 m2 m3 m4 m5 m6 m7
      have f1 := HU.out.rs.m.free 24
      obtain ⟨T, hT⟩ : ∃ T, x7.t = T := ⟨_, rfl⟩
      rw [hT] at m1
      obtain ⟨M, hM⟩ : ∃ M, rateM x7 = M := ⟨_, rfl⟩
      rcases Int.lt_trichotomy Rr 1 with hl | hl | hl
      · have hn : ¬ 1 < Rr := by omega
        obtain rfl : M = 1 := by rw [← hM, hrm]; simp [maxI, hl]
        clear hrm
        cases FU
        · by_cases ht : T < 1
          · have HE : Hid (x8 = { x7 with t := 1 }) := Lib.hid (by rw [H8.out]; simp [pacM, hV, hv0, hFU, hM, hT, ht])
            have HP := Lib.hid (HU.out.put (y := { x7 with t := 1 }) (H := GN) 24 (.int .u64 1) (by decide) (fun _ => rfl) rfl rfl rfl)
            clear hV hFU hM hT hv0
            go_wp2_with fail
            refine (rbw_any _ HU.out.rs.m).mono ?_
            rintro e w' ⟨rfl, rfl⟩
            rw [HV.out]
            go_wp2_with fail
            refine (rrate_any _ _ HVN.out.1 HVN.out.2 HGN0.out.1 HGN0.out.2 _).mono ?_
            rintro e w' ⟨rfl, rfl⟩
            rw [HR.out]
            go_wp2
            go_meet
            exact ⟨rfl, by rw [HE.out]; exact HP.out⟩
          · have HE : Hid (x8 = x7) := Lib.hid (by rw [H8.out]; simp [pacM, hV, hv0, hFU, hM, hT, ht])
            have ht' : decide (T < 1) = false := by simp [ht]
            clear hV hFU hM hT hv0
            go_wp2_with fail
            refine (rbw_any _ HU.out.rs.m).mono ?_
            rintro e w' ⟨rfl, rfl⟩
            rw [HV.out]
            go_wp2_with fail
            refine (rrate_any _ _ HVN.out.1 HVN.out.2 HGN0.out.1 HGN0.out.2 _).mono ?_
            rintro e w' ⟨rfl, rfl⟩
            rw [HR.out]
            go_wp2
            go_meet
            exact ⟨rfl, by rw [HE.out]; exact HU.out⟩
        · have HE : Hid (x8 = { x7 with t := 1 }) := Lib.hid (by rw [H8.out]; simp [pacM, hV, hv0, hFU, hM])
          have HP := Lib.hid (HU.out.put (y := { x7 with t := 1 }) (H := GN) 24 (.int .u64 1) (by decide) (fun _ => rfl) rfl rfl rfl)
          clear hV hFU hM hT hv0
          go_wp2_with fail
          refine (rbw_any _ HU.out.rs.m).mono ?_
          rintro e w' ⟨rfl, rfl⟩
          rw [HV.out]
          go_wp2_with fail
          refine (rrate_any _ _ HVN.out.1 HVN.out.2 HGN0.out.1 HGN0.out.2 _).mono ?_
          rintro e w' ⟨rfl, rfl⟩
          rw [HR.out]
          go_wp2
          go_meet
          exact ⟨rfl, by rw [HE.out]; exact HP.out⟩
      · obtain rfl : M = 1 := by rw [← hM, hrm, hl]; simp [maxI]
        subst hl
        clear hrm
        cases FU
        · by_cases ht : T < 1
          · have HE : Hid (x8 = { x7 with t := 1 }) := Lib.hid (by rw [H8.out]; simp [pacM, hV, hv0, hFU, hM, hT, ht])
            have HP := Lib.hid (HU.out.put (y := { x7 with t := 1 }) (H := GN) 24 (.int .u64 1) (by decide) (fun _ => rfl) rfl rfl rfl)
            clear hV hFU hM hT hv0
            go_wp2_with fail
            refine (rbw_any _ HU.out.rs.m).mono ?_
            rintro e w' ⟨rfl, rfl⟩
            rw [HV.out]
            go_wp2_with fail
            refine (rrate_any _ _ HVN.out.1 HVN.out.2 HGN0.out.1 HGN0.out.2 _).mono ?_
            rintro e w' ⟨rfl, rfl⟩
            rw [HR.out]
            go_wp2
            go_meet
            exact ⟨rfl, by rw [HE.out]; exact HP.out⟩
          · have HE : Hid (x8 = x7) := Lib.hid (by rw [H8.out]; simp [pacM, hV, hv0, hFU, hM, hT, ht])
            have ht' : decide (T < 1) = false := by simp [ht]
            clear hV hFU hM hT hv0
            go_wp2_with fail
            refine (rbw_any _ HU.out.rs.m).mono ?_
            rintro e w' ⟨rfl, rfl⟩
            rw [HV.out]
            go_wp2_with fail
            refine (rrate_any _ _ HVN.out.1 HVN.out.2 HGN0.out.1 HGN0.out.2 _).mono ?_
            rintro e w' ⟨rfl, rfl⟩
            rw [HR.out]
            go_wp2
            go_meet
            exact ⟨rfl, by rw [HE.out]; exact HU.out⟩
        · have HE : Hid (x8 = { x7 with t := 1 }) := Lib.hid (by rw [H8.out]; simp [pacM, hV, hv0, hFU, hM])
          have HP := Lib.hid (HU.out.put (y := { x7 with t := 1 }) (H := GN) 24 (.int .u64 1) (by decide) (fun _ => rfl) rfl rfl rfl)
          clear hV hFU hM hT hv0
          go_wp2_with fail
          refine (rbw_any _ HU.out.rs.m).mono ?_
          rintro e w' ⟨rfl, rfl⟩
          rw [HV.out]
          go_wp2_with fail
          refine (rrate_any _ _ HVN.out.1 HVN.out.2 HGN0.out.1 HGN0.out.2 _).mono ?_
          rintro e w' ⟨rfl, rfl⟩
          rw [HR.out]
          go_wp2
          go_meet
          exact ⟨rfl, by rw [HE.out]; exact HP.out⟩
      · have hn : ¬ Rr < 1 := by omega
        obtain rfl : M = Rr := by rw [← hM, hrm]; simp [maxI, hn]
        clear hrm
        cases FU
        · by_cases ht : T < M
          · have HE : Hid (x8 = { x7 with t := M }) := Lib.hid (by rw [H8.out]; simp [pacM, hV, hv0, hFU, hM, hT, ht])
            have HP := Lib.hid (HU.out.put (y := { x7 with t := M }) (H := GN) 24 (.int .u64 M) (by decide) (fun _ => rfl) rfl rfl rfl)
            clear hV hFU hM hT hv0
            go_wp2_with fail
            refine (rbw_any _ HU.out.rs.m).mono ?_
            rintro e w' ⟨rfl, rfl⟩
            rw [HV.out]
            go_wp2_with fail
            refine (rrate_any _ _ HVN.out.1 HVN.out.2 HGN0.out.1 HGN0.out.2 _).mono ?_
            rintro e w' ⟨rfl, rfl⟩
            rw [HR.out]
            go_wp2
            go_meet
            exact ⟨rfl, by rw [HE.out]; exact HP.out⟩
          · have HE : Hid (x8 = x7) := Lib.hid (by rw [H8.out]; simp [pacM, hV, hv0, hFU, hM, hT, ht])
            have ht' : decide (T < M) = false := by simp [ht]
            clear hV hFU hM hT hv0
            go_wp2_with fail
            refine (rbw_any _ HU.out.rs.m).mono ?_
            rintro e w' ⟨rfl, rfl⟩
            rw [HV.out]
            go_wp2_with fail
            refine (rrate_any _ _ HVN.out.1 HVN.out.2 HGN0.out.1 HGN0.out.2 _).mono ?_
            rintro e w' ⟨rfl, rfl⟩
            rw [HR.out]
            go_wp2
            go_meet
            exact ⟨rfl, by rw [HE.out]; exact HU.out⟩
        · have HE : Hid (x8 = { x7 with t := M }) := Lib.hid (by rw [H8.out]; simp [pacM, hV, hv0, hFU, hM])
          have HP := Lib.hid (HU.out.put (y := { x7 with t := M }) (H := GN) 24 (.int .u64 M) (by decide) (fun _ => rfl) rfl rfl rfl)
          clear hV hFU hM hT hv0
          go_wp2_with fail
          refine (rbw_any _ HU.out.rs.m).mono ?_
          rintro e w' ⟨rfl, rfl⟩
          rw [HV.out]
          go_wp2_with fail
          refine (rrate_any _ _ HVN.out.1 HVN.out.2 HGN0.out.1 HGN0.out.2 _).mono ?_
          rintro e w' ⟨rfl, rfl⟩
          rw [HR.out]
          go_wp2
          go_meet
          exact ⟨rfl, by rw [HE.out]; exact HP.out⟩
    · have hv0 : V = 0 := by have := HVN.out.1; omega
      have h0' : decide (0 < V) = false := by simp [h0]
      have HE : Hid (x8 = x7) := Lib.hid (by rw [H8.out]; simp [pacM, hV, hv0])
      clear hV hv0 hrm
      go_wp2
      go_meet
      exact ⟨rfl, by rw [HE.out]; exact HU.out⟩
  case rest =>
  obtain ⟨rfl, hr⟩ := hcut
  clear HU
  have HU := Lib.hid hr
  clear hr
  obtain ⟨a0, a1, a2, a3, a4, a5, a6, a7, a8⟩ := spl_cells HU.out.rs.b
  go_wp2_with fail
  refine (recover_any _ _ _ _ st s _ HU.out.rs.m HF8.out HS.out).mono ?_
  rintro e w6 ⟨⟨_, rfl⟩, h1, k1⟩
  rw [← H9.out] at h1
  have HU1 := Lib.hid (HU.out.call h1 k1)
  clear h1 k1 HU a0 a1 a2 a3 a4 a5 a6 a7 a8
  have HU := HU1
  clear HU1
  obtain ⟨a0, a1, a2, a3, a4, a5, a6, a7, a8⟩ := spl_cells HU.out.rs.b
  go_wp2_with fail
  refine (window_any _ _ _ _ s tso RN _ HU.out.rs.m HF9.out HS.out HT.out HRA.out).mono ?_
  rintro e w7 ⟨⟨_, rfl⟩, h1, k1⟩
  rw [← HA.out] at h1
  have HU1 := Lib.hid (HU.out.call h1 k1)
  clear h1 k1 HU a0 a1 a2 a3 a4 a5 a6 a7 a8
  have HU := HU1
  clear HU1
  go_wp2_with fail
  refine (rstate_any _ _ xa _ (by rw [HGA.out]; exact HU.out.rs.m)).mono ?_
  rintro e w8 ⟨rfl, k1⟩
  have HM : Hid (RM w8 g k xa (gainM xa)) := Lib.hid (by rw [HGA.out]; exact HU.out.rs.m.kept k1)
  have HK := Lib.hid (HU.out.rs.kp.trans (k1.mono fun _ e => e.elim))
  have HZ := Lib.hid (HU.out.z.keep k1 id)
  have HNE := Lib.hid HU.out.ne
  have HNK := Lib.hid HU.out.nk
  have HLO := Lib.hid HU.out.lo
  clear k1 HU
  obtain ⟨V, hV⟩ : ∃ V, bwM xa = V := ⟨_, rfl⟩
  obtain ⟨F, hFF⟩ : ∃ F, fullP xa.p = F := ⟨_, rfl⟩
  obtain ⟨Q, hQ⟩ : ∃ Q, gainM xa = Q := ⟨_, rfl⟩
  have hst : staC xa = #[.int .i64 xa.m, .int .i64 xa.c.p, .int .u64 xa.t, .int .u64 xa.w, .int .u64 V, .int .u64 xa.q.b, .int .u64 Q, .int .u64 xa.r.c, .bool F, .bool xa.o.u] := by rw [← hV, ← hQ, ← hFF]
  rw [hst]
  have HST2 := Lib.hid hst
  clear hV hQ hFF hst
  obtain ⟨⟨p0, q0⟩, ⟨p1, q1⟩, ⟨p2, q2⟩, ⟨p3, q3⟩, ⟨p4, q4⟩, ⟨p5, q5⟩, ⟨p6, q6⟩, ⟨p7, q7⟩, ⟨p8, q8⟩, ⟨p9, q9⟩, pw, pk⟩ := HZ.out.fill10 (.int .i64 xa.m) (.int .i64 xa.c.p) (.int .u64 xa.t) (.int .u64 xa.w) (.int .u64 V) (.int .u64 xa.q.b) (.int .u64 Q) (.int .u64 xa.r.c) (.bool F) (.bool xa.o.u)
  have PW := Lib.hid pw
  have PM := Lib.hid (HM.out.keep pk HNE.out HNK.out)
  have PK := Lib.hid (HK.out.then pk (fun i e hl => by have := HLO.out; omega))
  clear pw pk HZ HM HK
  go_wp2
  clear p0 q0 p1 q1 p2 q2 p3 q3 p4 q4 p5 q5 p6 q6 p7 q7 p8 q8 p9 q9
  generalize World.setCell _ _ _ = w9 at *
  have z0 : w9.cell? ⟨R, 0, none⟩ = some (.int .i64 xa.m) := PW.out.cell 0
  have z1 : w9.cell? ⟨R, 1, none⟩ = some (.int .i64 xa.c.p) := PW.out.cell 1
  have z2 : w9.cell? ⟨R, 2, none⟩ = some (.int .u64 xa.t) := PW.out.cell 2
  have z3 : w9.cell? ⟨R, 3, none⟩ = some (.int .u64 xa.w) := PW.out.cell 3
  have z4 : w9.cell? ⟨R, 4, none⟩ = some (.int .u64 V) := PW.out.cell 4
  have z5 : w9.cell? ⟨R, 5, none⟩ = some (.int .u64 xa.q.b) := PW.out.cell 5
  have z6 : w9.cell? ⟨R, 6, none⟩ = some (.int .u64 Q) := PW.out.cell 6
  have z7 : w9.cell? ⟨R, 7, none⟩ = some (.int .u64 xa.r.c) := PW.out.cell 7
  have z8 : w9.cell? ⟨R, 8, none⟩ = some (.bool F) := PW.out.cell 8
  have z9 : w9.cell? ⟨R, 9, none⟩ = some (.bool xa.o.u) := PW.out.cell 9
  refine bodyPost_ret (v := .agg #[.int .i64 xa.m, .int .i64 xa.c.p, .int .u64 xa.t, .int .u64 xa.w, .int .u64 V, .int .u64 xa.q.b, .int .u64 Q, .int .u64 xa.r.c, .bool F, .bool xa.o.u]) (by rw [results_cell1 rfl]; go_simp) rfl ?_
  exact ⟨by rw [HST2.out], PM.out, PK.out⟩
end Go.Proofs.YtcjgpkjhfbamfaaGreat
