/-
  Package bbr's State answers what the document says. Conditions: the Model lies in memory as New makes it, be it inside a block, or is nil.
  Package bbr's Update answers what the document says, and leaves what it says. Conditions: the Model lies in memory as New makes it, be it inside a block, or is nil; numbers are of 64 bits; fewer than 2^64-1 rounds have begun.
-/
import Derived.Test.YtcjgpkjhfbamfaaGreatJ23
import Derived.Test.YtcjgpkjhfbamfaaGreatJ30
import Derived.Test.YtcjgpkjhfbamfaaGreatJ31
import Derived.Test.YtcjgpkjhfbamfaaGreatJ32
import Derived.Test.YtcjgpkjhfbamfaaGreatJ33
import Derived.Test.YtcjgpkjhfbamfaaGreatJ25
set_option linter.unusedVariables false
set_option linter.unusedSimpArgs false
namespace Go.Proofs.YtcjgpkjhfbamfaaGreat
open Go.RowKit
set_option maxRecDepth 100000
variable {Fm : Fr} {oo : Nat}
/-- The zero value of api.Model. -/
abbrev zeroMV : Value := .agg #[.int .i64 0, .int .i64 0, .int .u64 0, .int .u64 0, .int .u64 0, .int .u64 0, .int .u64 0, .int .u64 0, .bool false, .bool false]
set_option maxHeartbeats 400000 in
theorem state_nil (w : World) : Calls Tryz.prog 7 #[.pointer none] w fun e w' => e = .returned zeroMV ∧ Keep (fun _ => False) w w' := by
  go_enter Tryz.func7, Tryz.ntmps7
  go_wp2
  refine bodyPost_ret (v := zeroMV) (by rw [results_cell1 rfl]; go_simp) rfl ?_
  exact ⟨rfl, (Keep.refl _ _).alloc _⟩
set_option maxHeartbeats 4000000 in
theorem state_any (g : Nat) (x : Mdl) (w : World) (h : MdlAt Fm oo w g x) (hf : x.Fit) : Calls Tryz.prog 7 #[.pointer (some ⟨g, oo, none⟩)] w fun e w' => e = .returned (.agg (staC x)) ∧ Keep (fun _ => False) w w' := by
  have HM0 := Lib.hid (h.alloc (.cells #[.int .i64 0, .int .i64 0, .int .u64 0, .int .u64 0, .int .u64 0, .int .u64 0, .int .u64 0, .int .u64 0, .bool false, .bool false] 31))
  have HZ0 := Lib.hid (Whole.new w 31 #[.int .i64 0, .int .i64 0, .int .u64 0, .int .u64 0, .int .u64 0, .int .u64 0, .int .u64 0, .int .u64 0, .bool false, .bool false])
  have HK0 := Lib.hid ((Keep.refl (fun _ => False) w).alloc (.cells #[.int .i64 0, .int .i64 0, .int .u64 0, .int .u64 0, .int .u64 0, .int .u64 0, .int .u64 0, .int .u64 0, .bool false, .bool false] 31))
  have HF := Lib.hid hf
  clear h hf
  go_enter Tryz.func7, Tryz.ntmps7
  go_upto_region 3 with fail
  generalize hw1 : World.alloc w _ = w1 at *
  have HNB : Hid (w.heap.size ≤ w.heap.size) := Lib.hid (Nat.le_refl _)
  generalize hB : w.heap.size = B at HZ0 HNB ⊢
  have HBB : Hid (w.heap.size ≤ B) := Lib.hid (by omega)
  clear hw1 HNB hB
  have HM1 := Lib.hid HM0.out.drew
  have HZ1 := Lib.hid HZ0.out.drew
  refine wp_region_late (fun W => MdlAt Fm oo W g x) [35] (.yes 0 (.yes 1 (.yes 2 (.yes 3 (.yes 4 (.yes 5 (.yes 6 (.yes 8 (.yes 9 (.yes 10 (.yes 11 (.yes 12 (.yes 13 (.yes 14 (.yes 15 (.yes 16 (.yes 18 (.yes 19 (.yes 20 (.yes 22 (.yes 24 (.yes 25 (.yes 26 (.yes 28 (.yes 29 (.yes 30 (.yes 32 (.one 7 (.one 17 (.one 21 (.one 23 (.one 27 (.one 31 (.one 33 (.yes 34 (.one 35 .nil)))))))))))))))))))))))))))))))))))) (by kernel_rfl) (by kernel_rfl) (by kernel_rfl) (by kernel_rfl) HM1.out ?_
  (repeat (refine wpSchL_yes (v := ?_) rfl (fun _ _ _ h => h) (by rfl) ?_ ?_; rotate_left; (next => (intro w hSw; obtain ⟨m0, m1, m2, m3, m4, m5, m6, m7⟩ := MdlAt.own hSw; clear hSw; go_simp; (try with_reducible rfl))); (try simp only [Act.put, List.setIfInBounds_toArray, List.set_cons_zero, List.set_cons_succ])))
  refine wpSchL_one ?_
  refine wpOneL_call rfl (by rfl) (fun K hK => ?_)
  go_simp
  refine (cyphase_any _ _ _ (HM1.out.cyc HF.out)).mono ?_
  rintro e w' ⟨rfl, rfl⟩
  refine hK.out _ _ (fun _ => HM1.out) (fun hHeld => ?_)
  clear hK K hHeld
  (try simp only [Act.put, List.setIfInBounds_toArray, List.set_cons_zero, List.set_cons_succ])
  refine wpSchL_one ?_
  refine wpOneL_call rfl (by rfl) (fun K hK => ?_)
  go_simp
  refine (bw_any _ _ _ HM1.out HF.out).mono ?_
  rintro e w' ⟨rfl, rfl⟩
  refine hK.out _ _ (fun _ => HM1.out) (fun hHeld => ?_)
  clear hK K hHeld
  (try simp only [Act.put, List.setIfInBounds_toArray, List.set_cons_zero, List.set_cons_succ])
  refine wpSchL_one ?_
  refine wpOneL_call rfl (by rfl) (fun K hK => ?_)
  go_simp
  refine (prbest_any _ _ _ (HM1.out.prb HF.out)).mono ?_
  rintro e w' ⟨rfl, rfl⟩
  refine hK.out _ _ (fun _ => HM1.out) (fun hHeld => ?_)
  clear hK K hHeld
  (try simp only [Act.put, List.setIfInBounds_toArray, List.set_cons_zero, List.set_cons_succ])
  refine wpSchL_one ?_
  refine wpOneL_call rfl (by rfl) (fun K hK => ?_)
  go_simp
  refine (gain_any _ _ _ HM1.out HF.out).mono ?_
  rintro e w' ⟨rfl, rfl⟩
  refine hK.out _ _ (fun _ => HM1.out) (fun hHeld => ?_)
  clear hK K hHeld
  (try simp only [Act.put, List.setIfInBounds_toArray, List.set_cons_zero, List.set_cons_succ])
  refine wpSchL_one ?_
  refine wpOneL_call rfl (by rfl) (fun K hK => ?_)
  go_simp
  refine (rcount_any _ _ _ (HM1.out.rnd HF.out)).mono ?_
  rintro e w' ⟨rfl, rfl⟩
  refine hK.out _ _ (fun _ => HM1.out) (fun hHeld => ?_)
  clear hK K hHeld
  (try simp only [Act.put, List.setIfInBounds_toArray, List.set_cons_zero, List.set_cons_succ])
  refine wpSchL_one ?_
  refine wpOneL_call rfl (by rfl) (fun K hK => ?_)
  go_simp
  refine (pifull_any _ _ _ (HM1.out.pip HF.out)).mono ?_
  rintro e w' ⟨rfl, rfl⟩
  refine hK.out _ _ (fun _ => HM1.out) (fun hHeld => ?_)
  clear hK K hHeld
  (try simp only [Act.put, List.setIfInBounds_toArray, List.set_cons_zero, List.set_cons_succ])
  refine wpSchL_one ?_
  refine wpOneL_call rfl (by rfl) (fun K hK => ?_)
  go_simp
  refine (held_any _ _ _ HM1.out HF.out).mono ?_
  rintro e w' ⟨rfl, rfl⟩
  refine hK.out _ _ (fun _ => HM1.out) (fun hHeld => ?_)
  clear hK K hHeld
  (try simp only [Act.put, List.setIfInBounds_toArray, List.set_cons_zero, List.set_cons_succ])
  generalize hV : bwM x = V at *
  generalize hG : gainM x = G at *
  generalize hFF : fullP x.p = F at *
  have HV := Lib.hid hV; have HG := Lib.hid hG; have HFF := Lib.hid hFF
  clear hV hG hFF
  (repeat (refine wpSchL_yes (v := ?_) rfl (fun _ _ _ h => h) (by rfl) ?_ ?_; rotate_left; (next => (intro w hSw; obtain ⟨m0, m1, m2, m3, m4, m5, m6, m7⟩ := MdlAt.own hSw; clear hSw; go_simp; (try with_reducible rfl))); (try simp only [Act.put, List.setIfInBounds_toArray, List.set_cons_zero, List.set_cons_succ])))
  obtain ⟨⟨p0, q0⟩, ⟨p1, q1⟩, ⟨p2, q2⟩, ⟨p3, q3⟩, ⟨p4, q4⟩, ⟨p5, q5⟩, ⟨p6, q6⟩, ⟨p7, q7⟩, ⟨p8, q8⟩, ⟨p9, q9⟩, pw, pk⟩ := HZ0.out.fill10 (.int .i64 x.m) (.int .i64 x.c.p) (.int .u64 x.t) (.int .u64 x.w) (.int .u64 V) (.int .u64 x.q.b) (.int .u64 G) (.int .u64 x.r.c) (.bool F) (.bool x.o.u)
  have PW := Lib.hid pw.drew; have PK := Lib.hid (HK0.out.then pk (fun i e hl => by have := HBB.out; omega)).drew
  clear pw pk HZ0 HZ1 HM0 HK0
  refine wpSchL_one ?_
  refine wpOneL_call rfl (by rfl) (fun K hK => ?_)
  go_simp
  refine hK.out _ _ (fun h => absurd h (by decide)) (fun hHeld => ?_)
  clear hK K hHeld
  (try simp only [Act.put, List.setIfInBounds_toArray, List.set_cons_zero, List.set_cons_succ])
  clear p0 q0 p1 q1 p2 q2 p3 q3 p4 q4 p5 q5 p6 q6 p7 q7 p8 q8 p9 q9 HM1
  generalize World.drew _ = w3 at *
  refine wpSchL_nil ?_
  have z0 : w3.cell? ⟨B, 0, none⟩ = some (.int .i64 x.m) := PW.out.cell 0
  have z1 : w3.cell? ⟨B, 1, none⟩ = some (.int .i64 x.c.p) := PW.out.cell 1
  have z2 : w3.cell? ⟨B, 2, none⟩ = some (.int .u64 x.t) := PW.out.cell 2
  have z3 : w3.cell? ⟨B, 3, none⟩ = some (.int .u64 x.w) := PW.out.cell 3
  have z4 : w3.cell? ⟨B, 4, none⟩ = some (.int .u64 V) := PW.out.cell 4
  have z5 : w3.cell? ⟨B, 5, none⟩ = some (.int .u64 x.q.b) := PW.out.cell 5
  have z6 : w3.cell? ⟨B, 6, none⟩ = some (.int .u64 G) := PW.out.cell 6
  have z7 : w3.cell? ⟨B, 7, none⟩ = some (.int .u64 x.r.c) := PW.out.cell 7
  have z8 : w3.cell? ⟨B, 8, none⟩ = some (.bool F) := PW.out.cell 8
  have z9 : w3.cell? ⟨B, 9, none⟩ = some (.bool x.o.u) := PW.out.cell 9
  go_wp2
  refine bodyPost_ret (v := .agg #[.int .i64 x.m, .int .i64 x.c.p, .int .u64 x.t, .int .u64 x.w, .int .u64 V, .int .u64 x.q.b, .int .u64 G, .int .u64 x.r.c, .bool F, .bool x.o.u]) (by rw [results_cell1 rfl]; go_simp) rfl ?_
  exact ⟨by rw [← HV.out, ← HG.out, ← HFF.out], PK.out⟩
end Go.Proofs.YtcjgpkjhfbamfaaGreat
set_option linter.unusedVariables false
set_option linter.unusedSimpArgs false
namespace Go.Proofs.YtcjgpkjhfbamfaaGreat
open Go.RowKit
set_option maxRecDepth 100000
variable {Fm : Fr} {oo : Nat}
abbrev zeroC : Array Value := #[.int .i64 0, .int .i64 0, .int .u64 0, .int .u64 0, .int .u64 0, .int .u64 0, .int .u64 0, .int .u64 0, .bool false, .bool false]
/-- Since w0: the model in block g, the sample in block B, the result's block R. -/
structure UM (Fm : Fr) (oo : Nat) (w0 : World) (g B R : Nat) (x : Mdl) (s : Spl) (W : World) : Prop where
  sm : SM Fm oo w0 g B x s W
  z : Whole W R 31 zeroC
  ne : g ≠ R
  lo : w0.heap.size ≤ R
section
variable {w0 w w' : World} {g B R : Nat} {x y : Mdl} {s : Spl}
theorem UM.call (h : UM Fm oo w0 g B R x s w) (m : MdlAt Fm oo w' g y) (k : Keep (fun k => k = g) w w') : UM Fm oo w0 g B R y s w' := ⟨h.sm.call m k, h.z.keep k (fun e => h.ne e.symm), h.ne, h.lo⟩
theorem UM.drew (h : UM Fm oo w0 g B R x s w) : UM Fm oo w0 g B R x s w.drew := ⟨h.sm.drew, h.z, h.ne, h.lo⟩
end
theorem polupd_M (g : Nat) (x : Mdl) (st : Bool) (s : Spl) (w : World) (h : MdlAt Fm oo w g x) (hf : x.Fit) (hs : s.Fit) : Calls Tryz.prog 30 #[.pointer (some ⟨g, oo + 19, none⟩), .bool st, s.v] w fun e w' => (∃ v, e = .returned v) ∧ MdlAt Fm oo w' g { x with o := updPol x.o st s } ∧ Keep (fun k => k = g) w w' :=
  (polupd_any g x.o st s w (h.pol hf) hs).mono fun _ _ ⟨he, h1, k1⟩ => ⟨he, MdlAt.pol' h1, k1⟩
set_option maxHeartbeats 400000 in
theorem update_nil (s : Spl) (tso : Int) (w : World) : Calls Tryz.prog 10 #[.pointer none, s.v, .int .u64 tso] w fun e w' => e = .returned zeroMV ∧ Keep (fun _ => False) w w' := by
  go_enter Tryz.func10, Tryz.ntmps10
  go_wp2
  refine bodyPost_ret (v := zeroMV) (by rw [results_cell1 rfl]; go_simp) rfl ?_
  exact ⟨rfl, ((Keep.refl _ _).alloc _).alloc _⟩
set_option maxHeartbeats 4000000 in
theorem update_any (g : Nat) (x : Mdl) (s : Spl) (tso : Int) (w : World) (h : MdlAt Fm oo w g x) (hf : x.Fit) (hs : s.Fit) (ht : Num tso) (hc : x.r.c < 18446744073709551615) :
    Calls Tryz.prog 10 #[.pointer (some ⟨g, oo, none⟩), s.v, .int .u64 tso] w fun e w' => e = .returned (.agg (staC (updM x s tso))) ∧ MdlAt Fm oo w' g (updM x s tso) ∧ Keep (fun k => k = g) w w' := by
  obtain ⟨st, hst⟩ : ∃ st, begR x.r s = st := ⟨_, rfl⟩
  obtain ⟨x1, hx1⟩ : ∃ y : Mdl, y = { x with r := updR x.r s } := ⟨_, rfl⟩
  have HF1 : Hid x1.Fit := Lib.hid (hx1 ▸ { hf with r := hf.r.upd hs.d hc })
  obtain ⟨x2, hx2⟩ : ∃ y : Mdl, y = { x1 with o := updPol x1.o st s } := ⟨_, rfl⟩
  have HF2 : Hid x2.Fit := Lib.hid (hx2 ▸ { HF1.out with o := HF1.out.o.upd hs })
  obtain ⟨x3, hx3⟩ : ∃ y : Mdl, y = meaM x2 s := ⟨_, rfl⟩
  have HF3 : Hid x3.Fit := Lib.hid (hx3 ▸ HF2.out.mea hs)
  obtain ⟨x4, hx4⟩ : ∃ y : Mdl, y = turM x3 s := ⟨_, rfl⟩
  have HF4 : Hid x4.Fit := Lib.hid (hx4 ▸ HF3.out.tur hs)
  obtain ⟨x5, hx5⟩ : ∃ y : Mdl, y = pipM x4 st s := ⟨_, rfl⟩
  have HF5 : Hid x5.Fit := Lib.hid (hx5 ▸ HF4.out.pip)
  obtain ⟨x6, hx6⟩ : ∃ y : Mdl, y = walM x5 s := ⟨_, rfl⟩
  have HF6 : Hid x6.Fit := Lib.hid (hx6 ▸ HF5.out.wal hs)
  obtain ⟨x7, hx7⟩ : ∃ y : Mdl, y = looM x6 st s := ⟨_, rfl⟩
  have HF7 : Hid x7.Fit := Lib.hid (hx7 ▸ HF6.out.loo hs)
  obtain ⟨x8, hx8⟩ : ∃ y : Mdl, y = pacM x7 := ⟨_, rfl⟩
  have HF8 : Hid x8.Fit := Lib.hid (hx8 ▸ HF7.out.pac)
  obtain ⟨x9, hx9⟩ : ∃ y : Mdl, y = menM x8 st s := ⟨_, rfl⟩
  have HF9 : Hid x9.Fit := Lib.hid (hx9 ▸ HF8.out.men hs)
  obtain ⟨xa, hxa⟩ : ∃ y : Mdl, y = fitM x9 s tso := ⟨_, rfl⟩
  have HFA : Hid xa.Fit := Lib.hid (hxa ▸ HF9.out.fit hs ht.1)
  have hE : updM x s tso = xa := by rw [hxa, hx9, hx8, hx7, hx6, hx5, hx4, hx3, hx2, hx1, ← hst]; rfl
  have H1 := Lib.hid hx1; have H2 := Lib.hid hx2; have H3 := Lib.hid hx3; have H4 := Lib.hid hx4; have H5 := Lib.hid hx5; have H6 := Lib.hid hx6; have H7 := Lib.hid hx7; have H8 := Lib.hid hx8; have H9 := Lib.hid hx9; have HA := Lib.hid hxa
  have HST := Lib.hid hst
  have HFX := Lib.hid hf; have HS := Lib.hid hs; have HT := Lib.hid ht; have HC := Lib.hid hc
  rw [hE]
  clear hx1 hx2 hx3 hx4 hx5 hx6 hx7 hx8 hx9 hxa hst hf hs ht hc hE
  have HU0 : Hid (UM Fm oo w g w.heap.size (w.heap.size + 1) x s ((w.alloc (.cells s.c 34)).alloc (.cells zeroC 31))) := Lib.hid (by
    have e := SM.begin (s := s) h
    have hz := Whole.new (w.alloc (.cells s.c 34)) 31 zeroC
    rw [World.size_alloc] at hz
    exact ⟨⟨Part.alloc e.m _, e.b.alloc _, e.ne, e.k.alloc _⟩, hz, Nat.ne_of_lt (Nat.lt_succ_of_lt h.lt), Nat.le_succ _⟩)
  clear h
  go_enter Tryz.func10, Tryz.ntmps10
  go_upto_region 3 with fail
  generalize hw1 : World.alloc (World.alloc w _) _ = w1 at *
  have HU : Hid (UM Fm oo w g w.heap.size (w.heap.size + 1) x s w1) := HU0
  clear HU0 hw1
  generalize w.heap.size + 1 = R at *
  generalize w.heap.size = B at *
  obtain ⟨a0, a1, a2, a3, a4, a5, a6, a7, a8⟩ := HU.out.sm.spl
  go_upto_region 3 with fail
  refine wp_region_sch (fun W => Whole W B 34 s.c) [(true, 0), (true, 1), (true, 2), (true, 3), (false, 4), (true, 5)] (by kernel_rfl) (by kernel_rfl) (by kernel_rfl) (by kernel_rfl) HU.out.drew.sm.b ?_
  (repeat (refine wpSch_yes (v := ?_) rfl (fun _ _ _ h => h) (by rfl) ?_ ?_; rotate_left; (next => (intro w hSw; obtain ⟨a0, a1, a2, a3, a4, a5, a6, a7, a8⟩ := spl_cells hSw; clear hSw; go_simp; (try with_reducible rfl))); (try simp only [Act.put, List.setIfInBounds_toArray, List.set_cons_zero, List.set_cons_succ])))
  refine wpSch_call rfl (by rfl) (fun K hK => ?_)
  go_simp
  refine (rupd_any _ _ _ _ (HU.out.drew.sm.m.rnd HFX.out) HS.out.d HC.out).mono ?_
  rintro e w2 ⟨rfl, h1, k1⟩
  rw [HST.out]
  have h1 := MdlAt.rnd' h1
  rw [← H1.out] at h1
  have HU1 := Lib.hid (HU.out.drew.call h1 k1)
  clear h1 k1 HU a0 a1 a2 a3 a4 a5 a6 a7 a8
  have HU := HU1
  clear HU1
  refine hK.out _ _ HU.out.sm.b (fun hHeld => ?_)
  clear hK K hHeld
  (try simp only [Act.put, List.setIfInBounds_toArray, List.set_cons_zero, List.set_cons_succ])
  (repeat (refine wpSch_yes (v := ?_) rfl (fun _ _ _ h => h) (by rfl) ?_ ?_; rotate_left; (next => (intro w hSw; obtain ⟨a0, a1, a2, a3, a4, a5, a6, a7, a8⟩ := spl_cells hSw; clear hSw; go_simp; (try with_reducible rfl))); (try simp only [Act.put, List.setIfInBounds_toArray, List.set_cons_zero, List.set_cons_succ])))
  refine wpSch_nil ?_
  obtain ⟨a0, a1, a2, a3, a4, a5, a6, a7, a8⟩ := HU.out.sm.spl
  go_upto_region 4 with fail
  refine wp_region_sch (fun W => Whole W B 34 s.c) [(true, 0), (true, 1), (true, 2), (true, 3), (true, 4), (false, 5)] (by kernel_rfl) (by kernel_rfl) (by kernel_rfl) (by kernel_rfl) HU.out.drew.sm.b ?_
  (repeat (refine wpSch_yes (v := ?_) rfl (fun _ _ _ h => h) (by rfl) ?_ ?_; rotate_left; (next => (intro w hSw; obtain ⟨a0, a1, a2, a3, a4, a5, a6, a7, a8⟩ := spl_cells hSw; clear hSw; go_simp; (try with_reducible rfl))); (try simp only [Act.put, List.setIfInBounds_toArray, List.set_cons_zero, List.set_cons_succ])))
  refine wpSch_call rfl (by rfl) (fun K hK => ?_)
  go_simp
  refine (polupd_M _ _ _ s _ HU.out.drew.sm.m HF1.out HS.out).mono ?_
  rintro e w3 ⟨⟨_, rfl⟩, h1, k1⟩
  rw [← H2.out] at h1
  have HU1 := Lib.hid (HU.out.drew.call h1 k1)
  clear h1 k1 HU a0 a1 a2 a3 a4 a5 a6 a7 a8
  have HU := HU1
  clear HU1
  refine hK.out _ _ HU.out.sm.b (fun hHeld => ?_)
  clear hK K hHeld
  (try simp only [Act.put, List.setIfInBounds_toArray, List.set_cons_zero, List.set_cons_succ])
  (repeat (refine wpSch_yes (v := ?_) rfl (fun _ _ _ h => h) (by rfl) ?_ ?_; rotate_left; (next => (intro w hSw; obtain ⟨a0, a1, a2, a3, a4, a5, a6, a7, a8⟩ := spl_cells hSw; clear hSw; go_simp; (try with_reducible rfl))); (try simp only [Act.put, List.setIfInBounds_toArray, List.set_cons_zero, List.set_cons_succ])))
  refine wpSch_nil ?_
  obtain ⟨a0, a1, a2, a3, a4, a5, a6, a7, a8⟩ := HU.out.sm.spl
  go_wp2_with fail
  refine (measure_any _ _ s _ HU.out.sm.m HF2.out HS.out).mono ?_
  rintro e w4 ⟨⟨_, rfl⟩, h1, k1⟩
  rw [← H3.out] at h1
  have HU1 := Lib.hid (HU.out.call h1 k1)
  clear h1 k1 HU a0 a1 a2 a3 a4 a5 a6 a7 a8
  have HU := HU1
  clear HU1
  obtain ⟨a0, a1, a2, a3, a4, a5, a6, a7, a8⟩ := HU.out.sm.spl
  go_wp2_with fail
  refine (turn_any _ _ s _ HU.out.sm.m HF3.out HS.out).mono ?_
  rintro e w5 ⟨⟨_, rfl⟩, h1, k1⟩
  rw [← H4.out] at h1
  have HU1 := Lib.hid (HU.out.call h1 k1)
  clear h1 k1 HU a0 a1 a2 a3 a4 a5 a6 a7 a8
  have HU := HU1
  clear HU1
  obtain ⟨a0, a1, a2, a3, a4, a5, a6, a7, a8⟩ := HU.out.sm.spl
  go_upto_region 7 with fail
  refine wp_region_sch (fun W => Whole W B 34 s.c) [(true, 0), (true, 1), (true, 2), (true, 3), (true, 4), (true, 5), (true, 6), (true, 7), (true, 8), (false, 9), (false, 10)] (by kernel_rfl) (by kernel_rfl) (by kernel_rfl) (by kernel_rfl) HU.out.drew.sm.b ?_
  (repeat (refine wpSch_yes (v := ?_) rfl (fun _ _ _ h => h) (by rfl) ?_ ?_; rotate_left; (next => (intro w hSw; obtain ⟨a0, a1, a2, a3, a4, a5, a6, a7, a8⟩ := spl_cells hSw; clear hSw; go_simp; (try with_reducible rfl))); (try simp only [Act.put, List.setIfInBounds_toArray, List.set_cons_zero, List.set_cons_succ])))
  refine wpSch_call rfl (by rfl) (fun K hK => ?_)
  go_simp
  refine (xbest_any _ _ _ _ (HU.out.drew.sm.m.max HF4.out)).mono ?_
  rintro e w' ⟨rfl, rfl⟩
  refine hK.out _ _ HU.out.drew.sm.b (fun hHeld => ?_)
  clear hK K hHeld
  (try simp only [Act.put, List.setIfInBounds_toArray, List.set_cons_zero, List.set_cons_succ])
  refine wpSch_call rfl (by rfl) (fun K hK => ?_)
  go_simp
  refine (piupd_any _ _ st s.l _ _ (HU.out.drew.sm.m.pip HF4.out) HF4.out.b.b0).mono ?_
  rintro e w6 ⟨rfl, h1, k1⟩
  have h1 : MdlAt Fm oo w6 g x5 := by rw [H5.out]; exact MdlAt.pip' h1
  have HU1 := Lib.hid (HU.out.drew.call h1 k1)
  clear h1 k1 HU a0 a1 a2 a3 a4 a5 a6 a7 a8
  have HU := HU1
  clear HU1
  refine hK.out _ _ HU.out.sm.b (fun hHeld => ?_)
  clear hK K hHeld
  (try simp only [Act.put, List.setIfInBounds_toArray, List.set_cons_zero, List.set_cons_succ])
  (repeat (refine wpSch_yes (v := ?_) rfl (fun _ _ _ h => h) (by rfl) ?_ ?_; rotate_left; (next => (intro w hSw; obtain ⟨a0, a1, a2, a3, a4, a5, a6, a7, a8⟩ := spl_cells hSw; clear hSw; go_simp; (try with_reducible rfl))); (try simp only [Act.put, List.setIfInBounds_toArray, List.set_cons_zero, List.set_cons_succ])))
  refine wpSch_nil ?_
  obtain ⟨a0, a1, a2, a3, a4, a5, a6, a7, a8⟩ := HU.out.sm.spl
  go_wp2_with fail
  refine (walk_any _ _ s _ HU.out.sm.m HF5.out HS.out).mono ?_
  rintro e w7 ⟨⟨_, rfl⟩, h1, k1⟩
  rw [← H6.out] at h1
  have HU1 := Lib.hid (HU.out.call h1 k1)
  clear h1 k1 HU a0 a1 a2 a3 a4 a5 a6 a7 a8
  have HU := HU1
  clear HU1
  obtain ⟨a0, a1, a2, a3, a4, a5, a6, a7, a8⟩ := HU.out.sm.spl
  go_wp2_with fail
  refine (look_any _ _ st s _ HU.out.sm.m HF6.out HS.out).mono ?_
  rintro e w8 ⟨⟨_, rfl⟩, h1, k1⟩
  rw [← H7.out] at h1
  have HU1 := Lib.hid (HU.out.call h1 k1)
  clear h1 k1 HU a0 a1 a2 a3 a4 a5 a6 a7 a8
  have HU := HU1
  clear HU1
  obtain ⟨a0, a1, a2, a3, a4, a5, a6, a7, a8⟩ := HU.out.sm.spl
  go_wp2_with fail
  refine (pace_any _ _ _ HU.out.sm.m HF7.out).mono ?_
  rintro e w9 ⟨⟨_, rfl⟩, h1, k1⟩
  rw [← H8.out] at h1
  have HU1 := Lib.hid (HU.out.call h1 k1)
  clear h1 k1 HU a0 a1 a2 a3 a4 a5 a6 a7 a8
  have HU := HU1
  clear HU1
  obtain ⟨a0, a1, a2, a3, a4, a5, a6, a7, a8⟩ := HU.out.sm.spl
  go_wp2_with fail
  refine (mend_any _ _ st s _ HU.out.sm.m HF8.out HS.out).mono ?_
  rintro e wa ⟨⟨_, rfl⟩, h1, k1⟩
  rw [← H9.out] at h1
  have HU1 := Lib.hid (HU.out.call h1 k1)
  clear h1 k1 HU a0 a1 a2 a3 a4 a5 a6 a7 a8
  have HU := HU1
  clear HU1
  obtain ⟨a0, a1, a2, a3, a4, a5, a6, a7, a8⟩ := HU.out.sm.spl
  go_wp2_with fail
  refine (fit_any _ _ s tso _ HU.out.sm.m HF9.out HS.out HT.out).mono ?_
  rintro e wb ⟨⟨_, rfl⟩, h1, k1⟩
  rw [← HA.out] at h1
  have HU1 := Lib.hid (HU.out.call h1 k1)
  clear h1 k1 HU a0 a1 a2 a3 a4 a5 a6 a7 a8
  have HU := HU1
  clear HU1
  go_wp2_with fail
  refine (state_any _ _ _ HU.out.sm.m HFA.out).mono ?_
  rintro e wd ⟨rfl, k1⟩
  have HM := Lib.hid (HU.out.sm.m.kept k1)
  have HK := Lib.hid (HU.out.sm.k.trans (k1.mono fun _ e => e.elim))
  have HZ := Lib.hid (HU.out.z.keep k1 id)
  have HNE := Lib.hid HU.out.ne
  have HLO := Lib.hid HU.out.lo
  clear k1 HU
  obtain ⟨V, hV⟩ : ∃ V, bwM xa = V := ⟨_, rfl⟩
  obtain ⟨G, hG⟩ : ∃ G, gainM xa = G := ⟨_, rfl⟩
  obtain ⟨F, hFF⟩ : ∃ F, fullP xa.p = F := ⟨_, rfl⟩
  have hst : staC xa = #[.int .i64 xa.m, .int .i64 xa.c.p, .int .u64 xa.t, .int .u64 xa.w, .int .u64 V, .int .u64 xa.q.b, .int .u64 G, .int .u64 xa.r.c, .bool F, .bool xa.o.u] := by rw [← hV, ← hG, ← hFF]
  rw [hst]
  have HST2 := Lib.hid hst
  clear hV hG hFF hst
  obtain ⟨⟨p0, q0⟩, ⟨p1, q1⟩, ⟨p2, q2⟩, ⟨p3, q3⟩, ⟨p4, q4⟩, ⟨p5, q5⟩, ⟨p6, q6⟩, ⟨p7, q7⟩, ⟨p8, q8⟩, ⟨p9, q9⟩, pw, pk⟩ := HZ.out.fill10 (.int .i64 xa.m) (.int .i64 xa.c.p) (.int .u64 xa.t) (.int .u64 xa.w) (.int .u64 V) (.int .u64 xa.q.b) (.int .u64 G) (.int .u64 xa.r.c) (.bool F) (.bool xa.o.u)
  have PW := Lib.hid pw
  have PM := Lib.hid (HM.out.keep pk HNE.out)
  have PK := Lib.hid (HK.out.then pk (fun i e hl => by have := HLO.out; omega))
  clear pw pk HZ HM HK
  go_wp2
  clear p0 q0 p1 q1 p2 q2 p3 q3 p4 q4 p5 q5 p6 q6 p7 q7 p8 q8 p9 q9
  generalize World.setCell _ _ _ = w3 at *
  have z0 : w3.cell? ⟨R, 0, none⟩ = some (.int .i64 xa.m) := PW.out.cell 0
  have z1 : w3.cell? ⟨R, 1, none⟩ = some (.int .i64 xa.c.p) := PW.out.cell 1
  have z2 : w3.cell? ⟨R, 2, none⟩ = some (.int .u64 xa.t) := PW.out.cell 2
  have z3 : w3.cell? ⟨R, 3, none⟩ = some (.int .u64 xa.w) := PW.out.cell 3
  have z4 : w3.cell? ⟨R, 4, none⟩ = some (.int .u64 V) := PW.out.cell 4
  have z5 : w3.cell? ⟨R, 5, none⟩ = some (.int .u64 xa.q.b) := PW.out.cell 5
  have z6 : w3.cell? ⟨R, 6, none⟩ = some (.int .u64 G) := PW.out.cell 6
  have z7 : w3.cell? ⟨R, 7, none⟩ = some (.int .u64 xa.r.c) := PW.out.cell 7
  have z8 : w3.cell? ⟨R, 8, none⟩ = some (.bool F) := PW.out.cell 8
  have z9 : w3.cell? ⟨R, 9, none⟩ = some (.bool xa.o.u) := PW.out.cell 9
  refine bodyPost_ret (v := .agg #[.int .i64 xa.m, .int .i64 xa.c.p, .int .u64 xa.t, .int .u64 xa.w, .int .u64 V, .int .u64 xa.q.b, .int .u64 G, .int .u64 xa.r.c, .bool F, .bool xa.o.u]) (by rw [results_cell1 rfl]; go_simp) rfl ?_
  exact ⟨by rw [HST2.out], PM.out, PK.out⟩
end Go.Proofs.YtcjgpkjhfbamfaaGreat
