/-
  Package fq: Close: the segments of a flow, which is there no more. Conditions: the queue lies in memory.
-/
import Derived.Test.YtciedllehebmkaaFqFlow
import Derived.Test.YtciedllehebmkaaFqColl
import Derived.Test.YtciedllehebmkaaFqTurn
namespace Go.Proofs.Ytciedllehebmkaa
open Go.RowKit
set_option maxRecDepth 100000
set_option linter.unusedSimpArgs false
set_option linter.unusedVariables false

theorem ks_close {x : Qm} {ks : List Key} (h : KsOf x ks) {i : Nat} (hi : i < 8) {y : Qm} (hF : ∀ j : Nat, j ≠ i → y.F j = x.F j) (hT : ∀ j : Nat, j ≠ i → y.T j = x.T j) (hno : y.T i = false) : KsOf y (delS ks (keyF x i)) := fun k => by
  unfold delS
  rw [List.mem_filter, h, decide_eq_true_iff]
  constructor
  · rintro ⟨⟨j, hj, h1, h2, h3⟩, h4⟩
    have e : j ≠ i := fun e => by subst e; exact h4 h3
    exact ⟨j, hj, by rw [hT j e]; exact h1, by rw [hF j e]; exact h2, by unfold keyF; rw [hF j e]; exact h3⟩
  · rintro ⟨j, hj, h1, h2, h3⟩
    have e : j ≠ i := fun e => by subst e; rw [hno] at h1; cases h1
    refine ⟨⟨j, hj, by rw [← hT j e]; exact h1, by rw [← hF j e]; exact h2, by unfold keyF at h3; rw [hF j e] at h3; exact h3⟩, fun e2 => ?_⟩
    have : (j : Int) = (i : Int) := by
      have := h3.symm.trans e2
      exact congrArg Key.b this
    omega
section
variable {w w' : World} {g tg : Nat} {S : Nat → Prop} {cs : Array Value} {v : Nat → Value} {ks : List Key} {x : Qm}
set_option maxRecDepth 100000 in
set_option maxHeartbeats 1000000 in
theorem FQw.close_no (h : FQw w g tg S cs v ks x) (z : Int) (hz : ¬ ((0 ≤ z ∧ z < 8) ∧ x.T z.toNat = true)) :
    Calls Try.prog 30 #[.pointer (some ⟨g, 0, none⟩), .int .i64 z] w fun e w' => e = .returned (.slice none 0 0) ∧ Keep (fun _ => False) w w' := by
  have H := Lib.hid h; have HZ := Lib.hid hz
  clear h hz
  go_enter Try.func30, Try.ntmps30
  go_wp2_with fail
  refine (H.out.flow_no z HZ.out).mono ?_
  rintro e w1 ⟨rfl, k1⟩
  have K1 := Lib.hid (k1.alloc (.cells #[.int .i64 0, .int .i64 0, .int .i64 0, .int .u64 0, .int .u64 0, .slice none 0 0] 44))
  clear k1
  dsimp only [Fl.v, Fl.zero]
  go_wp2
  go_ret
  exact ⟨rfl, K1.out⟩
set_option maxRecDepth 100000 in
set_option maxHeartbeats 4000000 in
theorem FQat.close_yes (h : FQat w g tg S cs v ks x) {i : Nat} (hi : i < 8) (ht : x.T i = true) :
    Calls Try.prog 30 #[.pointer (some ⟨g, 0, none⟩), .int .i64 (i : Int)] w fun e w' => ∃ V, e = .returned V ∧ (sgsT 34 V (x.F i).q).at_ w' ∧ (∀ k, V.ownBlock = some k → w.heap.size ≤ k) ∧ ∃ S' cs' v' ks', FQat w' g tg S' cs' v' ks' (clsQ x (i : Int)) ∧ Keep (FQown g S v) w w' ∧ (∀ k, FQown g S' v' k → FQown g S v k ∨ w.heap.size ≤ k) ∧ ∀ k, V.ownBlock = some k → ¬ FQown g S' v' k := by
  have hcl : clsQ x (i : Int) = { x with F := upF x.F i Fl.zero, T := upF x.T i false, N := x.N.erase (i : Int), O := x.O.erase (i : Int) } := by
    unfold clsQ
    rw [if_pos ⟨⟨by omega, by omega⟩, ht⟩]
    rfl
  have HCL := Lib.hid hcl
  have HCK := Lib.hid (cls_ok h.ok (i : Int))
  have HH := Lib.hid h; have HI := Lib.hid hi; have HT := Lib.hid ht
  have HOK := Lib.hid (h.ok.is i hi ht)
  have hi8 : (i : Int) < 8 := by omega
  have HLT := Lib.hid (fun k (e : FQown g S v k) => h.w.lt e)
  clear h hi ht hcl
  go_enter Try.func30, Try.ntmps30
  go_wp2_with fail
  refine (HH.out.flow_yes HI.out HT.out).mono ?_
  rintro e w1 ⟨V, rfl, hV, hVn, k1⟩
  obtain ⟨va, vcap, rfl⟩ := sgs_shape hV
  have HV := Lib.hid hV; have HVN := Lib.hid hVn; have HK1 := Lib.hid k1
  have HVL := Lib.hid (fun k (e : (Value.slice va (x.F i).q.length vcap).ownBlock = some k) => (World.ownsRow.lt (show w1.ownsRow 0 34 5 _ _ _ from hV) k e).2)
  have HQ1 := Lib.hid (HH.out.w.kept k1)
  clear hV hVn k1
  dsimp only [Fl.v]
  generalize hLL : (x.F i).q.length = LL at *
  have HLL := Lib.hid hLL
  clear hLL
  obtain ⟨fs, fc, fp, fn, fu, hf⟩ : ∃ fs fc fp fn fu, (x.F i).s = fs ∧ (x.F i).c = fc ∧ (x.F i).p = fp ∧ (x.F i).n = fn ∧ (x.F i).u = fu := ⟨_, _, _, _, _, rfl, rfl, rfl, rfl, rfl⟩
  rw [hf.1, hf.2.1, hf.2.2.1, hf.2.2.2.1, hf.2.2.2.2]
  clear hf
  have HB := Lib.hid (Whole.new w1 44 #[.int .i64 fs, .int .i64 fc, .int .i64 fp, .int .u64 fn, .int .u64 fu, .slice va LL vcap])
  have kz : Keep (fun _ => False) w1 (w1.alloc (.cells #[.int .i64 fs, .int .i64 fc, .int .i64 fp, .int .u64 fn, .int .u64 fu, .slice va LL vcap] 44)) := (Keep.refl _ _).alloc _
  have HQ2 := Lib.hid (HQ1.out.kept kz); have HK2 := Lib.hid (HK1.out.trans kz)
  have HV2 := Lib.hid ((sgsT 34 (.slice va LL vcap) (x.F i).q).keep HV.out kz (fun k e => id))
  have HSZ : Hid (w.heap.size ≤ w1.heap.size) := Lib.hid HK1.out.size
  clear kz HQ1 HK1 HV
  go_upto_region 4 with fail
  generalize hB : w1.heap.size = B at *
  generalize hw2 : w1.alloc _ = w2 at *
  clear hB hw2
  go_wp2_with fail
  refine (lpremove_any g 49 _ x.N x.O (i : Int) (decide ((i : Int) ∈ x.N ∨ (i : Int) ∈ x.O)) w2 (HQ2.out.ls HH.out.ok.ls) rfl).mono ?_
  rintro e w3 ⟨rfl, h3⟩
  obtain ⟨cs3, hq3, hk3⟩ := HQ2.out.lists h3
  have HBL : Hid (B < w2.heap.size) := Lib.hid HB.out.lt
  have HB3 := Lib.hid (HB.out.keep hk3 (fun e => by have := HLT.out g (.inl rfl); have := HSZ.out; omega))
  have HQ3 := Lib.hid hq3
  have HK3 := Lib.hid ((HK2.out.mono (fun _ h => h.elim) : Keep (FQown g S v) w w2).then hk3 (fun k e _ => .inl e))
  have HV3 := Lib.hid ((sgsT 34 (.slice va LL vcap) (x.F i).q).keep HV2.out hk3 (fun k e e2 => by have := HVN.out k e; have := HLT.out g (.inl rfl); omega))
  have hs23 := hk3.size
  clear h3 hq3 hk3 HQ2 HK2 HB HV2
  go_wp2_with fail
  refine wp_region_sch (fun W => W.cell? ⟨g, 67, none⟩ = some (.pointer (some ⟨tg, 0, none⟩))) [(true, 0), (true, 1), (true, 2), (true, 3), (true, 4), (true, 5), (false, 6), (false, 7)] (by kernel_rfl) (by kernel_rfl) (by kernel_rfl) (by kernel_rfl) HQ3.out.wait ?_
  have HQ4 := Lib.hid (HQ3.out.kept (Keep.refl _ w3).drew); have HK4 := Lib.hid HK3.out.drew; have HB4 := Lib.hid (HB3.out.keep (Keep.refl (fun _ => False) w3).drew id)
  have HV4 := Lib.hid ((sgsT 34 (.slice va LL vcap) (x.F i).q).keep HV3.out (Keep.refl (fun _ => False) w3).drew (fun k e => id))
  replace hs23 : w2.heap.size ≤ w3.drew.heap.size := hs23
  clear HQ3 HK3 HB3 HV3
  generalize w3.drew = w4 at *
  (repeat (refine wpSch_yes (v := ?_) rfl (fun _ _ _ h => h) (by rfl) ?_ ?_; rotate_left; (next => (intro w hSw; (try dsimp only at hSw); (have hS1 := hSw); go_simp; (try with_reducible rfl))); (try simp only [Act.put, List.setIfInBounds_toArray, List.set_cons_zero, List.set_cons_succ])))
  refine wpSch_call rfl (by rfl) (fun K hK => ?_); go_simp
  refine (HQ4.out.key HI.out HOK.out.hn.1 (t := timeF (x.F i)) rfl).mono ?_
  rintro e w5 ⟨rfl, k5⟩
  have HQ5 := Lib.hid (HQ4.out.kept k5); have HK5 := Lib.hid (HK4.out.trans (k5.mono (fun _ h => h.elim))); have HB5 := Lib.hid (HB4.out.keep k5 id)
  have HV5 := Lib.hid ((sgsT 34 (.slice va LL vcap) (x.F i).q).keep HV4.out k5 (fun k e => id))
  have hs25 : w2.heap.size ≤ w5.heap.size := Nat.le_trans hs23 k5.size
  clear k5 HQ4 HK4 HB4 HV4 hs23
  refine hK.out _ _ HQ5.out.wait (fun hHeld => ?_)
  clear hK K hHeld
  (try simp only [Act.put, List.setIfInBounds_toArray, List.set_cons_zero, List.set_cons_succ])
  refine wpSch_call rfl (by rfl) (fun K hK => ?_); go_simp
  refine (tdel_any (keyF x i) w5 HQ5.out.tree).mono ?_
  rintro e w6 ⟨rfl, S6, ht6, st6⟩
  have HQ6 := Lib.hid (HQ5.out.trees ht6 st6)
  have HK6 := Lib.hid (HK5.out.then st6.1 (fun k e _ => .inr (.inl e)))
  have HB6 := Lib.hid (HB5.out.keep st6.1 (fun e => by have := HLT.out B (.inr (.inl e)); have := HSZ.out; omega))
  have HV6 := Lib.hid ((sgsT 34 (.slice va LL vcap) (x.F i).q).keep HV5.out st6.1 (fun k e e2 => by have := HVN.out k e; have := HLT.out k (.inr (.inl e2)); omega))
  have HS6 : Hid (∀ k, S6 k → S k ∨ w2.heap.size ≤ k) := Lib.hid (fun k e => (st6.2 k e).imp id (fun h => Nat.le_trans hs25 h))
  clear ht6 st6 HQ5 HK5 HB5 HV5 hs25
  refine hK.out _ _ HQ6.out.wait (fun hHeld => ?_)
  clear hK K hHeld
  (try simp only [Act.put, List.setIfInBounds_toArray, List.set_cons_zero, List.set_cons_succ])
  refine wpSch_nil ?_
  obtain ⟨sa, scap, hsv, _⟩ := (HQ6.out.q i HI.out).shape
  have c0 := HQ6.out.there HI.out; have c1 := HQ6.out.credit HI.out; have c2 := HQ6.out.next HI.out; have c3 := HQ6.out.since HI.out; have c4 := HQ6.out.seg HI.out
  rw [hsv] at c4
  have f0 := HQ6.out.whole.free (9 + i * 5); have f1 := HQ6.out.whole.free (9 + i * 5 + 1); have f2 := HQ6.out.whole.free (9 + i * 5 + 2); have f3 := HQ6.out.whole.free (9 + i * 5 + 3); have f4 := HQ6.out.whole.free (9 + i * 5 + 4)
  clear hsv
  go_upto_region 7 with fail
  have hq7 := HQ6.out.zero HI.out
  have hkp := keep_put5 w6 g (9 + i * 5) (.bool false) (.int .i64 0) (.int .u64 0) (.int .u64 0) (.slice none 0 0)
  have HQ7 := Lib.hid hq7
  have HK7 := Lib.hid (HK6.out.then hkp (fun k e _ => .inl e))
  have hb7 := HB6.out.keep hkp (fun e => by have := HLT.out g (.inl rfl); have := HSZ.out; omega)
  have HV7 := Lib.hid ((sgsT 34 (.slice va LL vcap) (x.F i).q).keep HV6.out hkp (fun k e e2 => by have := HVN.out k e; have := HLT.out g (.inl rfl); omega))
  have b5 := hb7.cell 5
  simp only [List.getElem?_toArray, List.getElem?_cons_zero, List.getElem?_cons_succ] at b5
  clear c0 c1 c2 c3 c4 f0 f1 f2 f3 f4 hq7 hkp hb7 HQ6 HK6 HB6 HV6
  unfold put5 at *
  generalize World.setCell _ _ _ = w7 at *
  go_wp2
  go_ret
  refine ⟨_, rfl, HV7.out, HVN.out, S6, _, _, ⟨_, HQ7.out.seen ?_, HCK.out, ?_⟩, HK7.out, fun k hk => ?_, fun k e hk => ?_⟩
  · rw [HCL.out]
    exact ⟨rfl, rfl, rfl, fun _ _ => rfl, fun _ _ => rfl, fun _ _ => rfl, fun _ _ => rfl, fun _ _ => rfl⟩
  · rw [HCL.out]
    exact ks_close HH.out.ks HI.out (fun j hj => upF_ne _ _ hj) (fun j hj => upF_ne _ _ hj) (upF_at _ _ _)
  · rcases hk with h | h | ⟨j, hj, h⟩
    · exact .inl (.inl h)
    · exact (HS6.out k h).imp (fun h => .inr (.inl h)) (fun h => by have := HSZ.out; have := HBL.out; omega)
    · by_cases e : j = i
      · subst e; rw [upF_at] at h; cases h
      · rw [upF_ne _ _ e] at h; exact .inl (.inr (.inr ⟨j, hj, h⟩))
  · have h1 := HVN.out k e
    have h2 := HVL.out k e
    have h3 := HBL.out
    rcases hk with h | h | ⟨j, hj, h⟩
    · have := HLT.out g (.inl rfl); omega
    · rcases HS6.out k h with h | h
      · have := HLT.out k (.inr (.inl h)); omega
      · omega
    · by_cases e2 : j = i
      · subst e2; rw [upF_at] at h; cases h
      · rw [upF_ne _ _ e2] at h; have := HLT.out k (.inr (.inr ⟨j, hj, h⟩)); omega
end
end Go.Proofs.Ytciedllehebmkaa
