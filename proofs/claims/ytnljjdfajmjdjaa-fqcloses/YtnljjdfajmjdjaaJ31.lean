/-
  Package fq: Close: the segments of a flow, which is there no more. Conditions: the queue lies in memory.
  Package fq: each call on a queue of a room. Conditions: the queue is one of the room's things.
  Layer 20's plain config, and what a program that does nothing does not answer. Conditions: none.
-/
import Derived.Test.YtnljjdfajmjdjaaJ30
import Derived.Test.YtnljjdfajmjdjaaJ21
import Derived.Test.YtnljjdfajmjdjaaJ19
import Derived.Test.YtnljjdfajmjdjaaJ23
import Derived.Test.YtnljjdfajmjdjaaJ29
namespace Go.Proofs.Ytnljjdfajmjdjaa
open Go.RowKit
set_option maxRecDepth 100000
set_option linter.unusedSimpArgs false
set_option linter.unusedVariables false

theorem ks_close {x : Qm} {ks : List Key} (h : KsOf x ks) {i : Nat} (hi : i < 8) {y : Qm} (hF : ∀ j : Nat, j ≠ i → y.F j = x.F j) (hT : ∀ j : Nat, j ≠ i → y.T j = x.T j) (hno : y.T i = false) : KsOf y (delS ks (keyF x i)) := fun k => by
  unfold delS
  rw [List.mem_filter, h, decide_eq_true_iff]
  constructor
  · rintro ⟨⟨j, hj, h1, h2, h3⟩, h4⟩
    have e : j ≠ i := fun e => by subst e; exact h4 h3
    exact ⟨j, hj, by rw [hT j e]; exact h1, by rw [hF j e]; exact h2, by unfold keyF; rw [hF j e]; exact h3⟩
  · rintro ⟨j, hj, h1, h2, h3⟩
    have e : j ≠ i := fun e => by subst e; rw [hno] at h1; cases h1
    refine ⟨⟨j, hj, by rw [← hT j e]; exact h1, by rw [← hF j e]; exact h2, by unfold keyF at h3; rw [hF j e] at h3; exact h3⟩, fun e2 => ?_⟩
    have : (j : Int) = (i : Int) := by
      have := h3.symm.trans e2
      exact congrArg Key.b this
    omega
section
variable {w w' : World} {g tg : Nat} {S : Nat → Prop} {cs : Array Value} {v : Nat → Value} {ks : List Key} {x : Qm}
set_option maxRecDepth 100000 in
set_option maxHeartbeats 1000000 in
theorem FQw.close_no (h : FQw w g tg S cs v ks x) (z : Int) (hz : ¬ ((0 ≤ z ∧ z < 8) ∧ x.T z.toNat = true)) :
    Calls Try.prog 30 #[.pointer (some ⟨g, 0, none⟩), .int .i64 z] w fun e w' => e = .returned (.slice none 0 0) ∧ Keep (fun _ => False) w w' := by
  have H := Lib.hid h; have HZ := Lib.hid hz
  clear h hz
  go_enter Try.func30, Try.ntmps30
  go_wp2_with fail
  refine (H.out.flow_no z HZ.out).mono ?_
  rintro e w1 ⟨rfl, k1⟩
  have K1 := Lib.hid (k1.alloc (.cells #[.int .i64 0, .int .i64 0, .int .i64 0, .int .u64 0, .int .u64 0, .slice none 0 0] 44))
  clear k1
  dsimp only [Fl.v, Fl.zero]
  go_wp2
  go_ret
  exact ⟨rfl, K1.out⟩
set_option maxRecDepth 100000 in
set_option maxHeartbeats 4000000 in
theorem FQat.close_yes (h : FQat w g tg S cs v ks x) {i : Nat} (hi : i < 8) (ht : x.T i = true) :
    Calls Try.prog 30 #[.pointer (some ⟨g, 0, none⟩), .int .i64 (i : Int)] w fun e w' => ∃ V, e = .returned V ∧ (sgsT 34 V (x.F i).q).at_ w' ∧ (∀ k, V.ownBlock = some k → w.heap.size ≤ k) ∧ ∃ S' cs' v' ks', FQat w' g tg S' cs' v' ks' (clsQ x (i : Int)) ∧ Keep (FQown g S v) w w' ∧ (∀ k, FQown g S' v' k → FQown g S v k ∨ w.heap.size ≤ k) ∧ ∀ k, V.ownBlock = some k → ¬ FQown g S' v' k := by
  have hcl : clsQ x (i : Int) = { x with F := upF x.F i Fl.zero, T := upF x.T i false, N := x.N.erase (i : Int), O := x.O.erase (i : Int) } := by
    unfold clsQ
    rw [if_pos ⟨⟨by omega, by omega⟩, ht⟩]
    rfl
  have HCL := Lib.hid hcl
  have HCK := Lib.hid (cls_ok h.ok (i : Int))
  have HH := Lib.hid h; have HI := Lib.hid hi; have HT := Lib.hid ht
  have HOK := Lib.hid (h.ok.is i hi ht)
  have hi8 : (i : Int) < 8 := by omega
  have HLT := Lib.hid (fun k (e : FQown g S v k) => h.w.lt e)
  clear h hi ht hcl
  go_enter Try.func30, Try.ntmps30
  go_wp2_with fail
  refine (HH.out.flow_yes HI.out HT.out).mono ?_
  rintro e w1 ⟨V, rfl, hV, hVn, k1⟩
  obtain ⟨va, vcap, rfl⟩ := sgs_shape hV
  have HV := Lib.hid hV; have HVN := Lib.hid hVn; have HK1 := Lib.hid k1
  have HVL := Lib.hid (fun k (e : (Value.slice va (x.F i).q.length vcap).ownBlock = some k) => (World.ownsRow.lt (show w1.ownsRow 0 34 5 _ _ _ from hV) k e).2)
  have HQ1 := Lib.hid (HH.out.w.kept k1)
  clear hV hVn k1
  dsimp only [Fl.v]
  generalize hLL : (x.F i).q.length = LL at *
  have HLL := Lib.hid hLL
  clear hLL
  obtain ⟨fs, fc, fp, fn, fu, hf⟩ : ∃ fs fc fp fn fu, (x.F i).s = fs ∧ (x.F i).c = fc ∧ (x.F i).p = fp ∧ (x.F i).n = fn ∧ (x.F i).u = fu := ⟨_, _, _, _, _, rfl, rfl, rfl, rfl, rfl⟩
  rw [hf.1, hf.2.1, hf.2.2.1, hf.2.2.2.1, hf.2.2.2.2]
  clear hf
  have HB := Lib.hid (Whole.new w1 44 #[.int .i64 fs, .int .i64 fc, .int .i64 fp, .int .u64 fn, .int .u64 fu, .slice va LL vcap])
  have kz : Keep (fun _ => False) w1 (w1.alloc (.cells #[.int .i64 fs, .int .i64 fc, .int .i64 fp, .int .u64 fn, .int .u64 fu, .slice va LL vcap] 44)) := (Keep.refl _ _).alloc _
  have HQ2 := Lib.hid (HQ1.out.kept kz); have HK2 := Lib.hid (HK1.out.trans kz)
  have HV2 := Lib.hid ((sgsT 34 (.slice va LL vcap) (x.F i).q).keep HV.out kz (fun k e => id))
  have HSZ : Hid (w.heap.size ≤ w1.heap.size) := Lib.hid HK1.out.size
  clear kz HQ1 HK1 HV
  go_upto_region 4 with fail
  generalize hB : w1.heap.size = B at *
  generalize hw2 : w1.alloc _ = w2 at *
  clear hB hw2
  go_wp2_with fail
  refine (lpremove_any g 49 _ x.N x.O (i : Int) (decide ((i : Int) ∈ x.N ∨ (i : Int) ∈ x.O)) w2 (HQ2.out.ls HH.out.ok.ls) rfl).mono ?_
  rintro e w3 ⟨rfl, h3⟩
  obtain ⟨cs3, hq3, hk3⟩ := HQ2.out.lists h3
  have HBL : Hid (B < w2.heap.size) := Lib.hid HB.out.lt
  have HB3 := Lib.hid (HB.out.keep hk3 (fun e => by have := HLT.out g (.inl rfl); have := HSZ.out; omega))
  have HQ3 := Lib.hid hq3
  have HK3 := Lib.hid ((HK2.out.mono (fun _ h => h.elim) : Keep (FQown g S v) w w2).then hk3 (fun k e _ => .inl e))
  have HV3 := Lib.hid ((sgsT 34 (.slice va LL vcap) (x.F i).q).keep HV2.out hk3 (fun k e e2 => by have := HVN.out k e; have := HLT.out g (.inl rfl); omega))
  have hs23 := hk3.size
  clear h3 hq3 hk3 HQ2 HK2 HB HV2
  go_wp2_with fail
  refine wp_region_sch (fun W => W.cell? ⟨g, 67, none⟩ = some (.pointer (some ⟨tg, 0, none⟩))) [(true, 0), (true, 1), (true, 2), (true, 3), (true, 4), (true, 5), (false, 6), (false, 7)] (by kernel_rfl) (by kernel_rfl) (by kernel_rfl) (by kernel_rfl) HQ3.out.wait ?_
  have HQ4 := Lib.hid (HQ3.out.kept (Keep.refl _ w3).drew); have HK4 := Lib.hid HK3.out.drew; have HB4 := Lib.hid (HB3.out.keep (Keep.refl (fun _ => False) w3).drew id)
  have HV4 := Lib.hid ((sgsT 34 (.slice va LL vcap) (x.F i).q).keep HV3.out (Keep.refl (fun _ => False) w3).drew (fun k e => id))
  replace hs23 : w2.heap.size ≤ w3.drew.heap.size := hs23
  clear HQ3 HK3 HB3 HV3
  generalize w3.drew = w4 at *
  (repeat (refine wpSch_yes (v := ?_) rfl (fun _ _ _ h => h) (by rfl) ?_ ?_; rotate_left; (next => (intro w hSw; (try dsimp only at hSw); (have hS1 := hSw); go_simp; (try with_reducible rfl))); (try simp only [Act.put, List.setIfInBounds_toArray, List.set_cons_zero, List.set_cons_succ])))
  refine wpSch_call rfl (by rfl) (fun K hK => ?_); go_simp
  refine (HQ4.out.key HI.out HOK.out.hn.1 (t := timeF (x.F i)) rfl).mono ?_
  rintro e w5 ⟨rfl, k5⟩
  have HQ5 := Lib.hid (HQ4.out.kept k5); have HK5 := Lib.hid (HK4.out.trans (k5.mono (fun _ h => h.elim))); have HB5 := Lib.hid (HB4.out.keep k5 id)
  have HV5 := Lib.hid ((sgsT 34 (.slice va LL vcap) (x.F i).q).keep HV4.out k5 (fun k e => id))
  have hs25 : w2.heap.size ≤ w5.heap.size := Nat.le_trans hs23 k5.size
  clear k5 HQ4 HK4 HB4 HV4 hs23
  refine hK.out _ _ HQ5.out.wait (fun hHeld => ?_)
  clear hK K hHeld
  (try simp only [Act.put, List.setIfInBounds_toArray, List.set_cons_zero, List.set_cons_succ])
  refine wpSch_call rfl (by rfl) (fun K hK => ?_); go_simp
  refine (tdel_any (keyF x i) w5 HQ5.out.tree).mono ?_
  rintro e w6 ⟨rfl, S6, ht6, st6⟩
  have HQ6 := Lib.hid (HQ5.out.trees ht6 st6)
  have HK6 := Lib.hid (HK5.out.then st6.1 (fun k e _ => .inr (.inl e)))
  have HB6 := Lib.hid (HB5.out.keep st6.1 (fun e => by have := HLT.out B (.inr (.inl e)); have := HSZ.out; omega))
  have HV6 := Lib.hid ((sgsT 34 (.slice va LL vcap) (x.F i).q).keep HV5.out st6.1 (fun k e e2 => by have := HVN.out k e; have := HLT.out k (.inr (.inl e2)); omega))
  have HS6 : Hid (∀ k, S6 k → S k ∨ w2.heap.size ≤ k) := Lib.hid (fun k e => (st6.2 k e).imp id (fun h => Nat.le_trans hs25 h))
  clear ht6 st6 HQ5 HK5 HB5 HV5 hs25
  refine hK.out _ _ HQ6.out.wait (fun hHeld => ?_)
  clear hK K hHeld
  (try simp only [Act.put, List.setIfInBounds_toArray, List.set_cons_zero, List.set_cons_succ])
  refine wpSch_nil ?_
  obtain ⟨sa, scap, hsv, _⟩ := (HQ6.out.q i HI.out).shape
  have c0 := HQ6.out.there HI.out; have c1 := HQ6.out.credit HI.out; have c2 := HQ6.out.next HI.out; have c3 := HQ6.out.since HI.out; have c4 := HQ6.out.seg HI.out
  rw [hsv] at c4
  have f0 := HQ6.out.whole.free (9 + i * 5); have f1 := HQ6.out.whole.free (9 + i * 5 + 1); have f2 := HQ6.out.whole.free (9 + i * 5 + 2); have f3 := HQ6.out.whole.free (9 + i * 5 + 3); have f4 := HQ6.out.whole.free (9 + i * 5 + 4)
  clear hsv
  go_upto_region 7 with fail
  have hq7 := HQ6.out.zero HI.out
  have hkp := keep_put5 w6 g (9 + i * 5) (.bool false) (.int .i64 0) (.int .u64 0) (.int .u64 0) (.slice none 0 0)
  have HQ7 := Lib.hid hq7
  have HK7 := Lib.hid (HK6.out.then hkp (fun k e _ => .inl e))
  have hb7 := HB6.out.keep hkp (fun e => by have := HLT.out g (.inl rfl); have := HSZ.out; omega)
  have HV7 := Lib.hid ((sgsT 34 (.slice va LL vcap) (x.F i).q).keep HV6.out hkp (fun k e e2 => by have := HVN.out k e; have := HLT.out g (.inl rfl); omega))
  have b5 := hb7.cell 5
  simp only [List.getElem?_toArray, List.getElem?_cons_zero, List.getElem?_cons_succ] at b5
  clear c0 c1 c2 c3 c4 f0 f1 f2 f3 f4 hq7 hkp hb7 HQ6 HK6 HB6 HV6
  unfold put5 at *
  generalize World.setCell _ _ _ = w7 at *
  go_wp2
  go_ret
  refine ⟨_, rfl, HV7.out, HVN.out, S6, _, _, ⟨_, HQ7.out.seen ?_, HCK.out, ?_⟩, HK7.out, fun k hk => ?_, fun k e hk => ?_⟩
  · rw [HCL.out]
    exact ⟨rfl, rfl, rfl, fun _ _ => rfl, fun _ _ => rfl, fun _ _ => rfl, fun _ _ => rfl, fun _ _ => rfl⟩
  · rw [HCL.out]
    exact ks_close HH.out.ks HI.out (fun j hj => upF_ne _ _ hj) (fun j hj => upF_ne _ _ hj) (upF_at _ _ _)
  · rcases hk with h | h | ⟨j, hj, h⟩
    · exact .inl (.inl h)
    · exact (HS6.out k h).imp (fun h => .inr (.inl h)) (fun h => by have := HSZ.out; have := HBL.out; omega)
    · by_cases e : j = i
      · subst e; rw [upF_at] at h; cases h
      · rw [upF_ne _ _ e] at h; exact .inl (.inr (.inr ⟨j, hj, h⟩))
  · have h1 := HVN.out k e
    have h2 := HVL.out k e
    have h3 := HBL.out
    rcases hk with h | h | ⟨j, hj, h⟩
    · have := HLT.out g (.inl rfl); omega
    · rcases HS6.out k h with h | h
      · have := HLT.out k (.inr (.inl h)); omega
      · omega
    · by_cases e2 : j = i
      · subst e2; rw [upF_at] at h; cases h
      · rw [upF_ne _ _ e2] at h; have := HLT.out k (.inr (.inr ⟨j, hj, h⟩)); omega
end
end Go.Proofs.Ytnljjdfajmjdjaa
namespace Go.Proofs.Ytnljjdfajmjdjaa
open Go.RowKit
set_option maxRecDepth 100000
set_option linter.unusedSimpArgs false
set_option linter.unusedVariables false

/-- The watchdog. -/
def dogV (x : Qm) : Int := match firstQ x with | none => 0 | some i => timeF (x.F i)
def dogB (x : Qm) : Bool := (firstQ x).isSome
theorem dog_is {x : Qm} {ks : List Key} (hk : KsOf x ks) (hs : ks.Pairwise KLt) : (hdK ks).a = dogV x ∧ hdB ks = dogB x := by
  unfold dogV dogB
  cases ks with
  | nil =>
    have : firstQ x = none := by
      cases hf : firstQ x with
      | none => rfl
      | some b =>
        obtain ⟨hb, h1, h2⟩ := firstN_some hf
        have := (hk (keyF x b)).2 ⟨b, hb, h1, h2, rfl⟩
        cases this
    rw [this]
    exact ⟨rfl, rfl⟩
  | cons k r =>
    obtain ⟨i, hi, h1, h2, h3⟩ := (hk k).1 (List.mem_cons_self ..)
    cases hf : firstQ x with
    | none => exact absurd ⟨h1, h2⟩ (firstN_none hf i hi)
    | some b =>
      obtain ⟨hb, t1, t2⟩ := firstN_some hf
      have hle := (firstN_least hf i hi h1 h2).1
      have hm := (hk (keyF x b)).2 ⟨b, hb, t1, t2, rfl⟩
      refine ⟨?_, rfl⟩
      show k.a = timeF (x.F b)
      rcases List.mem_cons.1 hm with h | h
      · rw [← h]; rfl
      · have h4 := (List.pairwise_cons.1 hs).1 _ h
        have h5 : k.a = timeF (x.F i) := by rw [h3]; rfl
        unfold KLt keyF at h4
        dsimp only at h4
        rcases h4 with h4 | h4
        · omega
        · exact h4.1

section
variable {wB w : World} {L : List Thing} {g : Nat} {own : Nat → Prop} {x : Qm}
theorem fqT_of {w' : World} {tg : Nat} {S : Nat → Prop} {cs : Array Value} {v : Nat → Value} {ks : List Key} {y : Qm} (h : FQat w' g tg S cs v ks y) : (fqT g (FQown g S v) y).at_ w' := ⟨tg, S, cs, v, ks, h, fun _ => Iff.rfl⟩
/-- The first thing turns, with other blocks of its own. -/
theorem Room.fqstep {w' : World} {own' : Nat → Prop} {y : Qm} (h : Room wB w (fqT g own x :: L)) (ht : (fqT g own' y).at_ w') (hk : Keep own w w') (hn : ∀ k, own' k → own k ∨ w.heap.size ≤ k) : Room wB w' (fqT g own' y :: L) :=
  h.step0 (t' := fqT g own' y) ht hk hn
theorem Room.fqenq (h : Room wB w (fqT g own x :: L)) (s : Sg) (now : Int) (hn : U64 now) (hf : U64 s.f) (hst : U64 s.t) :
    Calls Try.prog 18 #[.pointer (some ⟨g, 0, none⟩), s.v, .int .u64 now] w fun e w' => e = .returned (.tuple #[.int .i64 (enqV x s now), .int .i64 (enqE s)]) ∧ ∃ own', Room wB w' (fqT g own' (enqQ x s now) :: L) := by
  obtain ⟨tg, S, cs, v, ks, hq, ho⟩ := h.get0
  refine (hq.enq s now hn hf hst).mono ?_
  rintro e w' ⟨rfl, cs', v', hq', hk, hv⟩
  refine ⟨rfl, _, h.fqstep (fqT_of hq') (hk.mono fun k e => (ho k).2 e) fun k hk' => ?_⟩
  rcases hk' with e | e | ⟨j, hj, e⟩
  · exact .inl ((ho k).2 (.inl e))
  · exact .inl ((ho k).2 (.inr (.inl e)))
  · exact (hv j k hj e).imp (fun e => (ho k).2 (.inr (.inr ⟨j, hj, e⟩))) id
/-- A pull: the rates lie apart from the queue, if there are any. -/
theorem Room.fqdeqr (h : Room wB w (fqT g own x :: L)) (now : Int) (hn : U64 now) (a : Option Addr) (cap : Nat) (rs : List Int) (hr : Rd .u64 w a rs) (hb : ∀ r ∈ rs, U64 r) (hap : rs ≠ [] → ∀ b off, a = some ⟨b, off, none⟩ → ¬ own b)
    {y : Qm} {o : Option Sg} (he : deqQ (dlyQ rs x.c.r) x now = (y, o)) :
    Calls Try.prog 21 #[.pointer (some ⟨g, 0, none⟩), .int .u64 now, .slice a rs.length cap] w fun e w' => e = .returned (.tuple #[(o.getD Sg.zero).v, .bool o.isSome]) ∧ ∃ own', Room wB w' (fqT g own' y :: L) := by
  obtain ⟨tg, S, cs, v, ks, hq, ho⟩ := h.get0
  refine (hq.deq now hn a cap rs hr hb (fun hne b off e e2 => hap hne b off e ((ho b).2 e2)) he).mono ?_
  rintro e w' ⟨rfl, S', cs', v', ks', hq', hk, hv⟩
  exact ⟨rfl, _, h.fqstep (fqT_of hq') (hk.mono fun k e => (ho k).2 e) fun k hk' => (hv k hk').imp (fun e => (ho k).2 e) id⟩
theorem Room.fqdeq (h : Room wB w (fqT g own x :: L)) (now : Int) (hn : U64 now) (a : Option Addr) (cap : Nat) (rs : List Int) (hr : Rd .u64 w a rs) (hb : ∀ r ∈ rs, U64 r) (hap : ∀ b off, a = some ⟨b, off, none⟩ → ¬ own b)
    {y : Qm} {o : Option Sg} (he : deqQ (dlyQ rs x.c.r) x now = (y, o)) :
    Calls Try.prog 21 #[.pointer (some ⟨g, 0, none⟩), .int .u64 now, .slice a rs.length cap] w fun e w' => e = .returned (.tuple #[(o.getD Sg.zero).v, .bool o.isSome]) ∧ ∃ own', Room wB w' (fqT g own' y :: L) :=
  h.fqdeqr now hn a cap rs hr hb (fun _ => hap) he
theorem Rd.nil (k : IntKind) (w : World) (a : Option Addr) : Rd k w a [] := fun i hi => absurd hi (Nat.not_lt_zero i)
/-- A pull without rates. -/
theorem Room.fqdeq0 (h : Room wB w (fqT g own x :: L)) (now : Int) (hn : U64 now) {y : Qm} {o : Option Sg} (he : deqQ (dlyQ [] x.c.r) x now = (y, o)) :
    Calls Try.prog 21 #[.pointer (some ⟨g, 0, none⟩), .int .u64 now, .slice none 0 0] w fun e w' => e = .returned (.tuple #[(o.getD Sg.zero).v, .bool o.isSome]) ∧ ∃ own', Room wB w' (fqT g own' y :: L) :=
  h.fqdeq now hn none 0 [] (Rd.nil _ _ _) (fun _ h => by cases h) (fun _ _ e => by cases e) he
theorem Room.fqlen (h : Room wB w (fqT g own x :: L)) : Calls Try.prog 25 #[.pointer (some ⟨g, 0, none⟩)] w fun e w' => e = .returned (.int .i64 (lenQ x : Int)) ∧ Room wB w' (fqT g own x :: L) := by
  obtain ⟨tg, S, cs, v, ks, hq, ho⟩ := h.get0
  exact (hq.w.len hq.ok.len).mono fun e w' ⟨he, hk⟩ => ⟨he, h.kept hk⟩
theorem Room.fqdog (h : Room wB w (fqT g own x :: L)) : Calls Try.prog 26 #[.pointer (some ⟨g, 0, none⟩)] w fun e w' => e = .returned (.tuple #[.int .u64 (dogV x), .bool (dogB x)]) ∧ Room wB w' (fqT g own x :: L) := by
  obtain ⟨tg, S, cs, v, ks, hq, ho⟩ := h.get0
  have hd := dog_is hq.ks hq.w.tree.sorted
  rw [← hd.1, ← hd.2]
  exact hq.w.dog.mono fun e w' ⟨he, hk⟩ => ⟨he, h.kept hk⟩
theorem Room.fqset (h : Room wB w (fqT g own x :: L)) (c : Cf) (hr : U64 c.r) (hh : U64 c.h) : Calls Try.prog 29 #[.pointer (some ⟨g, 0, none⟩), c.v] w fun e w' => e = .returned (.int .i64 (setV c)) ∧ Room wB w' (fqT g own (setX x c) :: L) := by
  obtain ⟨tg, S, cs, v, ks, hq, ho⟩ := h.get0
  refine (hq.setc c hr hh).mono ?_
  rintro e w' ⟨rfl, cs', hq', hk⟩
  refine ⟨rfl, h.fqstep ⟨tg, S, cs', v, ks, hq', ho⟩ (hk.mono fun k e => (ho k).2 (.inl e)) fun k e => .inl e⟩
theorem Room.fqflow_no (h : Room wB w (fqT g own x :: L)) (z : Int) (hz : ¬ ((0 ≤ z ∧ z < 8) ∧ x.T z.toNat = true)) : Calls Try.prog 20 #[.pointer (some ⟨g, 0, none⟩), .int .i64 z] w fun e w' => e = .returned (.tuple #[Fl.v (.slice none 0 0) Fl.zero, .bool false]) ∧ Room wB w' (fqT g own x :: L) := by
  obtain ⟨tg, S, cs, v, ks, hq, ho⟩ := h.get0
  exact (hq.w.flow_no z hz).mono fun e w' ⟨he, hk⟩ => ⟨he, h.kept hk⟩
/-- A flow that is there: its segments are a thing of the room, behind the queue. -/
theorem Room.fqflow_yes (h : Room wB w (fqT g own x :: L)) {i : Nat} (hi : i < 8) (ht : x.T i = true) : Calls Try.prog 20 #[.pointer (some ⟨g, 0, none⟩), .int .i64 (i : Int)] w fun e w' => ∃ V, e = .returned (.tuple #[Fl.v V (x.F i), .bool true]) ∧ Room wB w' (fqT g own x :: sgsT 34 V (x.F i).q :: L) := by
  obtain ⟨tg, S, cs, v, ks, hq, ho⟩ := h.get0
  refine (hq.flow_yes hi ht).mono ?_
  rintro e w' ⟨V, rfl, hV, hn, hk⟩
  exact ⟨V, rfl, (h.add (t := sgsT 34 V (x.F i).q) hV hk hn).perm (List.Perm.swap _ _ _)⟩
theorem Room.fqclose_no (h : Room wB w (fqT g own x :: L)) (z : Int) (hz : ¬ ((0 ≤ z ∧ z < 8) ∧ x.T z.toNat = true)) : Calls Try.prog 30 #[.pointer (some ⟨g, 0, none⟩), .int .i64 z] w fun e w' => e = .returned (.slice none 0 0) ∧ Room wB w' (fqT g own x :: L) := by
  obtain ⟨tg, S, cs, v, ks, hq, ho⟩ := h.get0
  exact (hq.w.close_no z hz).mono fun e w' ⟨he, hk⟩ => ⟨he, h.kept hk⟩
theorem Room.fqclose_yes (h : Room wB w (fqT g own x :: L)) {i : Nat} (hi : i < 8) (ht : x.T i = true) : Calls Try.prog 30 #[.pointer (some ⟨g, 0, none⟩), .int .i64 (i : Int)] w fun e w' => ∃ V own', e = .returned V ∧ Room wB w' (sgsT 34 V (x.F i).q :: fqT g own' (clsQ x (i : Int)) :: L) := by
  obtain ⟨tg, S, cs, v, ks, hq, ho⟩ := h.get0
  refine (hq.close_yes hi ht).mono ?_
  rintro e w' ⟨V, rfl, hV, hn, S', cs', v', ks', hq', hk, hv, hap⟩
  have h2 := h.fqstep (fqT_of hq') (hk.mono fun k e => (ho k).2 e) fun k hk' => (hv k hk').imp (fun e => (ho k).2 e) id
  refine ⟨V, _, rfl, ⟨fun s hs => ?_, fun s hs k hk' => ?_, List.pairwise_cons.2 ⟨fun s hs k hk' hk2 => ?_, h2.dis⟩, h2.bel⟩⟩
  · rcases List.mem_cons.1 hs with rfl | hs
    · exact hV
    · exact h2.all s hs
  · rcases List.mem_cons.1 hs with rfl | hs
    · exact Nat.le_trans h.bel.size (hn k hk')
    · exact h2.lo s hs k hk'
  · rcases List.mem_cons.1 hs with rfl | hs
    · exact hap k hk' hk2
    · have h3 := s.lt (h.all s (List.Mem.tail _ hs)) hk2
      have := hn k hk'
      omega
end

/-! ### New -/
set_option maxRecDepth 100000 in
set_option maxHeartbeats 2000000 in
theorem fqnew_any (c : Cf) (hr : U64 c.r) (hh : U64 c.h) (w : World) :
    Calls Try.prog 15 #[c.v] w fun e w' => (c.Ok → ∃ g own, e = .returned (.tuple #[.pointer (some ⟨g, 0, none⟩), .int .i64 0]) ∧ (fqT g own (newQ c)).at_ w' ∧ ∀ k, own k → w.heap.size ≤ k) ∧ (¬ c.Ok → e = .returned (.tuple #[.pointer none, .int .i64 13])) ∧ Keep (fun _ => False) w w' := by
  obtain ⟨w1, hw1⟩ : ∃ w1, w1 = (w.alloc (.cells #[.int .i64 c.q, .int .i64 c.f, .int .i64 c.l, .int .i64 c.w, .int .u64 c.h, .int .u64 c.r, .bool c.d, .int .i64 c.k, .int .i64 c.m] 24)) := ⟨_, rfl⟩
  have k1 : Keep (fun _ => False) w w1 := by rw [hw1]; exact (Keep.refl _ _).alloc _
  have hs1 : w1.heap.size = w.heap.size + 1 := by rw [hw1]; simp
  have hb1 : Whole w1 w.heap.size 24 #[.int .i64 c.q, .int .i64 c.f, .int .i64 c.l, .int .i64 c.w, .int .u64 c.h, .int .u64 c.r, .bool c.d, .int .i64 c.k, .int .i64 c.m] := by rw [hw1]; exact Whole.new _ _ _
  have hz := Whole.new w1 83 zq
  have kz : Keep (fun _ => False) w1 (w1.alloc (.cells zq 83)) := (Keep.refl _ _).alloc _
  have HZ := Lib.hid hz; have HK := Lib.hid (k1.trans kz); have HS1 := Lib.hid hs1
  have HB := Lib.hid (hb1.keep kz id)
  have HR := Lib.hid hr; have HH := Lib.hid hh
  obtain ⟨q, f, l, m, hz', r, d, k, s⟩ := c
  dsimp only [Cf.v] at *
  clear k1 hs1 hb1 hz kz hr hh
  go_enter Try.func15, Try.ntmps15
  go_upto_region 2 with fail
  rw [← hw1, show Try.zeroCells83 = zq from rfl]
  clear hw1
  rw [HS1.out] at HZ
  generalize hw2 : w1.alloc (.cells zq 83) = w2 at *
  clear hw2
  have b0 := HB.out.cell 0; have b1 := HB.out.cell 1; have b2 := HB.out.cell 2; have b3 := HB.out.cell 3; have b4 := HB.out.cell 4; have b5 := HB.out.cell 5; have b6 := HB.out.cell 6; have b7 := HB.out.cell 7; have b8 := HB.out.cell 8
  simp only [List.getElem?_toArray, List.getElem?_cons_zero, List.getElem?_cons_succ] at b0 b1 b2 b3 b4 b5 b6 b7 b8
  go_wp2_with fail
  clear b0 b1 b2 b3 b4 b5 b6 b7 b8
  refine (setn_any HZ.out rfl rfl ⟨q, f, l, m, hz', r, d, k, s⟩ HR.out HH.out).mono ?_
  rintro e w3 ⟨rfl, hok, hk⟩
  have hkk : Keep (fun _ => False) w w3 := HK.out.then hk (fun k e hlt => by omega)
  have HKK := Lib.hid hkk; have HOKS := Lib.hid hok
  have HSZ : Hid (w.heap.size + 1 < w2.heap.size) := Lib.hid HZ.out.lt
  clear hok hk hkk
  by_cases hc : (⟨q, f, l, m, hz', r, d, k, s⟩ : Cf).Ok
  · have HC := Lib.hid hc
    have e0 : setV ⟨q, f, l, m, hz', r, d, k, s⟩ = 0 := if_pos hc
    rw [e0]
    clear e0 hc
    go_wp2
    go_ret2
    refine ⟨fun _ => ?_, fun h => absurd HC.out h, HKK.out⟩
    obtain ⟨tg, S, h1, h2, h3⟩ := HOKS.out HC.out
    have hSg : ¬ S (w.heap.size + 1) := fun e => by have := h3 _ e; have := HSZ.out; omega
    refine ⟨_, _, rfl, fqT_of (S := S) (v := fun _ => .slice none 0 0) (⟨⟨h1, zq_new tg _, h2, fun i _ => SgAt.nil _, fun _ _ _ _ _ k e => (by cases e), fun _ _ k e => (by cases e), hSg⟩, new_ok HC.out, fun k => ⟨fun e => (by cases e), fun ⟨i, _, e, _⟩ => (by cases e)⟩⟩ : FQat w3 (w.heap.size + 1) tg S _ _ [] (newQ _)), fun k e => ?_⟩
    rcases e with e | e | ⟨_, _, e⟩
    · omega
    · have := h3 k e; have := HSZ.out; omega
    · cases e
  · have HC := Lib.hid hc
    have e0 : setV ⟨q, f, l, m, hz', r, d, k, s⟩ = 13 := if_neg hc
    rw [e0]
    clear e0 hc
    go_wp2
    go_ret2
    exact ⟨fun h => absurd h HC.out, fun _ => rfl, HKK.out⟩
theorem Room.fqnew {wB w : World} {L : List Thing} (h : Room wB w L) (c : Cf) (hc : c.Ok) :
    Calls Try.prog 15 #[c.v] w fun e w' => ∃ g own, e = .returned (.tuple #[.pointer (some ⟨g, 0, none⟩), .int .i64 0]) ∧ Room wB w' (fqT g own (newQ c) :: L) := by
  refine (fqnew_any c hc.hr ⟨hc.hh.1, by have := hc.hh.2; omega⟩ w).mono ?_
  rintro e w' ⟨h1, _, hk⟩
  obtain ⟨g, own, rfl, ht, hn⟩ := h1 hc
  exact ⟨g, own, rfl, h.add (t := fqT g own (newQ c)) ht hk hn⟩

/-! ### A nil queue -/
theorem fqenq_nil (s : Sg) (now : Int) (w : World) : Calls Try.prog 18 #[.pointer none, s.v, .int .u64 now] w fun e w' => e = .returned (.tuple #[.int .i64 0, .int .i64 2]) ∧ Keep (fun _ => False) w w' := by
  obtain ⟨z, f, l, t, a⟩ := s
  dsimp only [Sg.v]
  have K := Lib.hid ((Keep.refl (fun _ => False) w).alloc (.cells #[.int .i64 z, .int .u64 f, .int .i64 l, .int .u64 t, .bool a] 34))
  go_enter Try.func18, Try.ntmps18
  go_wp2
  go_ret2
  exact ⟨rfl, K.out⟩
theorem fqdeq_nil (now : Int) (w : World) : Calls Try.prog 21 #[.pointer none, .int .u64 now, .slice none 0 0] w fun e w' => e = .returned (.tuple #[Sg.zero.v, .bool false]) ∧ Keep (fun _ => False) w w' := by
  have K := Lib.hid ((Keep.refl (fun _ => False) w).alloc (.cells #[.int .i64 0, .int .u64 0, .int .i64 0, .int .u64 0, .bool false] 34))
  go_enter Try.func21, Try.ntmps21
  go_wp2
  go_step3
  go_wp2
  try rw [Exit.noGoto_ret]
  refine bodyPost_ret (v := .tuple #[.agg #[.int .i64 0, .int .u64 0, .int .i64 0, .int .u64 0, .bool false], .bool false]) (by rw [results_cell_tmp rfl]; go_simp) rfl ?_
  exact ⟨rfl, K.out⟩
theorem fqdog_nil (w : World) : Calls Try.prog 26 #[.pointer none] w fun e w' => e = .returned (.tuple #[.int .u64 0, .bool false]) ∧ w = w' := by
  go_enter Try.func26, Try.ntmps26
  go_wp2
  go_ret2
  exact ⟨rfl, rfl⟩
theorem fqlen_nil (w : World) : Calls Try.prog 25 #[.pointer none] w fun e w' => e = .returned (.int .i64 0) ∧ w = w' := by
  go_enter Try.func25, Try.ntmps25
  go_wp2
  go_ret
  exact ⟨rfl, rfl⟩
theorem fqset_nil (c : Cf) (w : World) : Calls Try.prog 29 #[.pointer none, c.v] w fun e w' => e = .returned (.int .i64 2) ∧ Keep (fun _ => False) w w' := by
  obtain ⟨q, f, l, m, hz', r, d, k, s⟩ := c
  dsimp only [Cf.v]
  have K := Lib.hid ((Keep.refl (fun _ => False) w).alloc (.cells #[.int .i64 q, .int .i64 f, .int .i64 l, .int .i64 m, .int .u64 hz', .int .u64 r, .bool d, .int .i64 k, .int .i64 s] 24))
  go_enter Try.func29, Try.ntmps29
  go_wp2
  go_ret
  exact ⟨rfl, K.out⟩
theorem fqflow_nil (z : Int) (w : World) : Calls Try.prog 20 #[.pointer none, .int .i64 z] w fun e w' => e = .returned (.tuple #[Fl.v (.slice none 0 0) Fl.zero, .bool false]) ∧ Keep (fun _ => False) w w' := by
  have K := Lib.hid ((Keep.refl (fun _ => False) w).alloc (.cells #[.int .i64 0, .int .i64 0, .int .i64 0, .int .u64 0, .int .u64 0, .slice none 0 0] 44))
  go_enter Try.func20, Try.ntmps20
  go_wp2
  refine bodyPost_ret (v := .tuple #[.agg #[.int .i64 0, .int .i64 0, .int .i64 0, .int .u64 0, .int .u64 0, .slice none 0 0], .bool false]) (by rw [results_cell_tmp rfl]; go_simp) rfl ?_
  exact ⟨rfl, K.out⟩
theorem fqclose_nil (z : Int) (w : World) : Calls Try.prog 30 #[.pointer none, .int .i64 z] w fun e w' => e = .returned (.slice none 0 0) ∧ Keep (fun _ => False) w w' := by
  go_enter Try.func30, Try.ntmps30
  go_wp2_with fail
  refine (fqflow_nil z w).mono ?_
  rintro e w1 ⟨rfl, k1⟩
  have K1 := Lib.hid (k1.alloc (.cells #[.int .i64 0, .int .i64 0, .int .i64 0, .int .u64 0, .int .u64 0, .slice none 0 0] 44))
  clear k1
  dsimp only [Fl.v, Fl.zero]
  go_wp2
  go_ret
  exact ⟨rfl, K1.out⟩
end Go.Proofs.Ytnljjdfajmjdjaa
namespace Go.Proofs.Ytnljjdfajmjdjaa
open Go.RowKit
set_option maxRecDepth 100000
set_option linter.unusedSimpArgs false
set_option linter.unusedVariables false

theorem plain_okC : plainC.Ok := by decide
theorem Room.nth {wB w : World} {L : List Thing} (h : Room wB w L) (i : Nat) {t : Thing} (e : L[i]? = some t) : t.at_ w := h.all t (List.mem_of_getElem? e)
/-- int(uint(a) % m), and one more. -/
theorem mod_num (a m : Int) (hm : 0 < m) (hb : m ≤ 1000000) : ∃ n s : Int, (IntKind.u64.wrap a).tmod m = n ∧ wrap64 n = n ∧ wrap64 (1 + n) = s ∧ s = 1 + n ∧ 0 ≤ n ∧ n < m := by
  have h0 : 0 ≤ IntKind.u64.wrap a := by rw [IntKind.wrap_u64]; exact Int.emod_nonneg _ (by decide)
  have h1 := Int.emod_nonneg (IntKind.u64.wrap a) (b := m) (by omega)
  have h2 := Int.emod_lt_of_pos (IntKind.u64.wrap a) hm
  refine ⟨(IntKind.u64.wrap a) % m, 1 + (IntKind.u64.wrap a) % m, Int.tmod_eq_emod_of_nonneg h0, ?_, ?_, rfl, h1, h2⟩
  · generalize (IntKind.u64.wrap a) % m = n at *
    unfold wrap64; omega
  · generalize (IntKind.u64.wrap a) % m = n at *
    unfold wrap64; omega
/-! ### No pull turns the config -/
def Turn.cf : Turn → Cf
  | .on y => y.c
  | .stop y _ => y.c
theorem turn_c (d : Int → Int → Int) (x : Qm) (now : Int) : (turnQ d x now).cf = x.c := by
  unfold turnQ
  dsimp only
  by_cases h1 : headB x.N x.O = false
  · rw [if_pos h1]; rfl
  · rw [if_neg h1]
    by_cases h2 : (x.F (headS x.N x.O).toNat).c ≤ 0
    · rw [if_pos h2]; rfl
    · rw [if_neg h2]
      cases (x.F (headS x.N x.O).toNat).q with
      | nil =>
        dsimp only
        by_cases h3 : headF x.N x.O = true ∧ x.O ≠ []
        · rw [if_pos h3]; rfl
        · rw [if_neg h3]; rfl
      | cons s r =>
        dsimp only
        by_cases h3 : now < timeF (x.F (headS x.N x.O).toNat)
        · rw [if_pos h3]; rfl
        · rw [if_neg h3]; rfl
theorem run_c (d : Int → Int → Int) (now : Int) : ∀ (k : Nat) (x : Qm), (runQ d now k x).1.c = x.c
  | 0, _ => rfl
  | k + 1, x => by
    unfold runQ
    have h := turn_c d x now
    cases ht : turnQ d x now with
    | on y => rw [ht] at h; exact (run_c d now k y).trans h
    | stop y s => rw [ht] at h; exact h
theorem wake_c (now : Int) : ∀ (k : Nat) (x : Qm), (wakeN now k x).c = x.c
  | 0, _ => rfl
  | k + 1, x => by
    unfold wakeN
    split
    · rfl
    · split
      · exact (wake_c now k _).trans rfl
      · rfl
theorem deq_c {d : Int → Int → Int} {x y : Qm} {now : Int} {o : Option Sg} (h : deqQ d x now = (y, o)) : y.c = x.c := by
  have h1 : (deqQ d x now).1.c = x.c := (run_c d now _ _).trans (wake_c now 8 x)
  rw [h] at h1
  exact h1
theorem dog_opt (x : Qm) : dogV x = (dogQ x).getD 0 ∧ dogB x = (dogQ x).isSome := by
  unfold dogV dogB dogQ
  cases firstQ x with
  | none => exact ⟨rfl, rfl⟩
  | some i => exact ⟨rfl, rfl⟩
def zeroC : Cf := ⟨0, 0, 0, 0, 0, 0, false, 0, 0⟩
theorem zero_noC : ¬ zeroC.Ok := by decide
def plainV : Array Value := #[.int .i64 3000, .int .i64 15000, .int .i64 100, .int .i64 50, .int .u64 10000000000, .int .u64 0, .bool false, .int .i64 100000, .int .i64 1000]
theorem plain_any (w : World) : Calls Try.prog 28 #[] w fun e w' => e = .returned (.agg #[.int .i64 3000, .int .i64 15000, .int .i64 100, .int .i64 50, .int .u64 10000000000, .int .u64 0, .bool false, .int .i64 100000, .int .i64 1000]) ∧ Keep (fun _ => False) w w' := by
  have K := Lib.hid ((Keep.refl (fun _ => False) w).alloc (.cells #[.int .i64 3000, .int .i64 15000, .int .i64 100, .int .i64 50, .int .u64 10000000000, .int .u64 0, .bool false, .int .i64 100000, .int .i64 1000] 24))
  go_enter Try.func28, Try.ntmps28
  go_wp2
  refine bodyPost_ret (v := .agg #[.int .i64 3000, .int .i64 15000, .int .i64 100, .int .i64 50, .int .u64 10000000000, .int .u64 0, .bool false, .int .i64 100000, .int .i64 1000]) (by rw [results_cell1 rfl]; go_simp) rfl ?_
  exact ⟨rfl, K.out⟩

def sgA : Sg := ⟨1, 0, 100, 0, false⟩
def xA : Qm := enqQ (newQ plainC) sgA 5
theorem a_enq : enqV (newQ plainC) sgA 5 = 0 ∧ enqE sgA = 0 := ⟨by decide, by decide⟩
theorem a_deq : ∃ y, deqQ (dlyQ [] xA.c.r) xA 5 = (y, some sgA) ∧ lenQ y = 0 := ⟨_, by rfl, by rfl⟩
set_option maxRecDepth 100000 in
set_option maxHeartbeats 2000000 in
theorem awakef_any (w : World) : Calls Try.prog 16 #[] w fun e w' => e = .returned (.bool true) ∧ Keep (fun _ => False) w w' := by
  go_enter Try.func16, Try.ntmps16
  go_wp2_with fail
  refine (plain_any w).mono ?_
  rintro e w1 ⟨rfl, k1⟩
  go_wp2_with fail
  refine (((Room.begin w).kept k1).fqnew plainC plain_okC).mono ?_
  rintro e w2 ⟨g, own, rfl, hr2⟩
  have R2 := Lib.hid hr2
  clear k1 hr2
  go_wp2_with fail
  refine (R2.out.fqenq sgA 5 ⟨by decide, by decide⟩ ⟨by decide, by decide⟩ ⟨by decide, by decide⟩).mono ?_
  rintro e w3 ⟨rfl, own3, hr3⟩
  rw [a_enq.1, a_enq.2]
  have R3 : Hid (Room w w3 (fqT g own3 xA :: [])) := Lib.hid hr3
  clear hr3
  obtain ⟨y, hy, hl⟩ := a_deq
  have HY := Lib.hid hy; have HL := Lib.hid hl
  clear hy hl
  go_wp2_with fail
  refine (R3.out.fqdeq0 5 ⟨by decide, by decide⟩ HY.out).mono ?_
  rintro e w4 ⟨rfl, own4, hr4⟩
  have R4 := Lib.hid hr4
  clear hr4
  dsimp only [Option.getD, Option.isSome, sgA, Sg.v]
  go_wp2_with fail
  refine ((R4.out.box1 34 #[.int .i64 1, .int .u64 0, .int .i64 100, .int .u64 0, .bool false]).fqlen).mono ?_
  rintro e w5 ⟨rfl, hr5⟩
  rw [HL.out]
  have R5 := Lib.hid hr5
  clear hr5
  go_wp2
  go_ret
  exact ⟨rfl, Keep.of_below R5.out.bel⟩
end Go.Proofs.Ytnljjdfajmjdjaa
