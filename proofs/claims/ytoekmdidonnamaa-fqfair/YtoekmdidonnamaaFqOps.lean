/-
  Package fq: each call on a queue of a room. Conditions: the queue is one of the room's things.
-/
import Derived.Test.YtoekmdidonnamaaFqEnq
import Derived.Test.YtoekmdidonnamaaFqDeq
import Derived.Test.YtoekmdidonnamaaFqNew
import Derived.Test.YtoekmdidonnamaaFqDog
import Derived.Test.YtoekmdidonnamaaFqFlow
namespace Go.Proofs.Ytoekmdidonnamaa
open Go.RowKit
set_option maxRecDepth 100000
set_option linter.unusedSimpArgs false
set_option linter.unusedVariables false

/-- The watchdog. -/
def dogV (x : Qm) : Int := match firstQ x with | none => 0 | some i => timeF (x.F i)
def dogB (x : Qm) : Bool := (firstQ x).isSome
theorem dog_is {x : Qm} {ks : List Key} (hk : KsOf x ks) (hs : ks.Pairwise KLt) : (hdK ks).a = dogV x ∧ hdB ks = dogB x := by
  unfold dogV dogB
  cases ks with
  | nil =>
    have : firstQ x = none := by
      cases hf : firstQ x with
      | none => rfl
      | some b =>
        obtain ⟨hb, h1, h2⟩ := firstN_some hf
        have := (hk (keyF x b)).2 ⟨b, hb, h1, h2, rfl⟩
        cases this
    rw [this]
    exact ⟨rfl, rfl⟩
  | cons k r =>
    obtain ⟨i, hi, h1, h2, h3⟩ := (hk k).1 (List.mem_cons_self ..)
    cases hf : firstQ x with
    | none => exact absurd ⟨h1, h2⟩ (firstN_none hf i hi)
    | some b =>
      obtain ⟨hb, t1, t2⟩ := firstN_some hf
      have hle := (firstN_least hf i hi h1 h2).1
      have hm := (hk (keyF x b)).2 ⟨b, hb, t1, t2, rfl⟩
      refine ⟨?_, rfl⟩
      show k.a = timeF (x.F b)
      rcases List.mem_cons.1 hm with h | h
      · rw [← h]; rfl
      · have h4 := (List.pairwise_cons.1 hs).1 _ h
        have h5 : k.a = timeF (x.F i) := by rw [h3]; rfl
        unfold KLt keyF at h4
        dsimp only at h4
        rcases h4 with h4 | h4
        · omega
        · exact h4.1

section
variable {wB w : World} {L : List Thing} {g : Nat} {own : Nat → Prop} {x : Qm}
theorem fqT_of {w' : World} {tg : Nat} {S : Nat → Prop} {cs : Array Value} {v : Nat → Value} {ks : List Key} {y : Qm} (h : FQat w' g tg S cs v ks y) : (fqT g (FQown g S v) y).at_ w' := ⟨tg, S, cs, v, ks, h, fun _ => Iff.rfl⟩
/-- The first thing turns, with other blocks of its own. -/
theorem Room.fqstep {w' : World} {own' : Nat → Prop} {y : Qm} (h : Room wB w (fqT g own x :: L)) (ht : (fqT g own' y).at_ w') (hk : Keep own w w') (hn : ∀ k, own' k → own k ∨ w.heap.size ≤ k) : Room wB w' (fqT g own' y :: L) :=
  h.step0 (t' := fqT g own' y) ht hk hn
theorem Room.fqenq (h : Room wB w (fqT g own x :: L)) (s : Sg) (now : Int) (hn : U64 now) (hf : U64 s.f) (hst : U64 s.t) :
    Calls Try.prog 11 #[.pointer (some ⟨g, 0, none⟩), s.v, .int .u64 now] w fun e w' => e = .returned (.tuple #[.int .i64 (enqV x s now), .int .i64 (enqE s)]) ∧ ∃ own', Room wB w' (fqT g own' (enqQ x s now) :: L) := by
  obtain ⟨tg, S, cs, v, ks, hq, ho⟩ := h.get0
  refine (hq.enq s now hn hf hst).mono ?_
  rintro e w' ⟨rfl, cs', v', hq', hk, hv⟩
  refine ⟨rfl, _, h.fqstep (fqT_of hq') (hk.mono fun k e => (ho k).2 e) fun k hk' => ?_⟩
  rcases hk' with e | e | ⟨j, hj, e⟩
  · exact .inl ((ho k).2 (.inl e))
  · exact .inl ((ho k).2 (.inr (.inl e)))
  · exact (hv j k hj e).imp (fun e => (ho k).2 (.inr (.inr ⟨j, hj, e⟩))) id
/-- A pull: the rates lie apart from the queue, if there are any. -/
theorem Room.fqdeqr (h : Room wB w (fqT g own x :: L)) (now : Int) (hn : U64 now) (a : Option Addr) (cap : Nat) (rs : List Int) (hr : Rd .u64 w a rs) (hb : ∀ r ∈ rs, U64 r) (hap : rs ≠ [] → ∀ b off, a = some ⟨b, off, none⟩ → ¬ own b)
    {y : Qm} {o : Option Sg} (he : deqQ (dlyQ rs x.c.r) x now = (y, o)) :
    Calls Try.prog 14 #[.pointer (some ⟨g, 0, none⟩), .int .u64 now, .slice a rs.length cap] w fun e w' => e = .returned (.tuple #[(o.getD Sg.zero).v, .bool o.isSome]) ∧ ∃ own', Room wB w' (fqT g own' y :: L) := by
  obtain ⟨tg, S, cs, v, ks, hq, ho⟩ := h.get0
  refine (hq.deq now hn a cap rs hr hb (fun hne b off e e2 => hap hne b off e ((ho b).2 e2)) he).mono ?_
  rintro e w' ⟨rfl, S', cs', v', ks', hq', hk, hv⟩
  exact ⟨rfl, _, h.fqstep (fqT_of hq') (hk.mono fun k e => (ho k).2 e) fun k hk' => (hv k hk').imp (fun e => (ho k).2 e) id⟩
theorem Room.fqdeq (h : Room wB w (fqT g own x :: L)) (now : Int) (hn : U64 now) (a : Option Addr) (cap : Nat) (rs : List Int) (hr : Rd .u64 w a rs) (hb : ∀ r ∈ rs, U64 r) (hap : ∀ b off, a = some ⟨b, off, none⟩ → ¬ own b)
    {y : Qm} {o : Option Sg} (he : deqQ (dlyQ rs x.c.r) x now = (y, o)) :
    Calls Try.prog 14 #[.pointer (some ⟨g, 0, none⟩), .int .u64 now, .slice a rs.length cap] w fun e w' => e = .returned (.tuple #[(o.getD Sg.zero).v, .bool o.isSome]) ∧ ∃ own', Room wB w' (fqT g own' y :: L) :=
  h.fqdeqr now hn a cap rs hr hb (fun _ => hap) he
theorem Rd.nil (k : IntKind) (w : World) (a : Option Addr) : Rd k w a [] := fun i hi => absurd hi (Nat.not_lt_zero i)
/-- A pull without rates. -/
theorem Room.fqdeq0 (h : Room wB w (fqT g own x :: L)) (now : Int) (hn : U64 now) {y : Qm} {o : Option Sg} (he : deqQ (dlyQ [] x.c.r) x now = (y, o)) :
    Calls Try.prog 14 #[.pointer (some ⟨g, 0, none⟩), .int .u64 now, .slice none 0 0] w fun e w' => e = .returned (.tuple #[(o.getD Sg.zero).v, .bool o.isSome]) ∧ ∃ own', Room wB w' (fqT g own' y :: L) :=
  h.fqdeq now hn none 0 [] (Rd.nil _ _ _) (fun _ h => by cases h) (fun _ _ e => by cases e) he
theorem Room.fqlen (h : Room wB w (fqT g own x :: L)) : Calls Try.prog 18 #[.pointer (some ⟨g, 0, none⟩)] w fun e w' => e = .returned (.int .i64 (lenQ x : Int)) ∧ Room wB w' (fqT g own x :: L) := by
  obtain ⟨tg, S, cs, v, ks, hq, ho⟩ := h.get0
  exact (hq.w.len hq.ok.len).mono fun e w' ⟨he, hk⟩ => ⟨he, h.kept hk⟩
theorem Room.fqdog (h : Room wB w (fqT g own x :: L)) : Calls Try.prog 19 #[.pointer (some ⟨g, 0, none⟩)] w fun e w' => e = .returned (.tuple #[.int .u64 (dogV x), .bool (dogB x)]) ∧ Room wB w' (fqT g own x :: L) := by
  obtain ⟨tg, S, cs, v, ks, hq, ho⟩ := h.get0
  have hd := dog_is hq.ks hq.w.tree.sorted
  rw [← hd.1, ← hd.2]
  exact hq.w.dog.mono fun e w' ⟨he, hk⟩ => ⟨he, h.kept hk⟩
theorem Room.fqset (h : Room wB w (fqT g own x :: L)) (c : Cf) (hr : U64 c.r) (hh : U64 c.h) : Calls Try.prog 23 #[.pointer (some ⟨g, 0, none⟩), c.v] w fun e w' => e = .returned (.int .i64 (setV c)) ∧ Room wB w' (fqT g own (setX x c) :: L) := by
  obtain ⟨tg, S, cs, v, ks, hq, ho⟩ := h.get0
  refine (hq.setc c hr hh).mono ?_
  rintro e w' ⟨rfl, cs', hq', hk⟩
  refine ⟨rfl, h.fqstep ⟨tg, S, cs', v, ks, hq', ho⟩ (hk.mono fun k e => (ho k).2 (.inl e)) fun k e => .inl e⟩
theorem Room.fqflow_no (h : Room wB w (fqT g own x :: L)) (z : Int) (hz : ¬ ((0 ≤ z ∧ z < 8) ∧ x.T z.toNat = true)) : Calls Try.prog 13 #[.pointer (some ⟨g, 0, none⟩), .int .i64 z] w fun e w' => e = .returned (.tuple #[Fl.v (.slice none 0 0) Fl.zero, .bool false]) ∧ Room wB w' (fqT g own x :: L) := by
  obtain ⟨tg, S, cs, v, ks, hq, ho⟩ := h.get0
  exact (hq.w.flow_no z hz).mono fun e w' ⟨he, hk⟩ => ⟨he, h.kept hk⟩
/-- A flow that is there: its segments are a thing of the room, behind the queue. -/
theorem Room.fqflow_yes (h : Room wB w (fqT g own x :: L)) {i : Nat} (hi : i < 8) (ht : x.T i = true) : Calls Try.prog 13 #[.pointer (some ⟨g, 0, none⟩), .int .i64 (i : Int)] w fun e w' => ∃ V, e = .returned (.tuple #[Fl.v V (x.F i), .bool true]) ∧ Room wB w' (fqT g own x :: sgsT 34 V (x.F i).q :: L) := by
  obtain ⟨tg, S, cs, v, ks, hq, ho⟩ := h.get0
  refine (hq.flow_yes hi ht).mono ?_
  rintro e w' ⟨V, rfl, hV, hn, hk⟩
  exact ⟨V, rfl, (h.add (t := sgsT 34 V (x.F i).q) hV hk hn).perm (List.Perm.swap _ _ _)⟩
end

/-! ### New -/
set_option maxRecDepth 100000 in
set_option maxHeartbeats 2000000 in
theorem fqnew_any (c : Cf) (hr : U64 c.r) (hh : U64 c.h) (w : World) :
    Calls Try.prog 8 #[c.v] w fun e w' => (c.Ok → ∃ g own, e = .returned (.tuple #[.pointer (some ⟨g, 0, none⟩), .int .i64 0]) ∧ (fqT g own (newQ c)).at_ w' ∧ ∀ k, own k → w.heap.size ≤ k) ∧ (¬ c.Ok → e = .returned (.tuple #[.pointer none, .int .i64 13])) ∧ Keep (fun _ => False) w w' := by
  obtain ⟨w1, hw1⟩ : ∃ w1, w1 = (w.alloc (.cells #[.int .i64 c.q, .int .i64 c.f, .int .i64 c.l, .int .i64 c.w, .int .u64 c.h, .int .u64 c.r, .bool c.d, .int .i64 c.k, .int .i64 c.m] 24)) := ⟨_, rfl⟩
  have k1 : Keep (fun _ => False) w w1 := by rw [hw1]; exact (Keep.refl _ _).alloc _
  have hs1 : w1.heap.size = w.heap.size + 1 := by rw [hw1]; simp
  have hb1 : Whole w1 w.heap.size 24 #[.int .i64 c.q, .int .i64 c.f, .int .i64 c.l, .int .i64 c.w, .int .u64 c.h, .int .u64 c.r, .bool c.d, .int .i64 c.k, .int .i64 c.m] := by rw [hw1]; exact Whole.new _ _ _
  have hz := Whole.new w1 73 zq
  have kz : Keep (fun _ => False) w1 (w1.alloc (.cells zq 73)) := (Keep.refl _ _).alloc _
  have HZ := Lib.hid hz; have HK := Lib.hid (k1.trans kz); have HS1 := Lib.hid hs1
  have HB := Lib.hid (hb1.keep kz id)
  have HR := Lib.hid hr; have HH := Lib.hid hh
  obtain ⟨q, f, l, m, hz', r, d, k, s⟩ := c
  dsimp only [Cf.v] at *
  clear k1 hs1 hb1 hz kz hr hh
  go_enter Try.func8, Try.ntmps8
  go_upto_region 2 with fail
  rw [← hw1, show Try.zeroCells73 = zq from rfl]
  clear hw1
  rw [HS1.out] at HZ
  generalize hw2 : w1.alloc (.cells zq 73) = w2 at *
  clear hw2
  have b0 := HB.out.cell 0; have b1 := HB.out.cell 1; have b2 := HB.out.cell 2; have b3 := HB.out.cell 3; have b4 := HB.out.cell 4; have b5 := HB.out.cell 5; have b6 := HB.out.cell 6; have b7 := HB.out.cell 7; have b8 := HB.out.cell 8
  simp only [List.getElem?_toArray, List.getElem?_cons_zero, List.getElem?_cons_succ] at b0 b1 b2 b3 b4 b5 b6 b7 b8
  go_wp2_with fail
  clear b0 b1 b2 b3 b4 b5 b6 b7 b8
  refine (setn_any HZ.out rfl rfl ⟨q, f, l, m, hz', r, d, k, s⟩ HR.out HH.out).mono ?_
  rintro e w3 ⟨rfl, hok, hk⟩
  have hkk : Keep (fun _ => False) w w3 := HK.out.then hk (fun k e hlt => by omega)
  have HKK := Lib.hid hkk; have HOKS := Lib.hid hok
  have HSZ : Hid (w.heap.size + 1 < w2.heap.size) := Lib.hid HZ.out.lt
  clear hok hk hkk
  by_cases hc : (⟨q, f, l, m, hz', r, d, k, s⟩ : Cf).Ok
  · have HC := Lib.hid hc
    have e0 : setV ⟨q, f, l, m, hz', r, d, k, s⟩ = 0 := if_pos hc
    rw [e0]
    clear e0 hc
    go_wp2
    go_ret2
    refine ⟨fun _ => ?_, fun h => absurd HC.out h, HKK.out⟩
    obtain ⟨tg, S, h1, h2, h3⟩ := HOKS.out HC.out
    have hSg : ¬ S (w.heap.size + 1) := fun e => by have := h3 _ e; have := HSZ.out; omega
    refine ⟨_, _, rfl, fqT_of (S := S) (v := fun _ => .slice none 0 0) (⟨⟨h1, zq_new tg _, h2, fun i _ => SgAt.nil _, fun _ _ _ _ _ k e => (by cases e), fun _ _ k e => (by cases e), hSg⟩, new_ok HC.out, fun k => ⟨fun e => (by cases e), fun ⟨i, _, e, _⟩ => (by cases e)⟩⟩ : FQat w3 (w.heap.size + 1) tg S _ _ [] (newQ _)), fun k e => ?_⟩
    rcases e with e | e | ⟨_, _, e⟩
    · omega
    · have := h3 k e; have := HSZ.out; omega
    · cases e
  · have HC := Lib.hid hc
    have e0 : setV ⟨q, f, l, m, hz', r, d, k, s⟩ = 13 := if_neg hc
    rw [e0]
    clear e0 hc
    go_wp2
    go_ret2
    exact ⟨fun h => absurd h HC.out, fun _ => rfl, HKK.out⟩
theorem Room.fqnew {wB w : World} {L : List Thing} (h : Room wB w L) (c : Cf) (hc : c.Ok) :
    Calls Try.prog 8 #[c.v] w fun e w' => ∃ g own, e = .returned (.tuple #[.pointer (some ⟨g, 0, none⟩), .int .i64 0]) ∧ Room wB w' (fqT g own (newQ c) :: L) := by
  refine (fqnew_any c hc.hr ⟨hc.hh.1, by have := hc.hh.2; omega⟩ w).mono ?_
  rintro e w' ⟨h1, _, hk⟩
  obtain ⟨g, own, rfl, ht, hn⟩ := h1 hc
  exact ⟨g, own, rfl, h.add (t := fqT g own (newQ c)) ht hk hn⟩

/-! ### A nil queue -/
theorem fqenq_nil (s : Sg) (now : Int) (w : World) : Calls Try.prog 11 #[.pointer none, s.v, .int .u64 now] w fun e w' => e = .returned (.tuple #[.int .i64 0, .int .i64 2]) ∧ Keep (fun _ => False) w w' := by
  obtain ⟨z, f, l, t, a⟩ := s
  dsimp only [Sg.v]
  have K := Lib.hid ((Keep.refl (fun _ => False) w).alloc (.cells #[.int .i64 z, .int .u64 f, .int .i64 l, .int .u64 t, .bool a] 34))
  go_enter Try.func11, Try.ntmps11
  go_wp2
  go_ret2
  exact ⟨rfl, K.out⟩
theorem fqdeq_nil (now : Int) (w : World) : Calls Try.prog 14 #[.pointer none, .int .u64 now, .slice none 0 0] w fun e w' => e = .returned (.tuple #[Sg.zero.v, .bool false]) ∧ Keep (fun _ => False) w w' := by
  have K := Lib.hid ((Keep.refl (fun _ => False) w).alloc (.cells #[.int .i64 0, .int .u64 0, .int .i64 0, .int .u64 0, .bool false] 34))
  go_enter Try.func14, Try.ntmps14
  go_wp2
  go_step3
  go_wp2
  try rw [Exit.noGoto_ret]
  refine bodyPost_ret (v := .tuple #[.agg #[.int .i64 0, .int .u64 0, .int .i64 0, .int .u64 0, .bool false], .bool false]) (by rw [results_cell_tmp rfl]; go_simp) rfl ?_
  exact ⟨rfl, K.out⟩
theorem fqdog_nil (w : World) : Calls Try.prog 19 #[.pointer none] w fun e w' => e = .returned (.tuple #[.int .u64 0, .bool false]) ∧ w = w' := by
  go_enter Try.func19, Try.ntmps19
  go_wp2
  go_ret2
  exact ⟨rfl, rfl⟩
theorem fqlen_nil (w : World) : Calls Try.prog 18 #[.pointer none] w fun e w' => e = .returned (.int .i64 0) ∧ w = w' := by
  go_enter Try.func18, Try.ntmps18
  go_wp2
  go_ret
  exact ⟨rfl, rfl⟩
theorem fqset_nil (c : Cf) (w : World) : Calls Try.prog 23 #[.pointer none, c.v] w fun e w' => e = .returned (.int .i64 2) ∧ Keep (fun _ => False) w w' := by
  obtain ⟨q, f, l, m, hz', r, d, k, s⟩ := c
  dsimp only [Cf.v]
  have K := Lib.hid ((Keep.refl (fun _ => False) w).alloc (.cells #[.int .i64 q, .int .i64 f, .int .i64 l, .int .i64 m, .int .u64 hz', .int .u64 r, .bool d, .int .i64 k, .int .i64 s] 24))
  go_enter Try.func23, Try.ntmps23
  go_wp2
  go_ret
  exact ⟨rfl, K.out⟩
theorem fqflow_nil (z : Int) (w : World) : Calls Try.prog 13 #[.pointer none, .int .i64 z] w fun e w' => e = .returned (.tuple #[Fl.v (.slice none 0 0) Fl.zero, .bool false]) ∧ Keep (fun _ => False) w w' := by
  have K := Lib.hid ((Keep.refl (fun _ => False) w).alloc (.cells #[.int .i64 0, .int .i64 0, .int .i64 0, .int .u64 0, .int .u64 0, .slice none 0 0] 44))
  go_enter Try.func13, Try.ntmps13
  go_wp2
  refine bodyPost_ret (v := .tuple #[.agg #[.int .i64 0, .int .i64 0, .int .i64 0, .int .u64 0, .int .u64 0, .slice none 0 0], .bool false]) (by rw [results_cell_tmp rfl]; go_simp) rfl ?_
  exact ⟨rfl, K.out⟩
end Go.Proofs.Ytoekmdidonnamaa
