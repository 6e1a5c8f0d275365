/-
  Package fq: Dequeue: what departs, and what it leaves, as the document says. Conditions: the queue lies in memory, the rates lie elsewhere.
-/
import Derived.Test.YtnljjdfajmjdjaaJ19
import Derived.Test.YtnljjdfajmjdjaaJ26
import Derived.Test.YtnljjdfajmjdjaaJ27
import Derived.Test.YtnljjdfajmjdjaaJ28
namespace Go.Proofs.Ytnljjdfajmjdjaa
open Go.RowKit
set_option maxRecDepth 100000
set_option linter.unusedSimpArgs false

theorem Rd.keepS {k : IntKind} {S : Nat → Prop} {w w' : World} {a : Option Addr} {zs : List Int} (h : Rd k w a zs) (hk : Keep S w w') (hs : zs ≠ [] → ∀ b off, a = some ⟨b, off, none⟩ → ¬ S b) : Rd k w' a zs := fun i hi => by
  obtain ⟨b, off, e, hlt, hc⟩ := h i hi
  exact ⟨b, off, e, Nat.lt_of_lt_of_le hlt hk.size, (hk.cell (p := ⟨b, off + i, none⟩) hlt (hs (fun e => by rw [e] at hi; cases hi) b off e)).trans hc⟩
theorem keep5 (w : World) (h : Nat) (a b c d e : Value) : Keep (fun k => k = h) w (((((w.setCell ⟨h, 0, none⟩ a).setCell ⟨h, 1, none⟩ b).setCell ⟨h, 2, none⟩ c).setCell ⟨h, 3, none⟩ d).setCell ⟨h, 4, none⟩ e) :=
  (((((Keep.refl (fun k => k = h) w).setCell (.inl rfl) _).setCell (.inl rfl) _).setCell (.inl rfl) _).setCell (.inl rfl) _).setCell (.inl rfl) _
section
variable {w w' : World} {g tg : Nat} {S : Nat → Prop} {cs : Array Value} {v : Nat → Value} {ks : List Key} {x : Qm}
set_option maxRecDepth 100000 in
set_option maxHeartbeats 8000000 in
theorem FQat.deq (h : FQat w g tg S cs v ks x) (now : Int) (hn : U64 now) (a : Option Addr) (cap : Nat) (rs : List Int) (hr : Rd .u64 w a rs) (hb : ∀ r ∈ rs, U64 r) (hap : rs ≠ [] → ∀ b off, a = some ⟨b, off, none⟩ → ¬ FQown g S v b)
    {y : Qm} {o : Option Sg} (he : deqQ (dlyQ rs x.c.r) x now = (y, o)) :
    Calls Try.prog 21 #[.pointer (some ⟨g, 0, none⟩), .int .u64 now, .slice a rs.length cap] w fun e w' => e = .returned (.tuple #[(o.getD Sg.zero).v, .bool o.isSome]) ∧ ∃ S' cs' v' ks', FQat w' g tg S' cs' v' ks' y ∧ Keep (FQown g S v) w w' ∧ ∀ k, FQown g S' v' k → FQown g S v k ∨ w.heap.size ≤ k := by
  have HLT := Lib.hid (fun k (hk : FQown g S v k) => h.w.lt hk)
  have HC := Lib.hid h.ok.hc
  have HBD := Lib.hid (fun l z => dlyQ_bd hb h.ok.hc.hr l z)
  obtain ⟨d, hd⟩ : ∃ d, d = dlyQ rs x.c.r := ⟨_, rfl⟩
  rw [← hd] at he HBD
  have HDD := Lib.hid hd
  have HN := Lib.hid hn; have HB := Lib.hid hb; have HAP := Lib.hid hap; have HE := Lib.hid he; have HRR := Lib.hid hr
  obtain ⟨w0, hw0⟩ : ∃ w0, w0 = w.alloc (.cells #[.int .i64 0, .int .u64 0, .int .i64 0, .int .u64 0, .bool false] 34) := ⟨_, rfl⟩
  have k0 : Keep (fun _ => False) w w0 := by rw [hw0]; exact (Keep.refl _ _).alloc _
  have hbox : Whole w0 w.heap.size 34 #[.int .i64 0, .int .u64 0, .int .i64 0, .int .u64 0, .bool false] := by rw [hw0]; exact Whole.new _ _ _
  have hs0 : w0.heap.size = w.heap.size + 1 := by rw [hw0]; simp
  have H0 := Lib.hid (⟨h.w.kept k0, h.ok, h.ks⟩ : FQat w0 g tg S cs v ks x)
  have HBX := Lib.hid hbox; have HS0 := Lib.hid hs0; have K0 := Lib.hid k0
  clear h hn hb hap he hr hd k0 hbox hs0
  go_enter Try.func21, Try.ntmps21
  go_wp2_with fail
  go_step3
  go_wp2_with fail
  rw [← hw0]
  clear hw0
  refine (H0.out.wake now).mono ?_
  rintro e w1 ⟨⟨u, rfl⟩, S1, cs1, ks1, h1, k1, s1⟩
  have hbx1 := HBX.out.keep k1 (fun e => by have := HLT.out _ e; omega)
  have hpull : pullQ d (wakeN now 8 x) now = (y, o) := HE.out
  have hc1 : (wakeN now 8 x).c = x.c := (wake_alike now 8 x).c
  obtain ⟨x1, hx1⟩ : ∃ x1, x1 = wakeN now 8 x := ⟨_, rfl⟩
  rw [← hx1] at hpull hc1 h1
  have hs1 : ∀ k, FQown g S1 v k → FQown g S v k ∨ w0.heap.size ≤ k := fun k hk => by
    rcases hk with e | e | e
    · exact .inl (.inl e)
    · exact (s1 k e).imp (fun e => .inr (.inl e)) id
    · exact .inl (.inr (.inr e))
  have R1 := Lib.hid (⟨h1, hpull, hc1, k1, hs1, hbx1⟩ : FQat w1 g tg S1 cs1 v ks1 x1 ∧ pullQ d x1 now = (y, o) ∧ x1.c = x.c ∧ Keep (FQown g S v) w0 w1 ∧ (∀ k, FQown g S1 v k → FQown g S v k ∨ w0.heap.size ≤ k) ∧ Whole w1 w.heap.size 34 #[.int .i64 0, .int .u64 0, .int .i64 0, .int .u64 0, .bool false])
  clear hbx1 hpull hc1 h1 k1 s1 hs1 H0 HBX HE hx1
  go_wp2
  go_step3
  go_wp2
  go_loopg [8] (turnsQ x1 + 1) (fun j _ wr => ∃ S' cs' v' ks' xk, FQat wr g tg S' cs' v' ks' xk ∧ pullQ d xk now = (y, o) ∧ turnsQ xk + 1 ≤ j ∧ xk.c = x.c ∧ Keep (FQown g S v) w0 wr ∧ (∀ k, FQown g S' v' k → FQown g S v k ∨ w0.heap.size ≤ k) ∧ Whole wr w.heap.size 34 #[.int .i64 0, .int .u64 0, .int .i64 0, .int .u64 0, .bool false])
  case atStart =>
    obtain ⟨h1, h2, h3, h4, h5, h6⟩ := R1.out
    exact ⟨S1, cs1, v, ks1, x1, h1, h2, Nat.le_refl _, h3, h4, h5, h6⟩
  case round =>
    clear R1
    obtain ⟨S', cs', v', ks', xk, hq, hp, hj, hc, hk, hs, hbx⟩ := hrel
    have HQ := Lib.hid hq; have HP := Lib.hid hp; have HJ := Lib.hid hj; have HCC := Lib.hid hc; have HK := Lib.hid hk; have HS := Lib.hid hs; have HBX := Lib.hid hbx
    clear hq hp hj hc hk hs hbx
    go_wp2_with fail
    refine (head_any (some ⟨g, 49, none⟩) xk.N xk.O wr (HQ.out.w.ls HQ.out.ok.ls).is HQ.out.ok.ls.len1 HQ.out.ok.ls.len2).mono ?_
    rintro e w2 ⟨rfl, k2⟩
    have HQ2 : Hid (FQat w2 g tg S' cs' v' ks' xk) := Lib.hid ⟨HQ.out.w.kept k2, HQ.out.ok, HQ.out.ks⟩
    have HK2 := Lib.hid (HK.out.trans (k2.mono (fun _ h => h.elim)))
    have HBX2 := Lib.hid (HBX.out.keep k2 id)
    clear k2 HQ HK HBX
    have HTI := Lib.hid (turn_is d now HQ2.out.ok.ls)
    have HLS := HQ2.out.ok.ls
    cases HTI.out with
    | none hb ht =>
      have hs0 : headS xk.N xk.O = 0 := by
        obtain ⟨e1, e2⟩ := none_left hb
        rw [e1, e2]; rfl
      have hf0 : headF xk.N xk.O = false := by
        obtain ⟨e1, e2⟩ := none_left hb
        rw [e1, e2]; rfl
      rw [hb, hs0, hf0]
      have HPS := Lib.hid (pull_stop ht)
      have hb2 := HBX2.out
      have e0 := hb2.cell 0; have e1 := hb2.cell 1; have e2 := hb2.cell 2; have e3 := hb2.cell 3; have e4 := hb2.cell 4
      simp only [List.getElem?_toArray, List.getElem?_cons_zero, List.getElem?_cons_succ] at e0 e1 e2 e3 e4
      have g0 := hb2.free 0; have g1 := hb2.free 1; have g2 := hb2.free 2; have g3 := hb2.free 3; have g4 := hb2.free 4
      clear hb hs0 hf0 ht hb2 HTI HLS
      go_wp2
      try rw [Exit.noGoto_ret]
      refine bodyPost_ret (v := .tuple #[.agg #[.int .i64 0, .int .u64 0, .int .i64 0, .int .u64 0, .bool false], .bool false]) (by rw [results_cell_tmp rfl]; go_simp) rfl ?_
      have hk5 := keep5 w2 w.heap.size (.int .i64 0) (.int .u64 0) (.int .i64 0) (.int .u64 0) (.bool false)
      have hpe := HP.out
      rw [HPS.out] at hpe
      cases hpe
      refine ⟨rfl, S', cs', v', ks', ⟨HQ2.out.w.keep hk5 (fun k hk e => ?_), HQ2.out.ok, HQ2.out.ks⟩, ?_, ?_⟩
      · rcases HS.out k hk with h | h
        · have := HLT.out k h; omega
        · have := HS0.out; omega
      · exact (K0.out.mono (fun _ h => h.elim)).trans HK2.out |>.then hk5 (fun k e hlt => by omega)
      · intro k hk
        exact (HS.out k hk).imp id (fun h => by have := HS0.out; omega)
    | more i hb hi hs hc ht =>
      obtain ⟨i', _, hsi, _, htt, hpp, hfo⟩ := HQ2.out.ok.head hb
      obtain rfl : i' = i := by omega
      rw [hb, hs]
      have hi8 : (i' : Int) < 8 := by omega
      have hq2 := HQ2.out.w
      have c1 := hq2.credit hi
      have f1 := hq2.whole.free (9 + i' * 5 + 1)
      have hp3 : (xk.F i').p ≠ 3 := by omega
      have HKX := Lib.hid HQ2.out.ks
      have HOK := Lib.hid (turn_ok HQ2.out.ok HN.out (fun l z => (HBD.out l z).1) : (∀ y, turnQ d xk now = .on y → y.Ok) ∧ ∀ y s, turnQ d xk now = .stop y s → y.Ok)
      have HON := Lib.hid (fun y (h : turnQ d xk now = .on y) => (turn_less HLS (by have := HC.out.hq; rw [HCC.out]; omega) h : turnsQ y < turnsQ xk ∧ LsOk y.N y.O ∧ y.c = xk.c))
      have HPO := Lib.hid (fun y (h : turnQ d xk now = .on y) => pull_on HLS (by have := HC.out.hq; rw [HCC.out]; omega) h)
      have HTT := Lib.hid htt
      clear hsi htt
      obtain ⟨i, hie⟩ : ∃ i, i = i' := ⟨_, rfl⟩
      subst hie
      have cq : w2.cell? ⟨g, 0, none⟩ = some (.int .i64 xk.c.q) := hq2.cf (j := 0) (by omega)
      have hwc : IntKind.i64.wrap ((xk.F i).c + xk.c.q) = (xk.F i).c + xk.c.q := by
        have := hfo.hc; have := HC.out.hq
        rw [HCC.out] at *
        rw [IntKind.wrap_i64]; omega
      clear hfo hpp hq2 HTI
      have HT := Lib.hid ht; have HBB := Lib.hid hb; have HSI := Lib.hid hs; have HI := Lib.hid hi; have HP3 := Lib.hid hp3
      clear ht hi hs hb hp3
      go_wp2
      go_region
      have hk3 : Keep (fun k => k = g) w2 (w2.setCell ⟨g, 9 + i * 5 + 1, none⟩ (.int .i64 ((xk.F i).c + xk.c.q))).drew := ((Keep.refl (fun k => k = g) w2).setCell (p := ⟨g, 9 + i * 5 + 1, none⟩) (.inl rfl) _).drew
      have hq3 := (HQ2.out.w.set HI.out (k := 1) (by omega) (u := .int .i64 ((xk.F i).c + xk.c.q)) (f := { xk.F i with c := (xk.F i).c + xk.c.q }) (b := xk.T i) rfl (fun j hj hne => by
        match j, hj with
        | 0, _ => rfl
        | 1, _ => exact absurd rfl hne
        | 2, _ => rfl
        | 3, _ => rfl
        | 4, _ => rfl) rfl).kept (Keep.refl _ _).drew
      rw [upF_self] at hq3
      have hbx3 := HBX2.out.keep hk3 (fun e => by have := HLT.out g (.inl rfl); omega)
      have HK3 := Lib.hid (HK2.out.then hk3 (fun k e _ => .inl e))
      obtain ⟨w3, hw3⟩ : ∃ w3, w3 = (w2.setCell ⟨g, 9 + i * 5 + 1, none⟩ (.int .i64 ((xk.F i).c + xk.c.q))).drew := ⟨_, rfl⟩
      rw [← hw3] at hq3 hbx3 HK3 ⊢
      have HQ3 := Lib.hid hq3; have HBX3 := Lib.hid hbx3
      clear hw3 hk3 hq3 hbx3 c1 f1 cq hwc HQ2 HBX2 HK2
      go_wp2_with fail
      refine (lpback_any g 49 _ xk.N xk.O w3 (HQ3.out.ls HLS)).mono ?_
      rintro e w4 ⟨rfl, h4⟩
      obtain ⟨cs4, hq4, hk4⟩ := HQ3.out.lists h4
      have HQ4 := Lib.hid (hq4.seen (seen_back (x := { xk with F := upF xk.F i { xk.F i with c := (xk.F i).c + xk.c.q } }) HLS HBB.out HSI.out))
      have HKS : Hid (KsOf (putQ { xk with F := upF xk.F i { xk.F i with c := (xk.F i).c + xk.c.q } } i 2) ks') := Lib.hid (ks_at HKX.out (i := i) (fun j hj => by rw [putQ_ne _ 2 hj]; exact upF_ne _ _ hj) (fun _ _ => rfl) HP3.out (by rw [putQ_F]; dsimp only; decide))
      have HBX4 := Lib.hid (HBX3.out.keep hk4 (fun e => by have := HLT.out g (.inl rfl); omega))
      have HK4 := Lib.hid (HK3.out.then hk4 (fun k e _ => .inl e))
      clear h4 hq4 hk4 HQ3 HBX3 HK3
      have HS4 := HS
      go_wp2
      go_roundg (gk - 1)
      case measure => have := HJ.out; omega
      case rel =>
        have hon := HON.out _ HT.out
        exact ⟨_, _, _, _, _, ⟨HQ4.out, HOK.out.1 _ HT.out, HKS.out⟩, (HPO.out _ HT.out).symm.trans HP.out, by have := HJ.out; omega, hon.2.2.trans HCC.out, HK4.out, HS4.out, HBX4.out⟩
    | back i hb hi hs hc hq hf ht =>
      obtain ⟨i', _, hsi, _, htt, hpp, hfo⟩ := HQ2.out.ok.head hb
      obtain rfl : i' = i := by omega
      rw [hb, hs]
      have hi8 : (i' : Int) < 8 := by omega
      have hq2 := HQ2.out.w
      have c1 := hq2.credit hi
      have f1 := hq2.whole.free (9 + i' * 5 + 1)
      have hp3 : (xk.F i').p ≠ 3 := by omega
      have HKX := Lib.hid HQ2.out.ks
      have HOK := Lib.hid (turn_ok HQ2.out.ok HN.out (fun l z => (HBD.out l z).1) : (∀ y, turnQ d xk now = .on y → y.Ok) ∧ ∀ y s, turnQ d xk now = .stop y s → y.Ok)
      have HON := Lib.hid (fun y (h : turnQ d xk now = .on y) => (turn_less HLS (by have := HC.out.hq; rw [HCC.out]; omega) h : turnsQ y < turnsQ xk ∧ LsOk y.N y.O ∧ y.c = xk.c))
      have HPO := Lib.hid (fun y (h : turnQ d xk now = .on y) => pull_on HLS (by have := HC.out.hq; rw [HCC.out]; omega) h)
      have HTT := Lib.hid htt
      clear hsi htt
      obtain ⟨i, hie⟩ : ∃ i, i = i' := ⟨_, rfl⟩
      subst hie
      rw [hf.1]
      obtain ⟨sa, scap, hsv, _⟩ := (hq2.q i hi).shape
      have c4 := hq2.seg hi
      rw [hsv, hq] at c4
      simp only [List.length_nil] at c4
      clear hfo hpp hq2 HTI f1
      have HT := Lib.hid ht; have HBB := Lib.hid hb; have HSI := Lib.hid hs; have HI := Lib.hid hi; have HP3 := Lib.hid hp3
      have HO : Hid (true = !xk.O.isEmpty) := Lib.hid (by have := hf.2; cases hO : xk.O with | nil => exact absurd hO this | cons z l => rfl)
      clear ht hi hs hb hp3 hf hsv hq
      go_wp2_with fail
      refine (HQ2.out.w.anyOld HLS HO.out).mono ?_
      rintro e w3 ⟨rfl, k3⟩
      have HQ3 := Lib.hid (HQ2.out.w.kept k3)
      have HBX3 := Lib.hid (HBX2.out.keep k3 id)
      have HK3 := Lib.hid (HK2.out.trans (k3.mono (fun _ h => h.elim)))
      clear k3 c1 c4 HQ2 HBX2 HK2
      go_wp2_with fail
      refine (lpback_any g 49 _ xk.N xk.O w3 (HQ3.out.ls HLS)).mono ?_
      rintro e w4 ⟨rfl, h4⟩
      obtain ⟨cs4, hq4, hk4⟩ := HQ3.out.lists h4
      have HQ4 := Lib.hid (hq4.seen (seen_back (x := xk) HLS HBB.out HSI.out))
      have HKS : Hid (KsOf (putQ xk i 2) ks') := Lib.hid (ks_at HKX.out (i := i) (fun j hj => putQ_ne _ 2 hj) (fun _ _ => rfl) HP3.out (by rw [putQ_F]; dsimp only; decide))
      have HBX4 := Lib.hid (HBX3.out.keep hk4 (fun e => by have := HLT.out g (.inl rfl); omega))
      have HK4 := Lib.hid (HK3.out.then hk4 (fun k e _ => .inl e))
      have HS4 := HS
      clear h4 hq4 hk4 HQ3 HBX3 HK3
      go_wp2
      go_roundg (gk - 1)
      case measure => have := HJ.out; omega
      case rel =>
        have hon := HON.out _ HT.out
        exact ⟨_, _, _, _, _, ⟨HQ4.out, HOK.out.1 _ HT.out, HKS.out⟩, (HPO.out _ HT.out).symm.trans HP.out, by have := HJ.out; omega, hon.2.2.trans HCC.out, HK4.out, HS4.out, HBX4.out⟩
    | gone i hb hi hs hc hq hf ht =>
      obtain ⟨i', _, hsi, _, htt, hpp, hfo⟩ := HQ2.out.ok.head hb
      obtain rfl : i' = i := by omega
      rw [hb, hs]
      have hi8 : (i' : Int) < 8 := by omega
      have hq2 := HQ2.out.w
      have c1 := hq2.credit hi
      have f1 := hq2.whole.free (9 + i' * 5 + 1)
      have hp3 : (xk.F i').p ≠ 3 := by omega
      have HKX := Lib.hid HQ2.out.ks
      have HOK := Lib.hid (turn_ok HQ2.out.ok HN.out (fun l z => (HBD.out l z).1) : (∀ y, turnQ d xk now = .on y → y.Ok) ∧ ∀ y s, turnQ d xk now = .stop y s → y.Ok)
      have HON := Lib.hid (fun y (h : turnQ d xk now = .on y) => (turn_less HLS (by have := HC.out.hq; rw [HCC.out]; omega) h : turnsQ y < turnsQ xk ∧ LsOk y.N y.O ∧ y.c = xk.c))
      have HPO := Lib.hid (fun y (h : turnQ d xk now = .on y) => pull_on HLS (by have := HC.out.hq; rw [HCC.out]; omega) h)
      have HTT := Lib.hid htt
      clear hsi htt
      obtain ⟨i, hie⟩ : ∃ i, i = i' := ⟨_, rfl⟩
      subst hie
      obtain ⟨sa, scap, hsv, _⟩ := (hq2.q i hi).shape
      have c4 := hq2.seg hi
      rw [hsv, hq] at c4
      simp only [List.length_nil] at c4
      clear hfo hpp hq2 HTI f1
      have HT := Lib.hid ht; have HBB := Lib.hid hb; have HSI := Lib.hid hs; have HI := Lib.hid hi; have HP3 := Lib.hid hp3; have HF := Lib.hid hf; have HV4 := Lib.hid (hsv.trans (by rw [hq]; rfl : Value.slice sa (xk.F i).q.length scap = .slice sa 0 scap))
      clear ht hi hs hb hp3 hf hsv hq
      cases hfr : headF xk.N xk.O with
      | true =>
        have HO : Hid (false = !xk.O.isEmpty) := Lib.hid (by
          have := HF.out
          cases hO : xk.O with
          | nil => rfl
          | cons z l => exact absurd ⟨hfr, by rw [hO]; simp⟩ this)
        clear hfr
        go_wp2_with fail
        refine (HQ2.out.w.anyOld HLS HO.out).mono ?_
        rintro e w3 ⟨rfl, k3⟩
        have HQ3 := Lib.hid (HQ2.out.w.kept k3)
        have HBX3 := Lib.hid (HBX2.out.keep k3 id)
        have HK3 := Lib.hid (HK2.out.trans (k3.mono (fun _ h => h.elim)))
        have c43 : w3.cell? ⟨g, 9 + i * 5 + 4, none⟩ = some (.slice sa 0 scap) := by rw [HQ3.out.seg HI.out, HV4.out]
        have c33 := HQ3.out.since HI.out
        have f33 := HQ3.out.whole.free (9 + i * 5 + 3)
        clear k3 c1 c4 HQ2 HBX2 HK2
        go_wp2_with fail
        refine (lpdrop_any g 49 _ xk.N xk.O _ ((HQ3.out.set HI.out (k := 3) (by omega) (u := .int .u64 now) (f := { xk.F i with u := now }) (b := xk.T i) rfl (fun j hj hne => by
          match j, hj with
          | 0, _ => rfl
          | 1, _ => rfl
          | 2, _ => rfl
          | 3, _ => exact absurd rfl hne
          | 4, _ => rfl) rfl).ls HLS)).mono ?_
        rintro e w4 ⟨rfl, h4⟩
        have hk3 : Keep (fun k => k = g) w3 (w3.setCell ⟨g, 9 + i * 5 + 3, none⟩ (.int .u64 now)) := (Keep.refl (fun k => k = g) w3).setCell (p := ⟨g, 9 + i * 5 + 3, none⟩) (.inl rfl) _
        have hq3 := (HQ3.out.set HI.out (k := 3) (by omega) (u := .int .u64 now) (f := { xk.F i with u := now }) (b := xk.T i) rfl (fun j hj hne => by
          match j, hj with
          | 0, _ => rfl
          | 1, _ => rfl
          | 2, _ => rfl
          | 3, _ => exact absurd rfl hne
          | 4, _ => rfl) rfl)
        obtain ⟨cs4, hq4, hk4⟩ := hq3.lists h4
        dsimp only at hq4
        rw [upF_self] at hq4
        have HQ4 := Lib.hid (hq4.seen (seen_gone (x := xk) HLS HBB.out HSI.out now))
        have HKS : Hid (KsOf ({ putQ xk i 0 with F := upF (putQ xk i 0).F i { (putQ xk i 0).F i with u := now } } : Qm) ks') := Lib.hid (ks_at HKX.out (i := i) (fun j hj => (upF_ne _ _ hj).trans (putQ_ne _ 0 hj)) (fun _ _ => rfl) HP3.out (by dsimp only; rw [upF_at, putQ_F]; dsimp only; decide))
        have HBX4 := Lib.hid ((HBX3.out.keep hk3 (fun e => by have := HLT.out g (.inl rfl); omega)).keep hk4 (fun e => by have := HLT.out g (.inl rfl); omega))
        have HK4 := Lib.hid ((HK3.out.then hk3 (fun k e _ => .inl e)).then hk4 (fun k e _ => .inl e))
        have HS4 := HS
        clear h4 hq4 hk4 hk3 hq3 HQ3 HBX3 HK3
        go_wp2
        go_roundg (gk - 1)
        case measure => have := HJ.out; omega
        case rel =>
          have hon := HON.out _ HT.out
          exact ⟨_, _, _, _, _, ⟨HQ4.out, HOK.out.1 _ HT.out, HKS.out⟩, (HPO.out _ HT.out).symm.trans HP.out, by have := HJ.out; omega, hon.2.2.trans HCC.out, HK4.out, HS4.out, HBX4.out⟩
      | false =>
        clear hfr
        obtain ⟨w3, hw3⟩ : ∃ w3, w3 = w2 := ⟨_, rfl⟩
        rw [← hw3] at c1 c4 HQ2 HBX2 HK2 ⊢
        clear hw3
        have HQ3 := Lib.hid HQ2.out.w; have HBX3 := HBX2; have HK3 := HK2
        have c33 := HQ3.out.since HI.out
        have f33 := HQ3.out.whole.free (9 + i * 5 + 3)
        clear HQ2 HBX2 HK2
        go_wp2_with fail
        clear c1 c4
        refine (lpdrop_any g 49 _ xk.N xk.O _ ((HQ3.out.set HI.out (k := 3) (by omega) (u := .int .u64 now) (f := { xk.F i with u := now }) (b := xk.T i) rfl (fun j hj hne => by
          match j, hj with
          | 0, _ => rfl
          | 1, _ => rfl
          | 2, _ => rfl
          | 3, _ => exact absurd rfl hne
          | 4, _ => rfl) rfl).ls HLS)).mono ?_
        rintro e w4 ⟨rfl, h4⟩
        have hk3 : Keep (fun k => k = g) w3 (w3.setCell ⟨g, 9 + i * 5 + 3, none⟩ (.int .u64 now)) := (Keep.refl (fun k => k = g) w3).setCell (p := ⟨g, 9 + i * 5 + 3, none⟩) (.inl rfl) _
        have hq3 := (HQ3.out.set HI.out (k := 3) (by omega) (u := .int .u64 now) (f := { xk.F i with u := now }) (b := xk.T i) rfl (fun j hj hne => by
          match j, hj with
          | 0, _ => rfl
          | 1, _ => rfl
          | 2, _ => rfl
          | 3, _ => exact absurd rfl hne
          | 4, _ => rfl) rfl)
        obtain ⟨cs4, hq4, hk4⟩ := hq3.lists h4
        dsimp only at hq4
        rw [upF_self] at hq4
        have HQ4 := Lib.hid (hq4.seen (seen_gone (x := xk) HLS HBB.out HSI.out now))
        have HKS : Hid (KsOf ({ putQ xk i 0 with F := upF (putQ xk i 0).F i { (putQ xk i 0).F i with u := now } } : Qm) ks') := Lib.hid (ks_at HKX.out (i := i) (fun j hj => (upF_ne _ _ hj).trans (putQ_ne _ 0 hj)) (fun _ _ => rfl) HP3.out (by dsimp only; rw [upF_at, putQ_F]; dsimp only; decide))
        have HBX4 := Lib.hid ((HBX3.out.keep hk3 (fun e => by have := HLT.out g (.inl rfl); omega)).keep hk4 (fun e => by have := HLT.out g (.inl rfl); omega))
        have HK4 := Lib.hid ((HK3.out.then hk3 (fun k e _ => .inl e)).then hk4 (fun k e _ => .inl e))
        have HS4 := HS
        clear h4 hq4 hk4 hk3 hq3 HQ3 HBX3 HK3
        go_wp2
        go_roundg (gk - 1)
        case measure => have := HJ.out; omega
        case rel =>
          have hon := HON.out _ HT.out
          exact ⟨_, _, _, _, _, ⟨HQ4.out, HOK.out.1 _ HT.out, HKS.out⟩, (HPO.out _ HT.out).symm.trans HP.out, by have := HJ.out; omega, hon.2.2.trans HCC.out, HK4.out, HS4.out, HBX4.out⟩
    | wait i hb hi hs hc s r hq hw ht =>
      obtain ⟨i', _, hsi, _, htt, hpp, hfo⟩ := HQ2.out.ok.head hb
      obtain rfl : i' = i := by omega
      rw [hb, hs]
      have hi8 : (i' : Int) < 8 := by omega
      have hq2 := HQ2.out.w
      have c1 := hq2.credit hi
      have f1 := hq2.whole.free (9 + i' * 5 + 1)
      have hp3 : (xk.F i').p ≠ 3 := by omega
      have HKX := Lib.hid HQ2.out.ks
      have HOK := Lib.hid (turn_ok HQ2.out.ok HN.out (fun l z => (HBD.out l z).1) : (∀ y, turnQ d xk now = .on y → y.Ok) ∧ ∀ y s, turnQ d xk now = .stop y s → y.Ok)
      have HON := Lib.hid (fun y (h : turnQ d xk now = .on y) => (turn_less HLS (by have := HC.out.hq; rw [HCC.out]; omega) h : turnsQ y < turnsQ xk ∧ LsOk y.N y.O ∧ y.c = xk.c))
      have HPO := Lib.hid (fun y (h : turnQ d xk now = .on y) => pull_on HLS (by have := HC.out.hq; rw [HCC.out]; omega) h)
      have HTT := Lib.hid htt
      clear hsi htt
      obtain ⟨i, hie⟩ : ∃ i, i = i' := ⟨_, rfl⟩
      subst hie
      obtain ⟨sb, so, scap, hsv, _⟩ := (show SgAt w2 (v' i) (s :: r) by rw [← hq]; exact hq2.q i hi).head
      have c4 := hq2.seg hi
      rw [hsv] at c4
      have hz : ((((r.length + 1 : Nat) : Int)) == 0) = false := by simp; omega
      generalize r.length + 1 = rl at *
      have HN0 := Lib.hid hfo.hn.1
      obtain ⟨t, htt⟩ : ∃ t, timeF (xk.F i) = t := ⟨_, rfl⟩
      rw [htt] at hw
      have HTM := Lib.hid htt
      clear hfo hpp hq2 HTI f1 htt
      have HT := Lib.hid ht; have HBB := Lib.hid hb; have HSI := Lib.hid hs; have HI := Lib.hid hi; have HP3 := Lib.hid hp3
      clear ht hi hs hb hp3 hsv hq
      go_wp2_with fail
      refine (HQ2.out.w.time HI.out HN0.out HTM.out).mono ?_
      rintro e w3 ⟨rfl, n3, hw3⟩
      have k3 : Keep (fun _ => False) w2 w3 := by rw [hw3]; exact (Keep.refl _ _).drewN n3
      have HQ3 := Lib.hid (HQ2.out.w.kept k3)
      have HBX3 := Lib.hid (HBX2.out.keep k3 id)
      have HK3 := Lib.hid (HK2.out.trans (k3.mono (fun _ h => h.elim)))
      clear k3 hw3 c1 c4 hz HQ2 HBX2 HK2
      go_wp2_with fail
      refine (lpdrop_any g 49 _ xk.N xk.O w3 (HQ3.out.ls HLS)).mono ?_
      rintro e w4 ⟨rfl, h4⟩
      obtain ⟨cs4, hq4, hk4⟩ := HQ3.out.lists h4
      have HQ5 := Lib.hid hq4
      have HBX5 := Lib.hid (HBX3.out.keep hk4 (fun e => by have := HLT.out g (.inl rfl); omega))
      have HK5 := Lib.hid (HK3.out.then hk4 (fun k e _ => .inl e))
      clear h4 hq4 hk4 HQ3 HBX3 HK3
      go_wp2_with fail
      have cw : w4.drew.cell? ⟨g, 67, none⟩ = some (.pointer (some ⟨tg, 0, none⟩)) := HQ5.out.wait
      have K0' := Lib.hid (Keep.refl (fun _ => False) w4).drew
      refine wp_region_sch (fun W => W.cell? ⟨g, 67, none⟩ = some (.pointer (some ⟨tg, 0, none⟩))) [(true, 0), (true, 1), (true, 2), (true, 3), (true, 4), (true, 5), (false, 6), (false, 7)] (by kernel_rfl) (by kernel_rfl) (by kernel_rfl) (by kernel_rfl) cw ?_
      generalize w4.drew = w5 at *
      (repeat (refine wpSch_yes (v := ?_) rfl (fun _ _ _ h => h) (by rfl) ?_ ?_; rotate_left; (next => (intro w hSw; (try dsimp only at hSw); (have hS1 := hSw); go_simp; (try with_reducible rfl))); (try simp only [Act.put, List.setIfInBounds_toArray, List.set_cons_zero, List.set_cons_succ])))
      refine wpSch_call rfl (by rfl) (fun K hK => ?_); go_simp
      refine ((HQ5.out.kept K0'.out).key HI.out HN0.out HTM.out).mono ?_
      rintro e w6 ⟨rfl, k6⟩
      have K6 := Lib.hid (K0'.out.trans k6); clear k6
      refine hK.out _ _ (HQ5.out.kept K6.out).wait (fun hHeld => ?_)
      clear hK K hHeld
      (try simp only [Act.put, List.setIfInBounds_toArray, List.set_cons_zero, List.set_cons_succ])
      refine wpSch_call rfl (by rfl) (fun K hK => ?_); go_simp
      refine (tins_any ⟨t, (i : Int)⟩ w6 (HQ5.out.kept K6.out).tree).mono ?_
      rintro e w7 ⟨rfl, S7, ht7, st7⟩
      have hkey : keyF xk i = ⟨t, (i : Int)⟩ := by unfold keyF; rw [HTM.out]
      have hrm := ks_room HKX.out HQ5.out.tree.sorted HI.out HP3.out
      rw [hkey] at hrm
      rw [hrm.2] at ht7
      rw [hrm.1]
      have hq7 := (HQ5.out.kept K6.out).trees ht7 st7
      have HW7 := Lib.hid hq7.wait
      have HQ4 := Lib.hid (hq7.seen (seen_drop (x := xk) HLS HBB.out HSI.out (p := 3) (by decide) (by decide)))
      have HKS : Hid (KsOf (putQ xk i 3) (insK ⟨t, (i : Int)⟩ ks')) := Lib.hid (by rw [← hkey]; exact ks_ins HKX.out HI.out (fun j hj => putQ_ne _ 3 hj) (fun _ => rfl) HTT.out HP3.out (by rw [putQ_F]) (keyF_put _ _ _ _))
      have HBX4 := Lib.hid ((HBX5.out.keep K6.out id).keep st7.1 (fun h => by rcases HS.out _ (.inr (.inl h)) with h | h; have := HLT.out _ h; omega; have := HS0.out; omega))
      have HK4 : Hid (Keep (FQown g S v) w0 w7) := Lib.hid ((HK5.out.trans (K6.out.mono (fun _ h => h.elim))).then st7.1 (fun k e hlt => (HS.out k (.inr (.inl e))).elim id (fun h => by omega)))
      have HS4 : Hid (∀ k, FQown g S7 v' k → FQown g S v k ∨ w0.heap.size ≤ k) := Lib.hid (fun k hk => by
        rcases hk with h | h | h
        · exact HS.out k (.inl h)
        · rcases st7.2 k h with h | h
          · exact HS.out k (.inr (.inl h))
          · have h1 := HK5.out.size; have h2 := K6.out.size; exact .inr (by omega)
        · exact HS.out k (.inr (.inr h)))
      clear ht7 st7 hq7 hrm hkey
      refine hK.out _ _ HW7.out (fun hHeld => ?_)
      clear hK K hHeld HQ5 HBX5 HK5 K0' K6 cw HW7
      (try simp only [Act.put, List.setIfInBounds_toArray, List.set_cons_zero, List.set_cons_succ])
      refine wpSch_nil ?_
      go_wp2
      go_roundg (gk - 1)
      case measure => have := HJ.out; omega
      case rel =>
        have hon := HON.out _ HT.out
        exact ⟨_, _, _, _, _, ⟨HQ4.out, HOK.out.1 _ HT.out, HKS.out⟩, (HPO.out _ HT.out).symm.trans HP.out, by have := HJ.out; omega, hon.2.2.trans HCC.out, HK4.out, HS4.out, HBX4.out⟩
    | dep i hb hi hs hc s r hq hw ht =>
      obtain ⟨i', _, hsi, _, htt, hpp, hfo⟩ := HQ2.out.ok.head hb
      obtain rfl : i' = i := by omega
      rw [hb, hs]
      have hi8 : (i' : Int) < 8 := by omega
      have hq2 := HQ2.out.w
      have c1 := hq2.credit hi
      have f1 := hq2.whole.free (9 + i' * 5 + 1)
      have hp3 : (xk.F i').p ≠ 3 := by omega
      have HKX := Lib.hid HQ2.out.ks
      have HOK := Lib.hid (turn_ok HQ2.out.ok HN.out (fun l z => (HBD.out l z).1) : (∀ y, turnQ d xk now = .on y → y.Ok) ∧ ∀ y s, turnQ d xk now = .stop y s → y.Ok)
      have HON := Lib.hid (fun y (h : turnQ d xk now = .on y) => (turn_less HLS (by have := HC.out.hq; rw [HCC.out]; omega) h : turnsQ y < turnsQ xk ∧ LsOk y.N y.O ∧ y.c = xk.c))
      have HPO := Lib.hid (fun y (h : turnQ d xk now = .on y) => pull_on HLS (by have := HC.out.hq; rw [HCC.out]; omega) h)
      have HTT := Lib.hid htt
      clear hsi htt
      obtain ⟨i, hie⟩ : ∃ i, i = i' := ⟨_, rfl⟩
      subst hie
      obtain ⟨sb, so, scap, hsv, _⟩ := (show SgAt w2 (v' i) (s :: r) by rw [← hq]; exact hq2.q i hi).head
      have c4 := hq2.seg hi
      rw [hsv] at c4
      have hz : ((((r.length + 1 : Nat) : Int)) == 0) = false := by simp; omega
      generalize r.length + 1 = rl at *
      have HN0 := Lib.hid hfo.hn.1
      have HFC := Lib.hid hfo.hc
      have HSL := Lib.hid (hfo.hq s (by rw [hq]; exact List.mem_cons_self ..)).hl
      obtain ⟨t, htt⟩ : ∃ t, timeF (xk.F i) = t := ⟨_, rfl⟩
      rw [htt] at hw
      have HTM := Lib.hid htt
      clear hfo hpp hq2 HTI f1 htt
      have HT := Lib.hid ht; have HBB := Lib.hid hb; have HSI := Lib.hid hs; have HI := Lib.hid hi; have HP3 := Lib.hid hp3; have HQQ := Lib.hid hq
      clear ht hi hs hb hp3 hsv hq
      go_wp2_with fail
      refine (HQ2.out.w.time HI.out HN0.out HTM.out).mono ?_
      rintro e w3 ⟨rfl, n3, hw3⟩
      have k3 : Keep (fun _ => False) w2 w3 := by rw [hw3]; exact (Keep.refl _ _).drewN n3
      have HQ3 := Lib.hid (HQ2.out.w.kept k3)
      have HBX3 := Lib.hid (HBX2.out.keep k3 id)
      have HK3 := Lib.hid (HK2.out.trans (k3.mono (fun _ h => h.elim)))
      have HR3 : Hid (Rd .u64 w3 a rs) := Lib.hid (HRR.out.keepS ((K0.out.mono (fun _ h => h.elim)).trans HK3.out) HAP.out)
      clear k3 hw3 c1 c4 hz HQ2 HBX2 HK2
      go_wp2_with fail
      obtain ⟨rt, hrt⟩ : ∃ rt, lesV (rateAt rs i) xk.c.r = rt := ⟨_, rfl⟩
      refine (HQ3.out.rate a cap rs HR3.out HB.out (by rw [HCC.out]; exact HC.out.hr) hrt).mono ?_
      rintro e w4 ⟨rfl, rfl⟩
      have HRT : Hid (U64 rt) := Lib.hid (by
        have h1 := rateAt_fit HB.out i
        have h2 := HC.out.hr
        rw [← HCC.out] at h2
        have := lesV_bd h1.1 h1.2 h2.1 h2.2
        rw [hrt] at this
        exact ⟨by omega, this.2⟩)
      have HDL : Hid (d s.l (i : Int) = delV s.l rt) := Lib.hid (by rw [HDD.out, ← hrt, HCC.out]; rfl)
      clear hrt HR3
      go_wp2_with fail
      refine (HQ3.out.depart HI.out HQQ.out now rt _ HFC.out HSL.out HN.out HRT.out rfl).mono ?_
      rintro e w5 ⟨rfl, cs5, v5, hq5, hk5, hv5⟩
      rw [← HDL.out] at hq5
      have HBX5 := Lib.hid (HBX3.out.keep hk5 (fun h => by rcases HS.out _ h with h | h; have := HLT.out _ h; omega; have := HS0.out; omega))
      have HK5 : Hid (Keep (FQown g S v) w0 w5) := Lib.hid (HK3.out.then hk5 (fun k e hlt => (HS.out k e).elim id (fun h => by omega)))
      have HS5 : Hid (∀ k, FQown g S' v5 k → FQown g S v k ∨ w0.heap.size ≤ k) := Lib.hid (fun k hk => by
        rcases hk with h | h | ⟨j, hj, h⟩
        · exact HS.out k (.inl h)
        · exact HS.out k (.inr (.inl h))
        · obtain ⟨j', hj', h'⟩ := hv5 j k hj h
          exact HS.out k (.inr (.inr ⟨j', hj', h'⟩)))
      have HQ5 := Lib.hid hq5
      have HPS := Lib.hid (pull_stop HT.out)
      have hb2 := HBX5.out
      have e0 := hb2.cell 0; have e1 := hb2.cell 1; have e2 := hb2.cell 2; have e3 := hb2.cell 3; have e4 := hb2.cell 4
      simp only [List.getElem?_toArray, List.getElem?_cons_zero, List.getElem?_cons_succ] at e0 e1 e2 e3 e4
      have g0 := hb2.free 0; have g1 := hb2.free 1; have g2 := hb2.free 2; have g3 := hb2.free 3; have g4 := hb2.free 4
      clear hq5 hk5 hv5 hb2 HQ3 HBX3 HK3
      go_wp2
      try rw [Exit.noGoto_ret]
      refine bodyPost_ret (v := .tuple #[.agg #[.int .i64 s.s, .int .u64 s.f, .int .i64 s.l, .int .u64 s.t, .bool s.a], .bool true]) (by rw [results_cell_tmp rfl]; go_simp) rfl ?_
      have hk6 := keep5 w5 w.heap.size (.int .i64 s.s) (.int .u64 s.f) (.int .i64 s.l) (.int .u64 s.t) (.bool s.a)
      have hok := HOK.out.2 _ _ HT.out
      have hpe := HP.out
      rw [HPS.out] at hpe
      cases hpe
      refine ⟨rfl, S', cs5, v5, ks', ⟨HQ5.out.keep hk6 (fun k hk e => ?_), hok, ?_⟩, ?_, ?_⟩
      · rcases HS5.out k hk with h | h
        · have := HLT.out k h; omega
        · have := HS0.out; omega
      · exact ks_at HKX.out (i := i) (fun j hj => upF_ne _ _ hj) (fun _ _ => rfl) HP3.out (by dsimp only; rw [upF_at]; exact HP3.out)
      · exact (K0.out.mono (fun _ h => h.elim)).trans HK5.out |>.then hk6 (fun k e hlt => by omega)
      · intro k hk
        exact (HS5.out k hk).imp id (fun h => by have := HS0.out; omega)
end
end Go.Proofs.Ytnljjdfajmjdjaa
