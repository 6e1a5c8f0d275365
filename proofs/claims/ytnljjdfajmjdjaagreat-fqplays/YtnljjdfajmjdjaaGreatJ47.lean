/-
  The document's queue (canterref20.Queue): what departs. Conditions: it lies in memory as RQat says, the rates lie elsewhere.
-/
import Derived.Test.YtnljjdfajmjdjaaGreatJ46
import Derived.Test.YtnljjdfajmjdjaaGreatJ43
import Derived.Test.YtnljjdfajmjdjaaGreatJ39
import Derived.Test.YtnljjdfajmjdjaaGreatJ08
import Derived.Deep.LoopGhost
namespace Go.Proofs.YtnljjdfajmjdjaaGreat
open Go.RowKit
set_option maxRecDepth 100000
set_option linter.unusedSimpArgs false
set_option linter.unusedVariables false

/-- What lies behind the first of a row. -/
theorem sgs_tail {w : World} {E : TypeId} {b n cap : Nat} {s : Sg} {r : List Sg} (h : (sgsT E (.slice (some ⟨b, 0, none⟩) n cap) (s :: r)).at_ w) : r.length + 1 ≤ cap ∧ ∀ j u, (flatG r)[j]? = some u → w.cell? ⟨b, 5 + j, none⟩ = some u := by
  have h' : w.ownsRow 0 E 5 (.slice (some ⟨b, 0, none⟩) n cap) (s :: r).length (flatG (s :: r)) := h
  refine ⟨?_, fun j u hu => ?_⟩
  · rcases h'.2 with ⟨e, _⟩ | ⟨g', cap', cur, e, _, _, hle, _⟩
    · cases e
    · cases e; exact hle
  · have hj := (List.getElem?_eq_some_iff.1 hu).1
    rw [flatG_len] at hj
    rcases h'.2 with ⟨e, _⟩ | ⟨g', cap', cur, e, _⟩
    · cases e
    · cases e
      rw [World.ownsRow.cellAt h' (5 + j) (by simp only [List.length_cons]; omega)]
      show (s.cells ++ flatG r)[5 + j]? = some u
      rw [List.getElem?_append_right (by simp [Sg.cells])]
      rw [show 5 + j - s.cells.length = j by simp [Sg.cells]]
      exact hu
/-- What stands all along a pull. -/
structure RQd (w0 wr : World) (g hb : Nat) (v0 : Nat → Value) (n0 o0 : Value) (x y : Qm) : Prop where
  ex : ∃ cs v n o, RQ wr g cs v n o y ∧ ∀ k, RQown g v n o k → RQown g v0 n0 o0 k ∨ w0.heap.size ≤ k
  ok : y.Ok
  c : y.c = x.c
  k : Keep (RQown g v0 n0 o0) w0 wr
  b : Whole wr hb 44 #[.int .i64 0, .int .u64 0, .int .i64 0, .int .u64 0, .bool false]
theorem RQd.kept {w0 wr w' : World} {g hb : Nat} {v0 : Nat → Value} {n0 o0 : Value} {x y : Qm} (h : RQd w0 wr g hb v0 n0 o0 x y) (hk : Keep (fun _ => False) wr w') : RQd w0 w' g hb v0 n0 o0 x y := by
  obtain ⟨⟨cs, v, n, o, h1, h2⟩, h3, h4, h5, h6⟩ := h
  exact ⟨⟨cs, v, n, o, h1.kept hk, h2⟩, h3, h4, h5.trans (hk.mono fun _ h => h.elim), h6.keep hk id⟩
theorem RQd.next {w0 wr w' : World} {g hb : Nat} {v v0 : Nat → Value} {n o n0 o0 : Value} {x z : Qm} (hk : Keep (RQown g v0 n0 o0) w0 wr) (hs : ∀ k, RQown g v n o k → RQown g v0 n0 o0 k ∨ w0.heap.size ≤ k)
    (hbx : Whole wr hb 44 #[.int .i64 0, .int .u64 0, .int .i64 0, .int .u64 0, .bool false]) (hl : hb < w0.heap.size) (hne : ¬ RQown g v0 n0 o0 hb) (t : RQto wr g v n o z w') (ok : z.Ok) (hc : z.c = x.c) : RQd w0 w' g hb v0 n0 o0 x z := by
  obtain ⟨cs', v', n', o', h1, h2, h3⟩ := t
  refine ⟨⟨cs', v', n', o', h1, fun k e => ?_⟩, ok, hc, hk.then h2 (fun k e hlt => (hs k e).elim id (fun h => by omega)), hbx.keep h2 (fun e => ?_)⟩
  · rcases h3 k e with a | a
    · exact hs k a
    · exact .inr (Nat.le_trans hk.size a)
  · rcases hs hb e with a | a
    · exact hne a
    · omega
theorem RQd.fin {w w0 wr w' : World} {g : Nat} {v0 : Nat → Value} {n0 o0 : Value} {x y : Qm} (h : RQd w0 wr g w.heap.size v0 n0 o0 x y) (k0 : Keep (fun _ => False) w w0) (hs0 : w0.heap.size = w.heap.size + 1) (hlt : ∀ k, RQown g v0 n0 o0 k → k < w.heap.size) (hk : Keep (fun k => k = w.heap.size) wr w') : RQto w g v0 n0 o0 y w' := by
  obtain ⟨⟨cs, v, n, o, h1, h2⟩, h3, h4, h5, h6⟩ := h
  refine ⟨cs, v, n, o, h1.keep hk (fun k e e2 => ?_), ((k0.mono fun _ h => h.elim).trans h5).then hk (fun k e hl => by omega), fun k e => (h2 k e).imp id (fun a => by omega)⟩
  rcases h2 k e2 with a | a
  · have := hlt k a; omega
  · omega
theorem RQat.oldc {w : World} {g : Nat} {cs : Array Value} {v : Nat → Value} {n o : Value} {x : Qm} (h : RQ w g cs v n o x) : ∃ a c, w.cell? ⟨g, 66, none⟩ = some (.slice a x.O.length c) := by
  obtain ⟨a, c, hv, _⟩ := h.l.o2.shape
  rw [len_iv] at hv
  exact ⟨a, c, ((h.l.whole.cell 66).trans h.l.c2).trans (congrArg some hv)⟩
section
variable {w w' : World} {g : Nat} {cs : Array Value} {v : Nat → Value} {n o : Value} {x : Qm}
set_option maxRecDepth 100000 in
set_option maxHeartbeats 8000000 in
theorem RQat.deq (h : RQ w g cs v n o x) (hx : x.Ok) (now : Int) (hn : U64 now) (a : Option Addr) (cap : Nat) (rs : List Int) (hr : Rd .u64 w a rs) (hb : ∀ r ∈ rs, U64 r) (hap : rs ≠ [] → ∀ b off, a = some ⟨b, off, none⟩ → ¬ RQown g v n o b)
    {y : Qm} {s : Option Sg} (he : deqQ (dlyQ rs x.c.r) x now = (y, s)) :
    Calls Tryz.prog 10 #[.pointer (some ⟨g, 0, none⟩), .int .u64 now, .slice a rs.length cap] w fun e w' => e = .returned (.tuple #[(s.getD Sg.zero).v, .bool s.isSome]) ∧ RQto w g v n o y w' := by
  have HLT := Lib.hid (fun k (hk : RQown g v n o k) => h.lt hk)
  have HC := Lib.hid hx.hc
  have HBD := Lib.hid (fun l z => dlyQ_bd hb hx.hc.hr l z)
  obtain ⟨d, hd⟩ : ∃ d, d = dlyQ rs x.c.r := ⟨_, rfl⟩
  rw [← hd] at he HBD
  have HDD := Lib.hid hd
  have HN := Lib.hid hn; have HB := Lib.hid hb; have HAP := Lib.hid hap; have HE := Lib.hid he; have HRR := Lib.hid hr
  obtain ⟨w0, hw0⟩ : ∃ w0, w0 = w.alloc (.cells #[.int .i64 0, .int .u64 0, .int .i64 0, .int .u64 0, .bool false] 44) := ⟨_, rfl⟩
  have k0 : Keep (fun _ => False) w w0 := by rw [hw0]; exact (Keep.refl _ _).alloc _
  have hbox : Whole w0 w.heap.size 44 #[.int .i64 0, .int .u64 0, .int .i64 0, .int .u64 0, .bool false] := by rw [hw0]; exact Whole.new _ _ _
  have hs0 : w0.heap.size = w.heap.size + 1 := by rw [hw0]; simp
  have HD0 := Lib.hid (⟨⟨cs, v, n, o, h.kept k0, fun _ e => .inl e⟩, hx, rfl, Keep.refl _ _, hbox⟩ : RQd w0 w0 g w.heap.size v n o x x)
  have HQ0 := Lib.hid (h.kept k0)
  have HX := Lib.hid hx
  have HS0 := Lib.hid hs0; have K0 := Lib.hid k0
  obtain ⟨i0, hi0, hz0, hz1, hz2⟩ : ∃ i : TypeInfo, Tryz.prog.info? 44 = some i ∧ i.zero = some Sg.zero.v ∧ i.size = 5 ∧ i.bytes = 40 := by
    have h := Tryz.infoSg
    cases hi : Tryz.prog.info? 44 with
    | none => rw [hi] at h; cases h
    | some i => rw [hi] at h; simp at h; exact ⟨i, rfl, h.1, h.2.1, h.2.2⟩
  have HI0 := Lib.hid hi0; have HZ0 := Lib.hid hz0; have HZ1 := Lib.hid hz1; have HZ2 := Lib.hid hz2
  clear hi0 hz0 hz1 hz2
  clear h hx hn hb hap he hr hd k0 hbox hs0
  go_enter Tryz.func10, Tryz.ntmps10
  go_wp2_with fail
  rw [← hw0]
  clear hw0
  refine (HQ0.out.first HX.out).mono ?_
  rintro e w1 ⟨rfl, k1⟩
  have hd1 : RQd w0 w1 g w.heap.size v n o x x := by
    obtain ⟨⟨cs, v, n, o, h1, h2⟩, h3, h4, h5, h6⟩ := HD0.out
    exact ⟨⟨cs, v, n, o, h1.kept k1, h2⟩, h3, h4, h5.trans (k1.mono fun _ h => h.elim), h6.keep k1 id⟩
  have HD1 := Lib.hid hd1
  clear k1 hd1 HD0 HQ0
  go_wp2
  go_loopg [8] 9 (fun j iv wr => ∃ k y, iv = .int .i64 (bestV y 8) ∧ RQd w0 wr g w.heap.size v n o x y ∧ wakeN now 8 x = wakeN now k y ∧ sum8 (waits1 y) ≤ k ∧ k + 1 ≤ j)
  case atStart => exact ⟨8, x, rfl, HD1.out, rfl, waits_8 x, Nat.le_refl _⟩
  case round =>
    clear HD1
    obtain ⟨k, y1, rfl, hd, hwk, hs8, hj⟩ := hrel
    have HD := Lib.hid hd; have HWK := Lib.hid hwk; have HS8 := Lib.hid hs8; have HJ := Lib.hid hj
    clear hd hwk hs8 hj
    go_upto_region 2 with fail
    go_cut [8, 28] (fun s8 sc wx => RQd w0 wx g w.heap.size v n o x y1 ∧ ((∃ b : Nat, b < 8 ∧ s8 = .int .i64 (b : Int) ∧ firstN y1 8 = some b ∧ timeF (y1.F b) ≤ now ∧ sc = .bool true) ∨ (sc = .bool false ∧ wakeN now 8 x = y1)))
    case first =>
      obtain ⟨cs1, v1, n1, o1, hq, hs⟩ := HD.out.ex
      have HQ := Lib.hid hq; have HOK := Lib.hid HD.out.ok
      clear hq hs
      cases hf : firstN y1 8 with
      | none =>
        have hbv : bestV y1 8 = -1 := by unfold bestV; rw [hf]
        rw [hbv]
        have HW := Lib.hid (HWK.out.trans (wake_none hf k))
        clear hf hbv
        go_wp2
        go_meet
        exact ⟨HD.out, .inr ⟨rfl, HW.out⟩⟩
      | some b =>
        obtain ⟨hb8, hT, hP⟩ := firstN_some hf
        have hbv : bestV y1 8 = (b : Int) := by unfold bestV; rw [hf]
        have hne := (HOK.out.is b hb8 hT).wt hP
        obtain ⟨sb, rb, hsb⟩ := List.exists_cons_of_ne_nil hne
        have HSB := Lib.hid hsb; have HB8 := Lib.hid hb8; have HF := Lib.hid hf
        have hbi : (b : Int) < 8 := by omega
        have hbn : ¬ (b : Int) < 0 := by omega
        have c0 : wr.cell? ⟨g, 9 + b * 6, none⟩ = some (.int .i64 (y1.F b).s) := HQ.out.cF hb8 (j := 0) (by decide)
        have c1 : wr.cell? ⟨g, 9 + b * 6 + 1, none⟩ = some (.int .i64 (y1.F b).c) := HQ.out.cF hb8 (j := 1) (by decide)
        have c2 : wr.cell? ⟨g, 9 + b * 6 + 2, none⟩ = some (.int .i64 (y1.F b).p) := HQ.out.cF hb8 (j := 2) (by decide)
        have c3 : wr.cell? ⟨g, 9 + b * 6 + 3, none⟩ = some (.int .u64 (y1.F b).n) := HQ.out.cF hb8 (j := 3) (by decide)
        have c4 : wr.cell? ⟨g, 9 + b * 6 + 4, none⟩ = some (.int .u64 (y1.F b).u) := HQ.out.cF hb8 (j := 4) (by decide)
        have c5 : wr.cell? ⟨g, 9 + b * 6 + 5, none⟩ = some (v1 b) := HQ.out.cF hb8 (j := 5) (by decide)
        rw [hbv]
        clear hf hb8 hT hP hbv hne hsb
        go_wp2_with fail
        refine (rtime_any (v1 b) (y1.F b) sb rb wr HSB.out (HQ.out.q b HB8.out)).mono ?_
        rintro e w2 ⟨rfl, k2⟩
        have HD2 := Lib.hid (HD.out.kept k2)
        clear k2 c0 c1 c2 c3 c4 c5 HD HQ
        obtain ⟨t, ht⟩ : ∃ t, timeF (y1.F b) = t := ⟨_, rfl⟩
        rw [ht]
        have HT := Lib.hid ht
        clear ht
        by_cases htt : t ≤ now
        · have HTN := Lib.hid htt
          go_wp2
          go_meet
          exact ⟨HD2.out, .inl ⟨b, HB8.out, rfl, HF.out, by rw [HT.out]; exact HTN.out, rfl⟩⟩
        · have HTN := Lib.hid htt
          have HW := Lib.hid (HWK.out.trans (wake_stay HF.out (by rw [HT.out]; exact htt) k))
          go_wp2
          go_meet
          exact ⟨HD2.out, .inr ⟨congrArg Value.bool (decide_eq_false (by have := HTN.out; omega)), HW.out⟩⟩
    case rest =>
    obtain ⟨hd2, hor⟩ := hcut
    have HD2 := Lib.hid hd2
    clear hd2 HD
    rcases hor with ⟨b, hb8, rfl, hfb, htb, rfl⟩ | ⟨rfl, hw⟩
    · obtain ⟨cs1, v1, n1, o1, hq, hs⟩ := HD2.out.ex
      have HQ := Lib.hid hq; have HS := Lib.hid hs; have HB8 := Lib.hid hb8; have HF := Lib.hid hfb; have HTB := Lib.hid htb
      have hbi : (b : Int) < 8 := by omega
      have hbn : ¬ (b : Int) < 0 := by omega
      clear hq hs hb8 hfb htb
      go_wp2_with fail
      refine (HQ.out.put HD2.out.ok.ls HB8.out 2).mono ?_
      rintro e w3 ⟨⟨ev, rfl⟩, t3⟩
      have HD3 := Lib.hid (RQd.next HD2.out.k HS.out HD2.out.b (by have := HS0.out; omega) (fun e => by have := HLT.out _ e; omega) t3 (put_wait HD2.out.ok HF.out) HD2.out.c)
      clear t3 HQ HS HD2
      obtain ⟨cs1, v1, n1, o1, hq, hs⟩ := HD3.out.ex
      have HQ := Lib.hid hq
      clear hq hs
      go_wp2_with fail
      refine (HQ.out.first HD3.out.ok).mono ?_
      rintro e w4 ⟨rfl, k4⟩
      have HD4 := Lib.hid (HD3.out.kept k4)
      clear k4 HQ HD3
      obtain ⟨m, hkm, hsm⟩ := waits_pos HF.out HS8.out
      have HM := Lib.hid hsm
      have HKM := Lib.hid hkm
      clear hsm hkm
      go_wp2
      go_roundg (gk - 1)
      case measure => have := HJ.out; omega
      case rel => exact ⟨m, _, rfl, HD4.out, by have h := HWK.out; rw [HKM.out, wake_go HF.out HTB.out] at h; exact h, HM.out, by have := HJ.out; have := HKM.out; omega⟩
    · have HP : Hid (pullQ d y1 now = (y, s)) := Lib.hid (by rw [← hw]; exact HE.out)
      clear hw HWK HS8 HJ HX
      go_wp2
      go_loopg [9, 10, 11] (turnsQ y1 + 1) (fun j _ _ _ wr => ∃ xk, RQd w0 wr g w.heap.size v n o x xk ∧ pullQ d xk now = (y, s) ∧ turnsQ xk + 1 ≤ j)
      case atStart => exact ⟨y1, HD2.out, HP.out, Nat.le_refl _⟩
      case round =>
        obtain ⟨xk, hd, hp, hj⟩ := hrel
        have HD3 := Lib.hid hd; clear HP; have HP := Lib.hid hp; have HJ := Lib.hid hj
        obtain ⟨cs2, v2, n2, o2, hq, hs⟩ := hd.ex
        have HQ := Lib.hid hq; have HS := Lib.hid hs
        clear hd hp hj hq hs HD2
        go_wp2_with fail
        refine (rhead_any 41 g 65 cs2 n2 o2 xk.N xk.O _ HQ.out.l).mono ?_
        rintro e w2 ⟨rfl, rfl⟩
        have HTI := Lib.hid (turn_is d now HD3.out.ok.ls)
        cases HTI.out with
        | none hb ht =>
          have hs0 : headS xk.N xk.O = 0 := by
            obtain ⟨e1, e2⟩ := none_left hb
            rw [e1, e2]; rfl
          have hf0 : headF xk.N xk.O = false := by
            obtain ⟨e1, e2⟩ := none_left hb
            rw [e1, e2]; rfl
          rw [hb, hs0, hf0]
          have HPS := Lib.hid (pull_stop ht)
          have hb2 := HD3.out.b
          have e0 := hb2.cell 0; have e1 := hb2.cell 1; have e2 := hb2.cell 2; have e3 := hb2.cell 3; have e4 := hb2.cell 4
          simp only [List.getElem?_toArray, List.getElem?_cons_zero, List.getElem?_cons_succ] at e0 e1 e2 e3 e4
          have g0 := hb2.free 0; have g1 := hb2.free 1; have g2 := hb2.free 2; have g3 := hb2.free 3; have g4 := hb2.free 4
          clear hb hs0 hf0 ht hb2 HTI
          go_wp2
          try rw [Exit.noGoto_ret]
          refine bodyPost_ret (v := .tuple #[.agg #[.int .i64 0, .int .u64 0, .int .i64 0, .int .u64 0, .bool false], .bool false]) (by rw [results_cell_tmp rfl]; go_simp) rfl ?_
          have hk5 := keep5 wr w.heap.size (.int .i64 0) (.int .u64 0) (.int .i64 0) (.int .u64 0) (.bool false)
          have hpe := HP.out
          rw [HPS.out] at hpe
          cases hpe
          exact ⟨rfl, HD3.out.fin K0.out HS0.out HLT.out hk5⟩
        | more i hb hi hs hc ht =>
          obtain ⟨i', _, hsi, _, htt, hpp, hfo⟩ := HD3.out.ok.head hb
          obtain rfl : i' = i := by omega
          rw [hb, hs]
          have hi8 : (i' : Int) < 8 := by omega
          have c1 : wr.cell? ⟨g, 9 + i' * 6 + 1, none⟩ = some (.int .i64 (xk.F i').c) := HQ.out.cF hi (j := 1) (by decide)
          have f1 := HQ.out.fr (9 + i' * 6 + 1)
          have HLS := Lib.hid HD3.out.ok.ls
          have HON := Lib.hid (fun y (h : turnQ d xk now = .on y) => (turn_less HLS.out (by have := HC.out.hq; rw [HD3.out.c]; omega) h : turnsQ y < turnsQ xk ∧ LsOk y.N y.O ∧ y.c = xk.c))
          have HOK := Lib.hid (turn_ok HD3.out.ok HN.out (fun l z => (HBD.out l z).1) : (∀ y, turnQ d xk now = .on y → y.Ok) ∧ ∀ y s, turnQ d xk now = .stop y s → y.Ok)
          have HPO := Lib.hid (fun y (h : turnQ d xk now = .on y) => pull_on HLS.out (by have := HC.out.hq; rw [HD3.out.c]; omega) h)
          clear hsi htt hpp
          obtain ⟨i, hie⟩ : ∃ i, i = i' := ⟨_, rfl⟩
          subst hie
          have HI := Lib.hid hi; have HT := Lib.hid ht
          have cq : wr.cell? ⟨g, 0, none⟩ = some (.int .i64 xk.c.q) := HQ.out.cf (j := 0) (by decide)
          have hwc : IntKind.i64.wrap ((xk.F i).c + xk.c.q) = (xk.F i).c + xk.c.q := by
            have h1 := hfo.hc
            have h2 := HC.out.hq
            rw [← HD3.out.c] at h2
            rw [IntKind.wrap_i64]; omega
          clear hb hi hs ht hfo HTI
          go_wp2
          go_region
          have hk3 : Keep (fun k => k = g) wr (wr.setCell ⟨g, 9 + i * 6 + 1, none⟩ (.int .i64 ((xk.F i).c + xk.c.q))).drew := ((Keep.refl (fun k => k = g) wr).setCell (p := ⟨g, 9 + i * 6 + 1, none⟩) (.inl rfl) _).drew
          have hq3 := (HQ.out.setf HI.out (k := 1) (by decide) (u := .int .i64 ((xk.F i).c + xk.c.q)) (f := { xk.F i with c := (xk.F i).c + xk.c.q }) rfl (fun j hj hne => by
            match j, hj with
            | 0, _ => rfl
            | 1, _ => exact absurd rfl hne
            | 2, _ => rfl
            | 3, _ => rfl
            | 4, _ => rfl
            | 5, _ => rfl) rfl rfl).kept (Keep.refl _ _).drew
          have HQ3 := Lib.hid hq3
          have HK4 := Lib.hid (HD3.out.k.then hk3 (fun k e _ => .inl e))
          have HB4 := Lib.hid (HD3.out.b.keep hk3 (fun e => by have := HLT.out g (.inl rfl); omega))
          clear hk3 hq3 c1 f1 cq hwc
          generalize World.drew _ = w3 at *
          go_wp2_with fail
          refine (HQ3.out.put HLS.out HI.out 2).mono ?_
          rintro e w4 ⟨⟨ev, rfl⟩, t4⟩
          clear HQ3
          have hon := HON.out _ HT.out
          have HD5 := Lib.hid (RQd.next HK4.out HS.out HB4.out (by have := HS0.out; omega) (fun e => by have := HLT.out _ e; omega) t4 (HOK.out.1 _ HT.out) (hon.2.2.trans HD3.out.c))
          have HP5 := Lib.hid ((HPO.out _ HT.out).symm.trans HP.out)
          have HJ5 := Lib.hid (Nat.succ_le_of_lt (Nat.lt_of_lt_of_le hon.1 (by have := HJ.out; omega : turnsQ xk ≤ gk - 1)))
          clear t4 hon HD3 HQ HK4 HB4
          go_wp2
          go_roundg (gk - 1)
          case measure => have := HJ.out; omega
          case rel => exact ⟨_, HD5.out, HP5.out, HJ5.out⟩
        | back i hb hi hs hc hq hf ht =>
          obtain ⟨i', _, hsi, _, htt, hpp, hfo⟩ := HD3.out.ok.head hb
          obtain rfl : i' = i := by omega
          rw [hb, hs]
          have hi8 : (i' : Int) < 8 := by omega
          have c1 : wr.cell? ⟨g, 9 + i' * 6 + 1, none⟩ = some (.int .i64 (xk.F i').c) := HQ.out.cF hi (j := 1) (by decide)
          have f1 := HQ.out.fr (9 + i' * 6 + 1)
          have HLS := Lib.hid HD3.out.ok.ls
          have HON := Lib.hid (fun y (h : turnQ d xk now = .on y) => (turn_less HLS.out (by have := HC.out.hq; rw [HD3.out.c]; omega) h : turnsQ y < turnsQ xk ∧ LsOk y.N y.O ∧ y.c = xk.c))
          have HOK := Lib.hid (turn_ok HD3.out.ok HN.out (fun l z => (HBD.out l z).1) : (∀ y, turnQ d xk now = .on y → y.Ok) ∧ ∀ y s, turnQ d xk now = .stop y s → y.Ok)
          have HPO := Lib.hid (fun y (h : turnQ d xk now = .on y) => pull_on HLS.out (by have := HC.out.hq; rw [HD3.out.c]; omega) h)
          clear hsi htt hpp
          obtain ⟨i, hie⟩ : ∃ i, i = i' := ⟨_, rfl⟩
          subst hie
          have HI := Lib.hid hi; have HT := Lib.hid ht
          obtain ⟨oa, oc, co⟩ := HQ.out.oldc
          obtain ⟨sa, scap, hsv⟩ := HQ.out.shape HI.out
          have c5 : wr.cell? ⟨g, 9 + i * 6 + 5, none⟩ = some (v2 i) := HQ.out.cF HI.out (j := 5) (by decide)
          rw [hsv, hq] at c5
          simp only [List.length_nil] at c5
          have hol : (0 : Int) < (xk.O.length : Int) := by have := List.length_pos_iff.2 hf.2; omega
          rw [hf.1]
          clear hb hi hs hq hf ht hsv f1 hfo HTI
          generalize xk.O.length = ol at *
          go_wp2_with fail
          clear c1 c5 co hol
          refine (HQ.out.put HLS.out HI.out 2).mono ?_
          rintro e w4 ⟨⟨ev, rfl⟩, t4⟩
          have HK4 := Lib.hid HD3.out.k; have HB4 := Lib.hid HD3.out.b
          have hon := HON.out _ HT.out
          have HD5 := Lib.hid (RQd.next HK4.out HS.out HB4.out (by have := HS0.out; omega) (fun e => by have := HLT.out _ e; omega) t4 (HOK.out.1 _ HT.out) (hon.2.2.trans HD3.out.c))
          have HP5 := Lib.hid ((HPO.out _ HT.out).symm.trans HP.out)
          have HJ5 := Lib.hid (Nat.succ_le_of_lt (Nat.lt_of_lt_of_le hon.1 (by have := HJ.out; omega : turnsQ xk ≤ gk - 1)))
          clear t4 hon HD3 HQ HK4 HB4
          go_wp2
          go_roundg (gk - 1)
          case measure => have := HJ.out; omega
          case rel => exact ⟨_, HD5.out, HP5.out, HJ5.out⟩
        | gone i hb hi hs hc hq hf ht =>
          obtain ⟨i', _, hsi, _, htt, hpp, hfo⟩ := HD3.out.ok.head hb
          obtain rfl : i' = i := by omega
          rw [hb, hs]
          have hi8 : (i' : Int) < 8 := by omega
          have c1 : wr.cell? ⟨g, 9 + i' * 6 + 1, none⟩ = some (.int .i64 (xk.F i').c) := HQ.out.cF hi (j := 1) (by decide)
          have f1 := HQ.out.fr (9 + i' * 6 + 1)
          have HLS := Lib.hid HD3.out.ok.ls
          have HON := Lib.hid (fun y (h : turnQ d xk now = .on y) => (turn_less HLS.out (by have := HC.out.hq; rw [HD3.out.c]; omega) h : turnsQ y < turnsQ xk ∧ LsOk y.N y.O ∧ y.c = xk.c))
          have HOK := Lib.hid (turn_ok HD3.out.ok HN.out (fun l z => (HBD.out l z).1) : (∀ y, turnQ d xk now = .on y → y.Ok) ∧ ∀ y s, turnQ d xk now = .stop y s → y.Ok)
          have HPO := Lib.hid (fun y (h : turnQ d xk now = .on y) => pull_on HLS.out (by have := HC.out.hq; rw [HD3.out.c]; omega) h)
          clear hsi htt hpp
          obtain ⟨i, hie⟩ : ∃ i, i = i' := ⟨_, rfl⟩
          subst hie
          have HI := Lib.hid hi; have HT := Lib.hid ht
          obtain ⟨oa, oc, co⟩ := HQ.out.oldc
          obtain ⟨sa, scap, hsv⟩ := HQ.out.shape HI.out
          have c5 : wr.cell? ⟨g, 9 + i * 6 + 5, none⟩ = some (v2 i) := HQ.out.cF HI.out (j := 5) (by decide)
          rw [hsv, hq] at c5
          simp only [List.length_nil] at c5
          cases hfr : headF xk.N xk.O with
          | true =>
            have hO : xk.O = [] := by
              cases hO : xk.O with
              | nil => rfl
              | cons z l => exact absurd ⟨hfr, by rw [hO]; simp⟩ hf
            rw [hO] at co
            simp only [List.length_nil] at co
            clear hb hi hs hq hf ht hsv f1 hfo HTI hfr hO
            go_wp2_with fail
            clear c1 c5 co
            refine (HQ.out.put HLS.out HI.out 0).mono ?_
            rintro e w3 ⟨⟨ev, rfl⟩, cs3, v3, n3, o3, q3, k3, s3⟩
            have c4 : w3.cell? ⟨g, 9 + i * 6 + 4, none⟩ = some (.int .u64 ((putQ xk i 0).F i).u) := q3.cF HI.out (j := 4) (by decide)
            have f4 := q3.fr (9 + i * 6 + 4)
            have q4 := q3.setf HI.out (k := 4) (by decide) (u := .int .u64 now) (f := { (putQ xk i 0).F i with u := now }) rfl (fun j hj hne => by
              match j, hj with
              | 0, _ => rfl
              | 1, _ => rfl
              | 2, _ => rfl
              | 3, _ => rfl
              | 4, _ => exact absurd rfl hne
              | 5, _ => rfl) rfl rfl
            have t4 : RQto wr g v2 n2 o2 _ _ := ⟨_, v3, n3, o3, q4, k3.setCell (p := ⟨g, 9 + i * 6 + 4, none⟩) (.inl (.inl rfl)) (.int .u64 now), s3⟩
            have HK4 := Lib.hid HD3.out.k; have HB4 := Lib.hid HD3.out.b
            clear q4 q3 k3 s3
            have hon := HON.out _ HT.out
            have HD5 := Lib.hid (RQd.next HK4.out HS.out HB4.out (by have := HS0.out; omega) (fun e => by have := HLT.out _ e; omega) t4 (HOK.out.1 _ HT.out) (hon.2.2.trans HD3.out.c))
            have HP5 := Lib.hid ((HPO.out _ HT.out).symm.trans HP.out)
            have HJ5 := Lib.hid (Nat.succ_le_of_lt (Nat.lt_of_lt_of_le hon.1 (by have := HJ.out; omega : turnsQ xk ≤ gk - 1)))
            clear t4 hon HD3 HQ HK4 HB4
            go_wp2
            go_roundg (gk - 1)
            case measure => have := HJ.out; omega
            case rel => exact ⟨_, HD5.out, HP5.out, HJ5.out⟩
          | false =>
            clear hb hi hs hq hf ht hsv f1 hfo HTI hfr
            generalize xk.O.length = ol at *
            go_wp2_with fail
            clear c1 c5 co
            refine (HQ.out.put HLS.out HI.out 0).mono ?_
            rintro e w3 ⟨⟨ev, rfl⟩, cs3, v3, n3, o3, q3, k3, s3⟩
            have c4 : w3.cell? ⟨g, 9 + i * 6 + 4, none⟩ = some (.int .u64 ((putQ xk i 0).F i).u) := q3.cF HI.out (j := 4) (by decide)
            have f4 := q3.fr (9 + i * 6 + 4)
            have q4 := q3.setf HI.out (k := 4) (by decide) (u := .int .u64 now) (f := { (putQ xk i 0).F i with u := now }) rfl (fun j hj hne => by
              match j, hj with
              | 0, _ => rfl
              | 1, _ => rfl
              | 2, _ => rfl
              | 3, _ => rfl
              | 4, _ => exact absurd rfl hne
              | 5, _ => rfl) rfl rfl
            have t4 : RQto wr g v2 n2 o2 _ _ := ⟨_, v3, n3, o3, q4, k3.setCell (p := ⟨g, 9 + i * 6 + 4, none⟩) (.inl (.inl rfl)) (.int .u64 now), s3⟩
            have HK4 := Lib.hid HD3.out.k; have HB4 := Lib.hid HD3.out.b
            clear q4 q3 k3 s3
            have hon := HON.out _ HT.out
            have HD5 := Lib.hid (RQd.next HK4.out HS.out HB4.out (by have := HS0.out; omega) (fun e => by have := HLT.out _ e; omega) t4 (HOK.out.1 _ HT.out) (hon.2.2.trans HD3.out.c))
            have HP5 := Lib.hid ((HPO.out _ HT.out).symm.trans HP.out)
            have HJ5 := Lib.hid (Nat.succ_le_of_lt (Nat.lt_of_lt_of_le hon.1 (by have := HJ.out; omega : turnsQ xk ≤ gk - 1)))
            clear t4 hon HD3 HQ HK4 HB4
            go_wp2
            go_roundg (gk - 1)
            case measure => have := HJ.out; omega
            case rel => exact ⟨_, HD5.out, HP5.out, HJ5.out⟩
        | wait i hb hi hs hc sg r hq hw ht =>
          obtain ⟨i', _, hsi, _, htt, hpp, hfo⟩ := HD3.out.ok.head hb
          obtain rfl : i' = i := by omega
          rw [hb, hs]
          have hi8 : (i' : Int) < 8 := by omega
          have c1 : wr.cell? ⟨g, 9 + i' * 6 + 1, none⟩ = some (.int .i64 (xk.F i').c) := HQ.out.cF hi (j := 1) (by decide)
          have f1 := HQ.out.fr (9 + i' * 6 + 1)
          have HLS := Lib.hid HD3.out.ok.ls
          have HON := Lib.hid (fun y (h : turnQ d xk now = .on y) => (turn_less HLS.out (by have := HC.out.hq; rw [HD3.out.c]; omega) h : turnsQ y < turnsQ xk ∧ LsOk y.N y.O ∧ y.c = xk.c))
          have HOK := Lib.hid (turn_ok HD3.out.ok HN.out (fun l z => (HBD.out l z).1) : (∀ y, turnQ d xk now = .on y → y.Ok) ∧ ∀ y s, turnQ d xk now = .stop y s → y.Ok)
          have HPO := Lib.hid (fun y (h : turnQ d xk now = .on y) => pull_on HLS.out (by have := HC.out.hq; rw [HD3.out.c]; omega) h)
          clear hsi htt hpp
          obtain ⟨i, hie⟩ : ∃ i, i = i' := ⟨_, rfl⟩
          subst hie
          have HI := Lib.hid hi; have HT := Lib.hid ht
          obtain ⟨sa, scap, hsv⟩ := HQ.out.shape HI.out
          have c5 : wr.cell? ⟨g, 9 + i * 6 + 5, none⟩ = some (v2 i) := HQ.out.cF HI.out (j := 5) (by decide)
          rw [hsv, hq] at c5
          simp only [List.length_cons] at c5
          have hz : ((((r.length + 1 : Nat) : Int)) == 0) = false := by simp; omega
          have HQQ := Lib.hid hq
          have HR := Lib.hid (range_fl HQ.out HI.out)
          obtain ⟨t, htm⟩ : ∃ t, timeF (xk.F i) = t := ⟨_, rfl⟩
          rw [htm] at hw
          have HTM := Lib.hid htm
          clear hb hi hs hq ht hsv f1 hfo HTI htm
          generalize r.length + 1 = rl at *
          go_wp2_with (first
            | (refine wpList_load_mid rfl 34 (.tmp 153) rfl g (9 + i * 6) rfl (flL (v2 i) (xk.F i)) _ HR.out Tryz.underlying34 rfl Tryz.sizeFl ?_)
            | fail)
          refine (rtime_any (v2 i) (xk.F i) sg r wr HQQ.out (HQ.out.q i HI.out)).mono ?_
          rintro e w3 ⟨rfl, k3⟩
          rw [HTM.out]
          have HQ3 := Lib.hid (HQ.out.kept k3)
          have HK4 := Lib.hid (HD3.out.k.trans (k3.mono fun _ h => h.elim))
          have HB4 := Lib.hid (HD3.out.b.keep k3 id)
          clear k3 c1 c5 hz HR HQQ
          go_wp2_with fail
          refine (HQ3.out.put HLS.out HI.out 3).mono ?_
          rintro e w4 ⟨⟨ev, rfl⟩, t4⟩
          clear HQ3
          have hon := HON.out _ HT.out
          have HD5 := Lib.hid (RQd.next HK4.out HS.out HB4.out (by have := HS0.out; omega) (fun e => by have := HLT.out _ e; omega) t4 (HOK.out.1 _ HT.out) (hon.2.2.trans HD3.out.c))
          have HP5 := Lib.hid ((HPO.out _ HT.out).symm.trans HP.out)
          have HJ5 := Lib.hid (Nat.succ_le_of_lt (Nat.lt_of_lt_of_le hon.1 (by have := HJ.out; omega : turnsQ xk ≤ gk - 1)))
          clear t4 hon HD3 HQ HK4 HB4
          go_wp2
          go_roundg (gk - 1)
          case measure => have := HJ.out; omega
          case rel => exact ⟨_, HD5.out, HP5.out, HJ5.out⟩
        | dep i hb hi hs hc sg r hq hw ht =>
          obtain ⟨i', _, hsi, _, htt, hpp, hfo⟩ := HD3.out.ok.head hb
          obtain rfl : i' = i := by omega
          rw [hb, hs]
          have hi8 : (i' : Int) < 8 := by omega
          have c1 : wr.cell? ⟨g, 9 + i' * 6 + 1, none⟩ = some (.int .i64 (xk.F i').c) := HQ.out.cF hi (j := 1) (by decide)
          have f1 := HQ.out.fr (9 + i' * 6 + 1)
          have HLS := Lib.hid HD3.out.ok.ls
          have HON := Lib.hid (fun y (h : turnQ d xk now = .on y) => (turn_less HLS.out (by have := HC.out.hq; rw [HD3.out.c]; omega) h : turnsQ y < turnsQ xk ∧ LsOk y.N y.O ∧ y.c = xk.c))
          have HOK := Lib.hid (turn_ok HD3.out.ok HN.out (fun l z => (HBD.out l z).1) : (∀ y, turnQ d xk now = .on y → y.Ok) ∧ ∀ y s, turnQ d xk now = .stop y s → y.Ok)
          have HPO := Lib.hid (fun y (h : turnQ d xk now = .on y) => pull_on HLS.out (by have := HC.out.hq; rw [HD3.out.c]; omega) h)
          clear hsi htt hpp
          obtain ⟨i, hie⟩ : ∃ i, i = i' := ⟨_, rfl⟩
          subst hie
          have HI := Lib.hid hi; have HT := Lib.hid ht
          obtain ⟨sa, scap, hsv⟩ := HQ.out.shape HI.out
          have c5 : wr.cell? ⟨g, 9 + i * 6 + 5, none⟩ = some (v2 i) := HQ.out.cF HI.out (j := 5) (by decide)
          rw [hsv, hq] at c5
          simp only [List.length_cons] at c5
          have hz : ((((r.length + 1 : Nat) : Int)) == 0) = false := by simp; omega
          have hz0 : (0 : Int) < ((r.length + 1 : Nat) : Int) := by omega
          have HQQ := Lib.hid hq
          have HR := Lib.hid (range_fl HQ.out HI.out)
          have HFC := Lib.hid hfo.hc
          have HSL := Lib.hid (hfo.hq sg (by rw [hq]; exact List.mem_cons_self ..)).hl
          have HRL : Hid (r.length + 1 ≤ 512) := Lib.hid (by have := Nat.le_trans (lenQ_le (x := xk) HI.out) HD3.out.ok.len; rw [hq] at this; exact this)
          obtain ⟨t, htm⟩ : ∃ t, timeF (xk.F i) = t := ⟨_, rfl⟩
          rw [htm] at hw
          have HTM := Lib.hid htm; have HSV := Lib.hid hsv
          clear hb hi hs hq ht hsv f1 hfo HTI htm
          obtain ⟨rl, hrl⟩ : ∃ rl, r.length + 1 = rl := ⟨_, rfl⟩
          rw [hrl] at c5 hz hz0
          have HLN := Lib.hid hrl
          clear hrl
          go_wp2_with (first
            | (refine wpList_load_mid rfl 34 (.tmp 153) rfl g (9 + i * 6) rfl (flL (v2 i) (xk.F i)) _ HR.out Tryz.underlying34 rfl Tryz.sizeFl ?_)
            | fail)
          refine (rtime_any (v2 i) (xk.F i) sg r wr HQQ.out (HQ.out.q i HI.out)).mono ?_
          rintro e w3 ⟨rfl, k3⟩
          rw [HTM.out]
          have HQ3 := Lib.hid (HQ.out.kept k3)
          have HD4 := Lib.hid (HD3.out.kept k3)
          clear k3 c1 c5 hz HR HD3 HQ
          have hrow := HQ3.out.q i HI.out
          rw [HSV.out] at hrow
          obtain ⟨sb, hsb, d0, d1, d2, d3, d4⟩ := sgs_get (i := 0) (x := sg) hrow rfl (by rw [HQQ.out]; rfl)
          rw [Nat.zero_mul] at d0 d1 d2 d3 d4
          rw [Nat.zero_add] at d1 d2 d3 d4
          have c5 : w3.cell? ⟨g, 9 + i * 6 + 5, none⟩ = some (.slice (some ⟨sb, 0, none⟩) rl scap) := (HQ3.out.cF HI.out (j := 5) (by decide)).trans (congrArg some (by rw [← hsb, ← HLN.out]; exact HSV.out.trans (by rw [HQQ.out]; rfl)))
          have HSB := Lib.hid hsb
          clear hrow hsb
          go_upto_region 10 with fail
          clear d0 d1 d2 d3 d4
          have hk4 : Keep (fun _ => False) w3 (w3.alloc (.cells (sgB sg) 44)) := (Keep.refl _ _).alloc _
          have HB4 := Lib.hid (show Whole (w3.alloc (.cells (sgB sg) 44)) w3.heap.size 44 (sgB sg) from Whole.new w3 44 (sgB sg))
          have HQ4 := Lib.hid (HQ3.out.kept hk4)
          have HD5 := Lib.hid (HD4.out.kept hk4)
          have HBO : Hid (∀ k, RQown g v2 n2 o2 k → k < w3.heap.size) := Lib.hid (fun k e => HQ3.out.lt e)
          have HWB : Hid (w.heap.size < w3.heap.size) := Lib.hid HD4.out.b.lt
          have c5' := (hk4.cell (p := ⟨g, 9 + i * 6 + 5, none⟩) (HBO.out g (.inl rfl)) id).trans c5
          have f5 := HQ4.out.fr (9 + i * 6 + 5)
          have hrow4 := HQ4.out.q i HI.out
          rw [HSV.out, HSB.out, HQQ.out] at hrow4
          have HTL := Lib.hid (sgs_tail hrow4)
          have HFL : Hid ((flatG r).length = (rl - 1) * 5) := Lib.hid (by rw [flatG_len]; have := HLN.out; omega)
          have HR5 : Hid (rl - 1 ≤ 512) := Lib.hid (by have := HLN.out; have := HRL.out; omega)
          rw [show (#[.int .i64 sg.s, .int .u64 sg.f, .int .i64 sg.l, .int .u64 sg.t, .bool sg.a] : Array Value) = sgB sg from rfl]
          clear hk4 HQ3 HD4 c5 hrow4
          generalize hBB : w3.heap.size = B at *
          generalize w3.alloc _ = w4 at *
          have hz1 : (1 : Int) ≤ (rl : Int) := by omega
          go_upto_region 11 with (at_builtin; refine wpList_append_rows rfl _ _ 32 rfl 44 i0 Sg.zero.v 5 40 Tryz.underlying32 HI0.out HZ0.out HZ1.out HZ2.out rfl (by decide) (.slice none 0 0) 0 [] rfl (World.ownsRow_nil _ _ _ _) _ _ _ (flatG r) rfl HFL.out (by intro e; by_cases hs : scap = 1 <;> simp [hs] at e) (by intro ad e j u hu; by_cases hs : scap = 1; exact absurd hu (by have h1 := HTL.out.1; rw [List.eq_nil_of_length_eq_zero (show r.length = 0 by omega)]; simp [flatG]); simp [hs] at e; subst e; rw [Go.WideShapes.add_plain]; exact HTL.out.2 j u hu) (one_flat r) (by unfold maxLen; have := HR5.out; omega) (by have := HR5.out; omega) ?_; intro v' w5 hown hk5 hn5 _; have hrow : (sgsT 44 v' r).at_ w5 := (by rw [List.nil_append, Nat.zero_add] at hown; show w5.ownsRow 0 44 5 v' r.length (flatG r); rw [show r.length = rl - 1 by have := HLN.out; omega]; exact hown); obtain ⟨a', cap', hv'⟩ := sgs_shape hrow; have hk5' : Keep (fun _ => False) w4 w5 := hk5.mono (fun j e => by cases e); have hnn : ∀ j, v'.ownBlock = some j → w4.heap.size ≤ j := (fun j e => by rcases hn5 j e with h | h; cases h; exact h); have HROW := Lib.hid hrow; have HK5 := Lib.hid hk5'; have HNN := Lib.hid hnn; have HB5 := Lib.hid (HB4.out.keep hk5' id); have c5 : w5.cell? ⟨g, 9 + i * 6 + 5, none⟩ = some (.slice (some ⟨sb, 0, none⟩) rl scap) := (hk5'.cell (p := ⟨g, 9 + i * 6 + 5, none⟩) HQ4.out.l.whole.lt id).trans c5'; have f5 := (HQ4.out.kept hk5').fr (9 + i * 6 + 5); clear hown hk5 hn5 hrow hk5' hnn c5'; subst hv')
          have HQ6 := Lib.hid (HQ4.out.slice HI.out HK5.out HROW.out HNN.out rfl)
          have HG : Hid (w.heap.size ≠ g ∧ B ≠ g) := Lib.hid ⟨by have := HLT.out g; intro e; have hs := HS.out g (.inl rfl); have h0 := HS0.out; rcases hs with h | h; have := HLT.out g h; omega; omega, by have := HBO.out g (.inl rfl); omega⟩
          have HK6 : Hid (Keep (RQown g v n o) w0 (w5.setCell ⟨g, 9 + i * 6 + 5, none⟩ (.slice a' r.length cap'))) := Lib.hid ((HD5.out.k.trans (HK5.out.mono fun _ h => h.elim)).setCell (p := ⟨g, 9 + i * 6 + 5, none⟩) (.inl (.inl rfl)) _)
          have HS6 : Hid (∀ k, RQown g (upF v2 i (.slice a' r.length cap')) n2 o2 k → RQown g v n o k ∨ w0.heap.size ≤ k) := Lib.hid (fun k e => by
            have h1 := HD5.out.k.size
            rcases own_slice HNN.out e with h | h
            · exact HS.out k h
            · exact .inr (by omega))
          have HW6 := Lib.hid ((HD5.out.b.keep HK5.out id).far (p := ⟨g, 9 + i * 6 + 5, none⟩) HG.out.1 (.slice a' r.length cap'))
          have HB6 := Lib.hid (HB5.out.far (p := ⟨g, 9 + i * 6 + 5, none⟩) HG.out.2 (.slice a' r.length cap'))
          have HRR6 : Hid (Rd .u64 (w5.setCell ⟨g, 9 + i * 6 + 5, none⟩ (.slice a' r.length cap')) a rs) := Lib.hid (HRR.out.keepS ((K0.out.mono fun _ h => h.elim).trans HK6.out) HAP.out)
          have HXC := Lib.hid HD5.out.c
          clear HROW HNN HB5 c5 f5 HQ4 HD5 HB4 HTL HFL hBB
          generalize World.setCell w5 _ _ = w6 at *
          have c1 : w6.cell? ⟨g, 9 + i * 6 + 1, none⟩ = some (.int .i64 (xk.F i).c) := (HQ6.out.cF HI.out (j := 1) (by decide)).trans (by simp only [upF_at]; rfl)
          have hwc : IntKind.i64.wrap ((xk.F i).c - sg.l) = (xk.F i).c - sg.l := by
            have h1 := HFC.out
            have h2 := HSL.out
            rw [IntKind.wrap_i64]; omega
          have hw64 : wrap64 ((xk.F i).c - sg.l) = (xk.F i).c - sg.l := by
            have h1 := HFC.out
            have h2 := HSL.out
            unfold wrap64; omega
          refine wp_region_late (fun W => W.cell? ⟨g, 9 + i * 6 + 1, none⟩ = some (.int .i64 (xk.F i).c) ∧ W.cell? ⟨B, 2, none⟩ = some (.int .i64 sg.l)) [10] (.yes 0 (.yes 1 (.yes 2 (.yes 3 (.yes 4 (.yes 5 (.yes 6 (.yes 7 (.yes 8 (.yes 9 (.one 10 .nil))))))))))) (by kernel_rfl) (by kernel_rfl) (by kernel_rfl) (by kernel_rfl) ⟨c1, HB6.out.cell 2⟩ ?_
          have kd : Keep (fun _ => False) w6 w6.drew := (Keep.refl _ w6).drew
          have HQ7 := Lib.hid (HQ6.out.kept kd); have HK7 := Lib.hid HK6.out.drew; have HW7 := Lib.hid (HW6.out.keep kd id); have HB7 := Lib.hid (HB6.out.keep kd id); have HRR7 := Lib.hid (HRR6.out.keep kd)
          clear c1 kd HQ6 HK6 HW6 HB6 HRR6
          generalize w6.drew = w7 at *
          (repeat (refine wpSchL_yes (v := ?_) rfl (fun _ _ _ h => h) (by rfl) ?_ ?_; rotate_left; (next => (intro w hSw; (try dsimp only at hSw); obtain ⟨hS0, hS1⟩ := hSw; go_simp; (try with_reducible rfl))); (try simp only [Act.put, List.setIfInBounds_toArray, List.set_cons_zero, List.set_cons_succ])))
          have c1 : w7.cell? ⟨g, 9 + i * 6 + 1, none⟩ = some (.int .i64 (xk.F i).c) := (HQ7.out.cF HI.out (j := 1) (by decide)).trans (by simp only [upF_at]; rfl)
          have f1 := HQ7.out.fr (9 + i * 6 + 1)
          have HQ8 := Lib.hid (HQ7.out.setf HI.out (k := 1) (by decide) (u := .int .i64 ((xk.F i).c - sg.l)) (f := { xk.F i with q := r, c := (xk.F i).c - sg.l }) rfl (fun j hj hne => by
            simp only [upF_at]
            match j, hj with
            | 0, _ => rfl
            | 1, _ => exact absurd rfl hne
            | 2, _ => rfl
            | 3, _ => rfl
            | 4, _ => rfl
            | 5, _ => rfl) (by simp only [upF_at]) rfl)
          have HK8 := Lib.hid (HK7.out.setCell (p := ⟨g, 9 + i * 6 + 1, none⟩) (.inl (.inl rfl)) (.int .i64 ((xk.F i).c - sg.l)))
          have HW8 := Lib.hid (HW7.out.far (p := ⟨g, 9 + i * 6 + 1, none⟩) HG.out.1 (.int .i64 ((xk.F i).c - sg.l)))
          have HB8 := Lib.hid (HB7.out.far (p := ⟨g, 9 + i * 6 + 1, none⟩) HG.out.2 (.int .i64 ((xk.F i).c - sg.l)))
          have HRR8 : Hid (Rd .u64 (w7.setCell ⟨g, 9 + i * 6 + 1, none⟩ (.int .i64 ((xk.F i).c - sg.l))) a rs) := Lib.hid (HRR.out.keepS ((K0.out.mono fun _ h => h.elim).trans HK8.out) HAP.out)
          clear hwc hw64 HQ7 HK7 HW7 HB7 HRR7
          refine wpSchL_one (wpOneL_call rfl (by rfl) (fun K hK => ?_))
          go_simp
          refine hK.out _ _ (fun h => absurd h (by decide)) (fun hHeld => ?_)
          clear hK K hHeld c1 f1
          generalize World.setCell w7 _ _ = w8 at *
          (try simp only [Act.put, List.setIfInBounds_toArray, List.set_cons_zero, List.set_cons_succ])
          refine wpSchL_nil ?_
          go_upto_region 12 with fail
          have cr : w8.cell? ⟨g, 5, none⟩ = some (.int .u64 xk.c.r) := HQ8.out.cf (j := 5) (by decide)
          obtain ⟨rt, hrt⟩ : ∃ rt, rateAt rs i = rt := ⟨_, rfl⟩
          have HRF : Hid (U64 rt) := Lib.hid (hrt ▸ rateAt_fit HB.out i)
          have HCR : Hid (U64 xk.c.r) := Lib.hid (by rw [HXC.out]; exact HC.out.hr)
          have HDL : Hid (d sg.l (i : Int) = delV sg.l (lesV rt xk.c.r)) := Lib.hid (by rw [HDD.out, ← hrt, HXC.out]; rfl)
          have HRT := Lib.hid hrt
          refine wp_region_sch (fun W => W.cell? ⟨B, 2, none⟩ = some (.int .i64 sg.l) ∧ W.cell? ⟨g, 5, none⟩ = some (.int .u64 xk.c.r)) [(true, 0), (true, 1), (true, 2), (true, 3), (true, 4), (true, 5), (true, 7), (true, 8), (true, 9), (true, 10), (true, 11), (false, 6), (false, 12), (false, 13), (false, 14), (true, 15), (true, 16), (false, 17)] (by kernel_rfl) (by kernel_rfl) (by kernel_rfl) (by kernel_rfl) ⟨HB8.out.cell 2, cr⟩ ?_
          have kd : Keep (fun _ => False) w8 w8.drew := (Keep.refl _ w8).drew
          have HQ9 := Lib.hid (HQ8.out.kept kd); have HK9 := Lib.hid HK8.out.drew; have HW9 := Lib.hid (HW8.out.keep kd id); have HB9 := Lib.hid (HB8.out.keep kd id); have HRR9 := Lib.hid (HRR8.out.keep kd)
          have HSC := Lib.hid (show w8.drew.cell? ⟨B, 2, none⟩ = some (.int .i64 sg.l) ∧ w8.drew.cell? ⟨g, 5, none⟩ = some (.int .u64 xk.c.r) from ⟨HB9.out.cell 2, HQ9.out.cf (j := 5) (by decide)⟩)
          clear cr hrt kd HQ8 HK8 HW8 HB8 HRR8
          generalize w8.drew = w9 at *
          (repeat (refine wpSch_yes (v := ?_) rfl (fun _ _ _ h => h) (by rfl) ?_ ?_; rotate_left; (next => (intro w hSw; (try dsimp only at hSw); obtain ⟨hS1, hS2⟩ := hSw; go_simp; (try with_reducible rfl))); (try simp only [Act.put, List.setIfInBounds_toArray, List.set_cons_zero, List.set_cons_succ])))
          refine wpSch_call rfl (by rfl) (fun K hK => ?_); go_simp
          refine (rrate_any a cap rs i w9 HRR9.out HRT.out).mono ?_
          rintro e we ⟨rfl, rfl⟩
          refine hK.out _ _ HSC.out (fun hHeld => ?_)
          clear hK K hHeld
          (try simp only [Act.put, List.setIfInBounds_toArray, List.set_cons_zero, List.set_cons_succ])
          refine wpSch_call rfl (by rfl) (fun K hK => ?_); go_simp
          refine (rles_any rt xk.c.r HRF.out.1 HRF.out.2 HCR.out.1 HCR.out.2 w9).mono ?_
          rintro e we ⟨rfl, rfl⟩
          refine hK.out _ _ HSC.out (fun hHeld => ?_)
          clear hK K hHeld
          (try simp only [Act.put, List.setIfInBounds_toArray, List.set_cons_zero, List.set_cons_succ])
          refine wpSch_call rfl (by rfl) (fun K hK => ?_); go_simp
          have hlb := lesV_bd HRF.out.1 HRF.out.2 HCR.out.1 HCR.out.2
          refine (rdel_any sg.l (lesV rt xk.c.r) (by have := HSL.out; omega) (by omega) hlb.2 w9).mono ?_
          rintro e we ⟨rfl, rfl⟩
          rw [← HDL.out]
          clear hlb
          refine hK.out _ _ HSC.out (fun hHeld => ?_)
          clear hK K hHeld
          (try simp only [Act.put, List.setIfInBounds_toArray, List.set_cons_zero, List.set_cons_succ])
          refine wpSch_call rfl (by rfl) (fun K hK => ?_); go_simp
          refine (radd_any now (d sg.l (i : Int)) HN.out.1 HN.out.2 (HBD.out _ _).1 (by have := (HBD.out sg.l (i : Int)).2; omega) w9).mono ?_
          rintro e we ⟨rfl, rfl⟩
          rw [show satAdd now (d sg.l (i : Int)) = addS now (d sg.l (i : Int)) from rfl]
          refine hK.out _ _ HSC.out (fun hHeld => ?_)
          clear hK K hHeld
          (try simp only [Act.put, List.setIfInBounds_toArray, List.set_cons_zero, List.set_cons_succ])
          (repeat (refine wpSch_yes (v := ?_) rfl (fun _ _ _ h => h) (by rfl) ?_ ?_; rotate_left; (next => (intro w hSw; (try dsimp only at hSw); obtain ⟨hS1, hS2⟩ := hSw; go_simp; (try with_reducible rfl))); (try simp only [Act.put, List.setIfInBounds_toArray, List.set_cons_zero, List.set_cons_succ])))
          obtain ⟨nx, hnx⟩ : ∃ nx, addS now (d sg.l (i : Int)) = nx := ⟨_, rfl⟩
          rw [hnx]
          have HNX := Lib.hid hnx
          have c3 : w9.cell? ⟨g, 9 + i * 6 + 3, none⟩ = some (.int .u64 (xk.F i).n) := (HQ9.out.cF HI.out (j := 3) (by decide)).trans (by simp only [upF_at]; rfl)
          have f3 := HQ9.out.fr (9 + i * 6 + 3)
          have HQA := Lib.hid (HQ9.out.setf HI.out (k := 3) (by decide) (u := .int .u64 nx) (f := { xk.F i with q := r, c := (xk.F i).c - sg.l, n := nx }) rfl (fun j hj hne => by
            simp only [upF_at]
            match j, hj with
            | 0, _ => rfl
            | 1, _ => rfl
            | 2, _ => rfl
            | 3, _ => exact absurd rfl hne
            | 4, _ => rfl
            | 5, _ => rfl) (by simp only [upF_at]) rfl)
          have HKA := Lib.hid (HK9.out.setCell (p := ⟨g, 9 + i * 6 + 3, none⟩) (.inl (.inl rfl)) (.int .u64 nx))
          have HWA := Lib.hid (HW9.out.far (p := ⟨g, 9 + i * 6 + 3, none⟩) HG.out.1 (.int .u64 nx))
          have HBA := Lib.hid (HB9.out.far (p := ⟨g, 9 + i * 6 + 3, none⟩) HG.out.2 (.int .u64 nx))
          clear hnx HQ9 HK9 HW9 HB9 HRR9 HSC
          refine wpSch_call rfl (by rfl) (fun K hK => ?_); go_simp
          refine hK.out _ _ ⟨HBA.out.cell 2, HQA.out.cf (j := 5) (by decide)⟩ (fun hHeld => ?_)
          clear hK K hHeld c3 f3
          generalize World.setCell w9 _ _ = wA at *
          (try simp only [Act.put, List.setIfInBounds_toArray, List.set_cons_zero, List.set_cons_succ])
          refine wpSch_nil ?_
          have HPS := Lib.hid (pull_stop HT.out)
          have b0 : wA.cell? ⟨B, 0, none⟩ = some (.int .i64 sg.s) := HBA.out.cell 0
          have b1 : wA.cell? ⟨B, 1, none⟩ = some (.int .u64 sg.f) := HBA.out.cell 1
          have b2 : wA.cell? ⟨B, 2, none⟩ = some (.int .i64 sg.l) := HBA.out.cell 2
          have b3 : wA.cell? ⟨B, 3, none⟩ = some (.int .u64 sg.t) := HBA.out.cell 3
          have b4 : wA.cell? ⟨B, 4, none⟩ = some (.bool sg.a) := HBA.out.cell 4
          have hb2 := HWA.out
          have e0 := hb2.cell 0; have e1 := hb2.cell 1; have e2 := hb2.cell 2; have e3 := hb2.cell 3; have e4 := hb2.cell 4
          simp only [List.getElem?_toArray, List.getElem?_cons_zero, List.getElem?_cons_succ] at e0 e1 e2 e3 e4
          have g0 := hb2.free 0; have g1 := hb2.free 1; have g2 := hb2.free 2; have g3 := hb2.free 3; have g4 := hb2.free 4
          have HDA : Hid (RQd w0 wA g w.heap.size v n o x { xk with F := upF xk.F i { xk.F i with c := (xk.F i).c - sg.l, n := addS now (d sg.l (i : Int)), q := r } }) := Lib.hid ⟨⟨_, _, n2, o2, HQA.out.seen rfl (fun j _ => by dsimp only; rw [upF_two, upF_two, HNX.out]) (fun _ _ => rfl) rfl rfl, HS6.out⟩, HOK.out.2 _ _ HT.out, HXC.out, HKA.out, HWA.out⟩
          clear hb2 HQA HKA HWA HBA
          go_wp2
          all_goals (
            try rw [Exit.noGoto_ret]
            refine bodyPost_ret (v := .tuple #[.agg #[.int .i64 sg.s, .int .u64 sg.f, .int .i64 sg.l, .int .u64 sg.t, .bool sg.a], .bool true]) (by rw [results_cell_tmp rfl]; go_simp) rfl ?_
            have hk5 := keep5 wA w.heap.size (.int .i64 sg.s) (.int .u64 sg.f) (.int .i64 sg.l) (.int .u64 sg.t) (.bool sg.a)
            have hpe := HP.out
            rw [HPS.out] at hpe
            cases hpe
            exact ⟨rfl, HDA.out.fin K0.out HS0.out HLT.out hk5⟩)
end
end Go.Proofs.YtnljjdfajmjdjaaGreat
