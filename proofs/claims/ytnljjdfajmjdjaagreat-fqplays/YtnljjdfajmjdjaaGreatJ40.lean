/-
  canterref20.Time: the time of a flow with segments. Conditions: its segments lie in a row of their own.
  The document's queue (canterref20.Queue): how many segments, who waits the least, a flow put in a place. Conditions: it lies in memory as RQat says.
  The document's queue (canterref20.Queue): who waits the least. Conditions: it lies in memory as RQat says.
-/
import Derived.Test.YtnljjdfajmjdjaaGreatJ39
import Derived.Test.YtnljjdfajmjdjaaGreatJ08
import Derived.Test.YtnljjdfajmjdjaaGreatJ09
import Derived.Test.YtnljjdfajmjdjaaGreatJ10
import Derived.Test.YtnljjdfajmjdjaaGreatJ11
import Derived.Test.YtnljjdfajmjdjaaGreatJ30
import Derived.Test.YtnljjdfajmjdjaaGreatJ07
import Derived.LoopTactic
import Derived.Deep.MidRow
namespace Go.Proofs.YtnljjdfajmjdjaaGreat
open Go.RowKit
set_option maxRecDepth 100000
set_option linter.unusedSimpArgs false
set_option linter.unusedVariables false

set_option maxRecDepth 100000 in
set_option maxHeartbeats 1000000 in
theorem rtime_any (V : Value) (f : Fl) (s : Sg) (r : List Sg) (w : World) (hq : f.q = s :: r) (hV : (sgsT 44 V f.q).at_ w) :
    Calls Tryz.prog 35 #[Fl.v V f] w fun e w' => e = .returned (.int .u64 (timeF f)) ∧ Keep (fun _ => False) w w' := by
  obtain ⟨va, vc, rfl⟩ := sgs_shape hV
  obtain ⟨sb, rfl, _, _, _, c3, _⟩ := sgs_get (i := 0) (x := s) hV rfl (by rw [hq]; rfl)
  have ht : timeF f = max f.n s.t := by unfold timeF; rw [hq]; rfl
  have hlen : f.q.length = r.length + 1 := by rw [hq]; rfl
  rw [ht, hlen]
  obtain ⟨m, hmm⟩ : ∃ m, r.length + 1 = m := ⟨_, rfl⟩
  have hm : (0 : Int) < (m : Int) := by omega
  have hmn : 0 < m := by omega
  have hmz : ¬ m = 0 := by omega
  rw [hmm]
  clear hmm
  have hlt := lt_of_cell c3
  obtain ⟨fs, fc, fp, fn, fu, hf⟩ : ∃ fs fc fp fn fu, f.s = fs ∧ f.c = fc ∧ f.p = fp ∧ f.n = fn ∧ f.u = fu := ⟨_, _, _, _, _, rfl, rfl, rfl, rfl, rfl⟩
  dsimp only [Fl.v]
  rw [hf.1, hf.2.1, hf.2.2.1, hf.2.2.2.1, hf.2.2.2.2]
  generalize s.t = st at *
  obtain ⟨w0, hw0⟩ : ∃ w0, w0 = w.alloc (.cells #[.int .i64 fs, .int .i64 fc, .int .i64 fp, .int .u64 fn, .int .u64 fu, .slice (some ⟨sb, 0, none⟩) m vc] 34) := ⟨_, rfl⟩
  have kz : Keep (fun _ => False) w w0 := by rw [hw0]; exact (Keep.refl _ w).alloc _
  have hb : Whole w0 w.heap.size 34 #[.int .i64 fs, .int .i64 fc, .int .i64 fp, .int .u64 fn, .int .u64 fu, .slice (some ⟨sb, 0, none⟩) m vc] := by rw [hw0]; exact Whole.new w _ _
  have HK := Lib.hid kz
  have e1 : w0.drew.cell? ⟨w.heap.size, 3, none⟩ = some (.int .u64 fn) := hb.cell 3
  have e2 : w0.drew.cell? ⟨w.heap.size, 5, none⟩ = some (.slice (some ⟨sb, 0, none⟩) m vc) := hb.cell 5
  have e3 : w0.drew.cell? ⟨sb, 3, none⟩ = some (.int .u64 st) := (kz.cell (p := ⟨sb, 3, none⟩) hlt id).trans c3
  clear hq hV c3 ht hlen hf kz hb hlt
  go_enter Tryz.func35, Tryz.ntmps35
  go_upto_region 1 with fail
  rw [← hw0]
  clear hw0
  refine wp_region_sch (fun W => W.cell? ⟨w.heap.size, 3, none⟩ = some (.int .u64 fn) ∧ W.cell? ⟨w.heap.size, 5, none⟩ = some (.slice (some ⟨sb, 0, none⟩) m vc) ∧ W.cell? ⟨sb, 3, none⟩ = some (.int .u64 st)) [(true, 0), (true, 1), (true, 2), (true, 3), (true, 4), (true, 5), (true, 6), (true, 7), (true, 8)] (by kernel_rfl) (by kernel_rfl) (by kernel_rfl) (by kernel_rfl) ⟨e1, e2, e3⟩ ?_
  have HK2 := Lib.hid HK.out.drew
  clear e1 e2 e3 HK
  generalize w0.drew = w9 at *
  (repeat (refine wpSch_yes (v := ?_) rfl (fun _ _ _ h => h) (by rfl) ?_ ?_; rotate_left; (next => (intro w hSw; (try dsimp only at hSw); obtain ⟨hS1, hS2, hS3⟩ := hSw; go_simp; (try with_reducible rfl))); (try simp only [Act.put, List.setIfInBounds_toArray, List.set_cons_zero, List.set_cons_succ])))
  refine wpSch_nil ?_
  go_wp2
  all_goals
    go_ret
    exact ⟨ret_i (by first | omega | (split <;> omega)), HK2.out⟩
end Go.Proofs.YtnljjdfajmjdjaaGreat
namespace Go.Proofs.YtnljjdfajmjdjaaGreat
open Go.RowKit
set_option maxRecDepth 100000
set_option linter.unusedSimpArgs false
set_option linter.unusedVariables false

abbrev RQ (w : World) (g : Nat) (cs : Array Value) (v : Nat → Value) (n o : Value) (x : Qm) : Prop := RQat w 41 44 g cs v n o x
section
variable {w w' : World} {g : Nat} {cs : Array Value} {v : Nat → Value} {n o : Value} {x : Qm}
theorem RQat.cf (h : RQ w g cs v n o x) {j : Nat} (hj : j < 9) : w.cell? ⟨g, j, none⟩ = some (cfV x.c j) := (h.l.whole.cell _).trans (h.c.c j hj)
theorem RQat.cF (h : RQ w g cs v n o x) {i j : Nat} (hi : i < 8) (hj : j < 6) : w.cell? ⟨g, 9 + i * 6 + j, none⟩ = some (flV (v i) (x.F i) j) := (h.l.whole.cell _).trans (h.c.f i hi j hj)
theorem RQat.cT (h : RQ w g cs v n o x) {i : Nat} (hi : i < 8) : w.cell? ⟨g, 57 + i, none⟩ = some (.bool (x.T i)) := (h.l.whole.cell _).trans (h.c.t i hi)
theorem RQat.fr (h : RQ w g cs v n o x) (i : Nat) : w.frozen? ⟨g, i, none⟩ = false := h.l.whole.free i
theorem RQat.kept (h : RQ w g cs v n o x) (hk : Keep (fun _ => False) w w') : RQ w' g cs v n o x := h.keep hk (fun _ h => h.elim)
theorem RQat.shape (h : RQ w g cs v n o x) {i : Nat} (hi : i < 8) : ∃ a cap, v i = .slice a (x.F i).q.length cap := sgs_shape (h.q i hi)
set_option maxHeartbeats 1000000 in
theorem RQat.len (h : RQ w g cs v n o x) (hmax : lenQ x ≤ 512) :
    Calls Tryz.prog 55 #[.pointer (some ⟨g, 0, none⟩)] w fun e w' => e = .returned (.int .i64 (lenQ x : Int)) ∧ w = w' := by
  have H := Lib.hid h; have HM := Lib.hid hmax
  clear h hmax
  go_enter Tryz.func55, Tryz.ntmps55
  go_upto_region 3 with fail
  go_loopw [3, 4] (fun nv iv wR => ∃ k : Nat, k ≤ 8 ∧ nv = .int .i64 (lenK x k : Nat) ∧ iv = .int .i64 k ∧ wR = w) (fun _ iv _ => 8 - (intOf iv).toNat)
  case atStart => exact ⟨0, by omega, rfl, rfl, rfl⟩
  case round =>
    obtain ⟨k, hk, rfl, rfl, rfl⟩ := hrel
    by_cases hlt : k < 8
    · have hi1 : (k : Int) < 8 := by omega
      obtain ⟨a, cap, hv⟩ := H.out.shape hlt
      have c5 : wr.cell? ⟨g, 9 + k * 6 + 5, none⟩ = some (.slice a (x.F k).q.length cap) := (H.out.cF hlt (j := 5) (by omega)).trans (congrArg some hv)
      have hs := lenK_succ x k
      have hm2 : lenK x (k + 1) ≤ 512 := Nat.le_trans (lenK_le x (by omega)) HM.out
      obtain ⟨m, hm⟩ : ∃ m, lenK x k = m := ⟨_, rfl⟩
      obtain ⟨l, hl⟩ : ∃ l, (x.F k).q.length = l := ⟨_, rfl⟩
      rw [hm, hl] at hs
      rw [hl] at c5
      rw [hm]
      have HS := Lib.hid hs
      have hml : (m : Int) + (l : Int) ≤ 512 := by omega
      clear hs hm2 hm hl hv
      go_wp2
      go_roundw
      case rel => exact ⟨k + 1, by omega, by rw [HS.out]; go_num, by go_num, by first | rfl | trivial⟩
      case measure => simp [intOf]; omega
    · obtain rfl : k = 8 := by omega
      clear hlt hk
      rw [lenK_all]
      go_wp2
      go_ret
      exact ⟨rfl, rfl⟩
theorem Tryz.sizeFl : (Tryz.prog.info? 34).map (·.size) = some 6 := by kernel_rfl
abbrev flL (V : Value) (f : Fl) : List Value := [.int .i64 f.s, .int .i64 f.c, .int .i64 f.p, .int .u64 f.n, .int .u64 f.u, V]
theorem range_fl (h : RQ w g cs v n o x) {k : Nat} (hk : k < 8) : w.rangeAt g (9 + k * 6) (flL (v k) (x.F k)) := fun j u hu => by
  have hj : j < 6 := (List.getElem?_eq_some_iff.1 hu).1
  rw [h.cF hk hj, ← hu]
  match j, hj with
  | 0, _ => rfl
  | 1, _ => rfl
  | 2, _ => rfl
  | 3, _ => rfl
  | 4, _ => rfl
  | 5, _ => rfl
/-- A flow is read. -/
theorem exec_loadF (h : RQ w g cs v n o x) {k : Nat} (hk : k < 8) {op : Oper} {a : Act} (xop : Operand) (ho : op.op = .load 34 xop) (hx : a.eval xop = .pointer (some ⟨g, 9 + k * 6, none⟩)) :
    (execOp a.eval op).run Tryz.prog w = .ok (.value (Fl.v (v k) (x.F k))) w := by
  have hr : w.rangeAt g (9 + k * 6) [.int .i64 (x.F k).s, .int .i64 (x.F k).c, .int .i64 (x.F k).p, .int .u64 (x.F k).n, .int .u64 (x.F k).u, v k] := fun j u hu => by
    have hj : j < 6 := (List.getElem?_eq_some_iff.1 hu).1
    rw [h.cF hk hj, ← hu]
    match j, hj with
    | 0, _ => rfl
    | 1, _ => rfl
    | 2, _ => rfl
    | 3, _ => rfl
    | 4, _ => rfl
    | 5, _ => rfl
  unfold execOp
  simp only [ho, hx, run_loadVar_mid w g (9 + k * 6) 34 _ _ hr Tryz.underlying34 rfl Tryz.sizeFl, Instr.loadAt, Instr.sureAddr, Sem.run_bind, Sem.run_pure, Result.andThen_ok]
end
end Go.Proofs.YtnljjdfajmjdjaaGreat
namespace Go.Proofs.YtnljjdfajmjdjaaGreat
open Go.RowKit
set_option maxRecDepth 100000
set_option linter.unusedSimpArgs false
set_option linter.unusedVariables false

section
variable {w w' : World} {g : Nat} {cs : Array Value} {v : Nat → Value} {n o : Value} {x : Qm}
/-- The best of the first k, as a number. -/
def bestV (x : Qm) (k : Nat) : Int := match firstN x k with | none => -1 | some b => (b : Int)
set_option maxHeartbeats 8000000 in
theorem RQat.first (h : RQ w g cs v n o x) (hx : x.Ok) :
    Calls Tryz.prog 34 #[.pointer (some ⟨g, 0, none⟩)] w fun e w' => e = .returned (.int .i64 (bestV x 8)) ∧ Keep (fun _ => False) w w' := by
  have H := Lib.hid h; have HX := Lib.hid hx
  clear h hx
  go_enter Tryz.func34, Tryz.ntmps34
  go_upto_region 3 with fail
  go_loopw [3, 4] (fun bv iv wR => ∃ k : Nat, k ≤ 8 ∧ bv = .int .i64 (bestV x k) ∧ iv = .int .i64 k ∧ RQ wR g cs v n o x ∧ Keep (fun _ => False) w wR) (fun _ iv _ => 8 - (intOf iv).toNat)
  case atStart => exact ⟨0, by omega, rfl, rfl, H.out, Keep.refl _ _⟩
  case round =>
    obtain ⟨k, hk, rfl, rfl, hq, hkp⟩ := hrel
    have HQ := Lib.hid hq; have HKP := Lib.hid hkp
    clear hq hkp
    by_cases hlt : k < 8
    · have hi1 : (k : Int) < 8 := by omega
      have HK8 := Lib.hid hlt
      have ct := HQ.out.cT hlt
      have cp : wr.cell? ⟨g, 9 + k * 6 + 2, none⟩ = some (.int .i64 (x.F k).p) := HQ.out.cF hlt (j := 2) (by decide)
      by_cases hw : x.T k = true ∧ (x.F k).p = 3
      · cases hf : firstN x k with
        | none =>
          have hb0 : bestV x k = -1 := by unfold bestV; rw [hf]
          have HB : Hid (bestV x (k + 1) = (k : Int)) := Lib.hid (by unfold bestV; rw [show firstN x (k + 1) = some k by unfold firstN; rw [hf]; exact if_pos hw])
          rw [hb0]
          rw [hw.1] at ct
          have hp3 : ((x.F k).p == 3) = true := by simp [hw.2]
          have hT := hw.1
          clear hf hb0 hw
          go_upto_region 5 with fail
          rw [← hT] at ct
          skip
          refine wp_region_sch (fun W => W.cell? ⟨g, 57 + k, none⟩ = some (.bool (x.T k)) ∧ W.cell? ⟨g, 9 + k * 6 + 2, none⟩ = some (.int .i64 (x.F k).p)) [(true, 0), (true, 1), (true, 2), (true, 3), (true, 4), (true, 5), (true, 6), (true, 7), (true, 8), (true, 9), (true, 10), (true, 11), (true, 12), (true, 13), (true, 14), (true, 15), (true, 16), (true, 17), (true, 18), (true, 19), (true, 20), (true, 21), (true, 22), (true, 23), (true, 24), (true, 25), (true, 27), (true, 28), (true, 29), (true, 30), (true, 31), (true, 32), (false, 26), (false, 33), (true, 34), (true, 35), (true, 36)] (by kernel_rfl) (by kernel_rfl) (by kernel_rfl) (by kernel_rfl) ⟨ct, cp⟩ ?_
          have HQ2 := Lib.hid (HQ.out.kept (Keep.refl _ wr).drew); have HK2 := Lib.hid HKP.out.drew
          have HS2 : Hid (wr.drew.cell? ⟨g, 57 + k, none⟩ = some (.bool (x.T k)) ∧ wr.drew.cell? ⟨g, 9 + k * 6 + 2, none⟩ = some (.int .i64 (x.F k).p)) := Lib.hid ⟨ct, cp⟩
          clear ct cp HQ HKP
          generalize wr.drew = w2 at *
          (repeat (first | (refine wpSch_no rfl (fun _ _ _ h => h) (by rfl) ?_; (try simp only [Act.put, List.setIfInBounds_toArray, List.set_cons_zero, List.set_cons_succ])) | (refine wpSch_yes (v := ?_) rfl (fun _ _ _ h => h) (by rfl) ?_ ?_; rotate_left; (next => (intro w hSw; (try dsimp only at hSw); obtain ⟨hS1, hS2⟩ := hSw; go_simp; (try with_reducible rfl))); (try simp only [Act.put, List.setIfInBounds_toArray, List.set_cons_zero, List.set_cons_succ]))))
          refine wpSch_not rfl (by rfl) HS2.out ?_
          (try simp only [Act.put, List.setIfInBounds_toArray, List.set_cons_zero, List.set_cons_succ])
          refine wpSch_not rfl (by rfl) HS2.out ?_
          (try simp only [Act.put, List.setIfInBounds_toArray, List.set_cons_zero, List.set_cons_succ])
          (repeat (first | (refine wpSch_no rfl (fun _ _ _ h => h) (by rfl) ?_; (try simp only [Act.put, List.setIfInBounds_toArray, List.set_cons_zero, List.set_cons_succ])) | (refine wpSch_yes (v := ?_) rfl (fun _ _ _ h => h) (by rfl) ?_ ?_; rotate_left; (next => (intro w hSw; (try dsimp only at hSw); obtain ⟨hS1, hS2⟩ := hSw; go_simp; (try with_reducible rfl))); (try simp only [Act.put, List.setIfInBounds_toArray, List.set_cons_zero, List.set_cons_succ]))))
          refine wpSch_nil ?_
          go_wp2
          go_roundw
          case rel => exact ⟨k + 1, by omega, by rw [HB.out], by go_num, HQ2.out, HK2.out⟩
          case measure => simp [intOf]; omega
        | some b =>
          have hbk := firstN_some hf
          have hb0 : bestV x k = (b : Int) := by unfold bestV; rw [hf]
          have HB : Hid (bestV x (k + 1) = if timeF (x.F k) < timeF (x.F b) then (k : Int) else (b : Int)) := Lib.hid (by
            unfold bestV
            rw [show firstN x (k + 1) = if timeF (x.F k) < timeF (x.F b) then some k else some b by
              show (match firstN x k with | none => _ | some b => _) = _
              rw [hf]
              dsimp only
              by_cases ht : timeF (x.F k) < timeF (x.F b)
              · rw [if_pos ⟨hw, ht⟩, if_pos ht]
              · rw [if_neg (fun e => ht e.2), if_neg ht]]
            by_cases ht : timeF (x.F k) < timeF (x.F b)
            · simp only [if_pos ht]
            · simp only [if_neg ht])
          have HB8 : Hid (b < 8) := Lib.hid (by omega)
          have hb8 : (b : Int) < 8 := by omega
          have hbn : ¬ (b : Int) < 0 := by omega
          have hqk := (HX.out.is k hlt hw.1).wt hw.2
          have hqb := (HX.out.is b HB8.out hbk.2.1).wt hbk.2.2
          obtain ⟨sk, rk, hsk⟩ := List.exists_cons_of_ne_nil hqk
          obtain ⟨sb, rb, hsb⟩ := List.exists_cons_of_ne_nil hqb
          have HSK := Lib.hid hsk; have HSB := Lib.hid hsb
          rw [hb0]
          rw [hw.1] at ct
          have hp3 : ((x.F k).p == 3) = true := by simp [hw.2]
          have hT := hw.1
          clear hf hb0 hbk hqk hqb hsk hsb
          go_upto_region 5 with fail
          refine wp_region_sch (fun W => RQ W g cs v n o x) [(true, 0), (true, 1), (true, 2), (true, 3), (true, 4), (true, 5), (true, 6), (true, 7), (true, 8), (true, 9), (true, 10), (true, 11), (true, 12), (true, 13), (true, 14), (true, 15), (true, 16), (true, 17), (true, 18), (true, 19), (true, 20), (true, 21), (true, 22), (true, 23), (true, 24), (true, 25), (true, 27), (true, 28), (true, 29), (true, 30), (true, 31), (true, 32), (false, 26), (false, 33), (true, 34), (true, 35), (true, 36)] (by kernel_rfl) (by kernel_rfl) (by kernel_rfl) (by kernel_rfl) (HQ.out.kept (Keep.refl _ wr).drew) ?_
          have HQ2 := Lib.hid (HQ.out.kept (Keep.refl _ wr).drew); have HK2 := Lib.hid HKP.out.drew
          clear ct cp HQ HKP
          generalize wr.drew = w2 at *
          (repeat (refine wpSch_yes (v := ?_) rfl (fun _ _ _ h => h) (by rfl) ?_ ?_; rotate_left; (next => (intro w hSw; (try dsimp only at hSw); (have hS1 := hSw.cT HK8.out); (have hS4 : w.cell? ⟨g, 9 + k * 6 + 2, none⟩ = some (.int .i64 (x.F k).p) := hSw.cF (j := 2) HK8.out (by decide)); clear hSw; go_simp; (try with_reducible rfl))); (try simp only [Act.put, List.setIfInBounds_toArray, List.set_cons_zero, List.set_cons_succ])))
          refine wpSch_yes (v := Fl.v (v k) (x.F k)) rfl (fun _ _ _ h => h) (by rfl) (fun w hSw => exec_loadF hSw HK8.out (.tmp 33) rfl rfl) ?_
          (try simp only [Act.put, List.setIfInBounds_toArray, List.set_cons_zero, List.set_cons_succ])
          (repeat (refine wpSch_yes (v := ?_) rfl (fun _ _ _ h => h) (by rfl) ?_ ?_; rotate_left; (next => (intro w hSw; (try dsimp only at hSw); (have hS1 := hSw.cT HK8.out); (have hS4 : w.cell? ⟨g, 9 + k * 6 + 2, none⟩ = some (.int .i64 (x.F k).p) := hSw.cF (j := 2) HK8.out (by decide)); clear hSw; go_simp; (try with_reducible rfl))); (try simp only [Act.put, List.setIfInBounds_toArray, List.set_cons_zero, List.set_cons_succ])))
          refine wpSch_yes (v := Fl.v (v b) (x.F b)) rfl (fun _ _ _ h => h) (by rfl) (fun w hSw => exec_loadF hSw HB8.out (.tmp 40) rfl rfl) ?_
          (try simp only [Act.put, List.setIfInBounds_toArray, List.set_cons_zero, List.set_cons_succ])
          clear hp3 hT hw
          refine wpSch_call rfl (by rfl) (fun K' hK' => ?_); go_simp
          refine (rtime_any (v k) (x.F k) sk rk w2 HSK.out (HQ2.out.q k HK8.out)).mono ?_
          rintro e w3 ⟨rfl, k3⟩
          have HQ3 := Lib.hid (HQ2.out.kept k3); have HK3 := Lib.hid (HK2.out.trans k3)
          clear k3 HQ2 HK2
          refine hK'.out _ _ HQ3.out (fun hHeld => ?_)
          clear hK' K' hHeld
          (try simp only [Act.put, List.setIfInBounds_toArray, List.set_cons_zero, List.set_cons_succ])
          refine wpSch_call rfl (by rfl) (fun K' hK' => ?_); go_simp
          refine (rtime_any (v b) (x.F b) sb rb w3 HSB.out (HQ3.out.q b HB8.out)).mono ?_
          rintro e w4 ⟨rfl, k4⟩
          have HQ4 := Lib.hid (HQ3.out.kept k4); have HK4 := Lib.hid (HK3.out.trans k4)
          clear k4 HQ3 HK3
          refine hK'.out _ _ HQ4.out (fun hHeld => ?_)
          clear hK' K' hHeld
          (try simp only [Act.put, List.setIfInBounds_toArray, List.set_cons_zero, List.set_cons_succ])
          (repeat (refine wpSch_yes (v := ?_) rfl (fun _ _ _ h => h) (by rfl) ?_ ?_; rotate_left; (next => (intro w hSw; clear hSw; go_simp; (try with_reducible rfl))); (try simp only [Act.put, List.setIfInBounds_toArray, List.set_cons_zero, List.set_cons_succ])))
          refine wpSch_nil ?_
          obtain ⟨t1, ht1⟩ : ∃ t1, timeF (x.F k) = t1 := ⟨_, rfl⟩
          obtain ⟨t2, ht2⟩ : ∃ t2, timeF (x.F b) = t2 := ⟨_, rfl⟩
          rw [ht1, ht2] at HB
          rw [ht1, ht2]
          clear ht1 ht2
          by_cases htt : t1 < t2
          · rw [if_pos htt] at HB
            go_wp2
            go_roundw
            case rel => exact ⟨k + 1, by omega, by rw [HB.out], by go_num, HQ4.out, HK4.out⟩
            case measure => simp [intOf]; omega
          · rw [if_neg htt] at HB
            go_wp2
            go_roundw
            case rel => exact ⟨k + 1, by omega, by rw [HB.out], by go_num, HQ4.out, HK4.out⟩
            case measure => simp [intOf]; omega
      · have HB : Hid (bestV x (k + 1) = bestV x k) := Lib.hid (by
          unfold bestV
          rw [show firstN x (k + 1) = firstN x k by
            show (match firstN x k with | none => _ | some b => _) = _
            cases firstN x k with
            | none => exact if_neg hw
            | some b => exact if_neg (fun e => hw e.1)])
        have hw2 : x.T k = false ∨ (x.T k = true ∧ ((x.F k).p == 3) = false) := by
          cases ht : x.T k with
          | false => exact .inl rfl
          | true => exact .inr ⟨rfl, by simp; exact fun e => hw ⟨ht, e⟩⟩
        clear hw
        obtain ⟨bv, hbv⟩ : ∃ bv, bestV x k = bv := ⟨_, rfl⟩
        rw [hbv] at HB
        rw [hbv]
        clear hbv
        rcases hw2 with hT | ⟨hT, hp3⟩
        · go_upto_region 5 with fail
          skip
          refine wp_region_sch (fun W => W.cell? ⟨g, 57 + k, none⟩ = some (.bool (x.T k)) ∧ W.cell? ⟨g, 9 + k * 6 + 2, none⟩ = some (.int .i64 (x.F k).p)) [(true, 0), (true, 1), (true, 2), (true, 3), (true, 4), (true, 5), (true, 6), (true, 7), (true, 8), (true, 9), (true, 10), (true, 11), (true, 12), (true, 13), (true, 14), (true, 15), (true, 16), (true, 17), (true, 18), (true, 19), (true, 20), (true, 21), (true, 22), (true, 23), (true, 24), (true, 25), (true, 27), (true, 28), (true, 29), (true, 30), (true, 31), (true, 32), (false, 26), (false, 33), (true, 34), (true, 35), (true, 36)] (by kernel_rfl) (by kernel_rfl) (by kernel_rfl) (by kernel_rfl) ⟨ct, cp⟩ ?_
          have HQ2 := Lib.hid (HQ.out.kept (Keep.refl _ wr).drew); have HK2 := Lib.hid HKP.out.drew
          have HS2 : Hid (wr.drew.cell? ⟨g, 57 + k, none⟩ = some (.bool (x.T k)) ∧ wr.drew.cell? ⟨g, 9 + k * 6 + 2, none⟩ = some (.int .i64 (x.F k).p)) := Lib.hid ⟨ct, cp⟩
          clear ct cp HQ HKP
          generalize wr.drew = w2 at *
          (repeat (first | (refine wpSch_no rfl (fun _ _ _ h => h) (by rfl) ?_; (try simp only [Act.put, List.setIfInBounds_toArray, List.set_cons_zero, List.set_cons_succ])) | (refine wpSch_yes (v := ?_) rfl (fun _ _ _ h => h) (by rfl) ?_ ?_; rotate_left; (next => (intro w hSw; (try dsimp only at hSw); obtain ⟨hS1, hS2⟩ := hSw; go_simp; (try with_reducible rfl))); (try simp only [Act.put, List.setIfInBounds_toArray, List.set_cons_zero, List.set_cons_succ]))))
          refine wpSch_not rfl (by rfl) HS2.out ?_
          (try simp only [Act.put, List.setIfInBounds_toArray, List.set_cons_zero, List.set_cons_succ])
          refine wpSch_not rfl (by rfl) HS2.out ?_
          (try simp only [Act.put, List.setIfInBounds_toArray, List.set_cons_zero, List.set_cons_succ])
          (repeat (first | (refine wpSch_no rfl (fun _ _ _ h => h) (by rfl) ?_; (try simp only [Act.put, List.setIfInBounds_toArray, List.set_cons_zero, List.set_cons_succ])) | (refine wpSch_yes (v := ?_) rfl (fun _ _ _ h => h) (by rfl) ?_ ?_; rotate_left; (next => (intro w hSw; (try dsimp only at hSw); obtain ⟨hS1, hS2⟩ := hSw; go_simp; (try with_reducible rfl))); (try simp only [Act.put, List.setIfInBounds_toArray, List.set_cons_zero, List.set_cons_succ]))))
          refine wpSch_nil ?_
          go_wp2
          go_roundw
          case rel => exact ⟨k + 1, by omega, by rw [HB.out], by go_num, HQ2.out, HK2.out⟩
          case measure => simp [intOf]; omega
        · go_upto_region 5 with fail
          skip
          refine wp_region_sch (fun W => W.cell? ⟨g, 57 + k, none⟩ = some (.bool (x.T k)) ∧ W.cell? ⟨g, 9 + k * 6 + 2, none⟩ = some (.int .i64 (x.F k).p)) [(true, 0), (true, 1), (true, 2), (true, 3), (true, 4), (true, 5), (true, 6), (true, 7), (true, 8), (true, 9), (true, 10), (true, 11), (true, 12), (true, 13), (true, 14), (true, 15), (true, 16), (true, 17), (true, 18), (true, 19), (true, 20), (true, 21), (true, 22), (true, 23), (true, 24), (true, 25), (true, 27), (true, 28), (true, 29), (true, 30), (true, 31), (true, 32), (false, 26), (false, 33), (true, 34), (true, 35), (true, 36)] (by kernel_rfl) (by kernel_rfl) (by kernel_rfl) (by kernel_rfl) ⟨ct, cp⟩ ?_
          have HQ2 := Lib.hid (HQ.out.kept (Keep.refl _ wr).drew); have HK2 := Lib.hid HKP.out.drew
          have HS2 : Hid (wr.drew.cell? ⟨g, 57 + k, none⟩ = some (.bool (x.T k)) ∧ wr.drew.cell? ⟨g, 9 + k * 6 + 2, none⟩ = some (.int .i64 (x.F k).p)) := Lib.hid ⟨ct, cp⟩
          clear ct cp HQ HKP
          generalize wr.drew = w2 at *
          (repeat (first | (refine wpSch_no rfl (fun _ _ _ h => h) (by rfl) ?_; (try simp only [Act.put, List.setIfInBounds_toArray, List.set_cons_zero, List.set_cons_succ])) | (refine wpSch_yes (v := ?_) rfl (fun _ _ _ h => h) (by rfl) ?_ ?_; rotate_left; (next => (intro w hSw; (try dsimp only at hSw); obtain ⟨hS1, hS2⟩ := hSw; go_simp; (try with_reducible rfl))); (try simp only [Act.put, List.setIfInBounds_toArray, List.set_cons_zero, List.set_cons_succ]))))
          refine wpSch_not rfl (by rfl) HS2.out ?_
          (try simp only [Act.put, List.setIfInBounds_toArray, List.set_cons_zero, List.set_cons_succ])
          refine wpSch_not rfl (by rfl) HS2.out ?_
          (try simp only [Act.put, List.setIfInBounds_toArray, List.set_cons_zero, List.set_cons_succ])
          (repeat (first | (refine wpSch_no rfl (fun _ _ _ h => h) (by rfl) ?_; (try simp only [Act.put, List.setIfInBounds_toArray, List.set_cons_zero, List.set_cons_succ])) | (refine wpSch_yes (v := ?_) rfl (fun _ _ _ h => h) (by rfl) ?_ ?_; rotate_left; (next => (intro w hSw; (try dsimp only at hSw); obtain ⟨hS1, hS2⟩ := hSw; go_simp; (try with_reducible rfl))); (try simp only [Act.put, List.setIfInBounds_toArray, List.set_cons_zero, List.set_cons_succ]))))
          refine wpSch_nil ?_
          go_wp2
          go_roundw
          case rel => exact ⟨k + 1, by omega, by rw [HB.out], by go_num, HQ2.out, HK2.out⟩
          case measure => simp [intOf]; omega
    · obtain rfl : k = 8 := by omega
      clear hlt hk
      go_wp2
      go_ret
      exact ⟨rfl, HKP.out⟩
end
end Go.Proofs.YtnljjdfajmjdjaaGreat
