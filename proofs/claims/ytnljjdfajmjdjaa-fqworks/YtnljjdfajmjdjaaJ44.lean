/-
  canterref20.Time: the time of a flow with segments. Conditions: its segments lie in a row of their own.
-/
import Derived.Test.YtnljjdfajmjdjaaJ31
import Derived.Test.YtnljjdfajmjdjaaJ21
namespace Go.Proofs.Ytnljjdfajmjdjaa
open Go.RowKit
set_option maxRecDepth 100000
set_option linter.unusedSimpArgs false
set_option linter.unusedVariables false

set_option maxRecDepth 100000 in
set_option maxHeartbeats 1000000 in
theorem rtime_any (V : Value) (f : Fl) (s : Sg) (r : List Sg) (w : World) (hq : f.q = s :: r) (hV : (sgsT 34 V f.q).at_ w) :
    Calls Try.prog 24 #[Fl.v V f] w fun e w' => e = .returned (.int .u64 (timeF f)) ∧ Keep (fun _ => False) w w' := by
  obtain ⟨va, vc, rfl⟩ := sgs_shape hV
  obtain ⟨sb, rfl, _, _, _, c3, _⟩ := sgs_get (i := 0) (x := s) hV rfl (by rw [hq]; rfl)
  have ht : timeF f = max f.n s.t := by unfold timeF; rw [hq]; rfl
  have hlen : f.q.length = r.length + 1 := by rw [hq]; rfl
  rw [ht, hlen]
  obtain ⟨m, hmm⟩ : ∃ m, r.length + 1 = m := ⟨_, rfl⟩
  have hm : (0 : Int) < (m : Int) := by omega
  have hmn : 0 < m := by omega
  have hmz : ¬ m = 0 := by omega
  rw [hmm]
  clear hmm
  have hlt := lt_of_cell c3
  obtain ⟨fs, fc, fp, fn, fu, hf⟩ : ∃ fs fc fp fn fu, f.s = fs ∧ f.c = fc ∧ f.p = fp ∧ f.n = fn ∧ f.u = fu := ⟨_, _, _, _, _, rfl, rfl, rfl, rfl, rfl⟩
  dsimp only [Fl.v]
  rw [hf.1, hf.2.1, hf.2.2.1, hf.2.2.2.1, hf.2.2.2.2]
  generalize s.t = st at *
  obtain ⟨w0, hw0⟩ : ∃ w0, w0 = w.alloc (.cells #[.int .i64 fs, .int .i64 fc, .int .i64 fp, .int .u64 fn, .int .u64 fu, .slice (some ⟨sb, 0, none⟩) m vc] 44) := ⟨_, rfl⟩
  have kz : Keep (fun _ => False) w w0 := by rw [hw0]; exact (Keep.refl _ w).alloc _
  have hb : Whole w0 w.heap.size 44 #[.int .i64 fs, .int .i64 fc, .int .i64 fp, .int .u64 fn, .int .u64 fu, .slice (some ⟨sb, 0, none⟩) m vc] := by rw [hw0]; exact Whole.new w _ _
  have HK := Lib.hid kz
  have e1 : w0.drew.cell? ⟨w.heap.size, 3, none⟩ = some (.int .u64 fn) := hb.cell 3
  have e2 : w0.drew.cell? ⟨w.heap.size, 5, none⟩ = some (.slice (some ⟨sb, 0, none⟩) m vc) := hb.cell 5
  have e3 : w0.drew.cell? ⟨sb, 3, none⟩ = some (.int .u64 st) := (kz.cell (p := ⟨sb, 3, none⟩) hlt id).trans c3
  clear hq hV c3 ht hlen hf kz hb hlt
  go_enter Try.func24, Try.ntmps24
  go_upto_region 1 with fail
  rw [← hw0]
  clear hw0
  refine wp_region_sch (fun W => W.cell? ⟨w.heap.size, 3, none⟩ = some (.int .u64 fn) ∧ W.cell? ⟨w.heap.size, 5, none⟩ = some (.slice (some ⟨sb, 0, none⟩) m vc) ∧ W.cell? ⟨sb, 3, none⟩ = some (.int .u64 st)) [(true, 0), (true, 1), (true, 2), (true, 3), (true, 4), (true, 5), (true, 6), (true, 7), (true, 8)] (by kernel_rfl) (by kernel_rfl) (by kernel_rfl) (by kernel_rfl) ⟨e1, e2, e3⟩ ?_
  have HK2 := Lib.hid HK.out.drew
  clear e1 e2 e3 HK
  generalize w0.drew = w9 at *
  (repeat (refine wpSch_yes (v := ?_) rfl (fun _ _ _ h => h) (by rfl) ?_ ?_; rotate_left; (next => (intro w hSw; (try dsimp only at hSw); obtain ⟨hS1, hS2, hS3⟩ := hSw; go_simp; (try with_reducible rfl))); (try simp only [Act.put, List.setIfInBounds_toArray, List.set_cons_zero, List.set_cons_succ])))
  refine wpSch_nil ?_
  go_wp2
  all_goals
    go_ret
    exact ⟨ret_i (by first | omega | (split <;> omega)), HK2.out⟩
end Go.Proofs.Ytnljjdfajmjdjaa
