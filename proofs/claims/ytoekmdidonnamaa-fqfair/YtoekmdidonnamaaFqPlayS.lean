/-
  canterplay: a segment that may be, whatever comes. Conditions: none.
-/
import Derived.Test.YtoekmdidonnamaaFqAwake
namespace Go.Proofs.Ytoekmdidonnamaa
open Go.RowKit
set_option maxRecDepth 100000
set_option linter.unusedSimpArgs false
set_option linter.unusedVariables false

set_option maxRecDepth 100000 in
set_option maxHeartbeats 1000000 in
theorem plays_any (s : Sg) (w : World) : Calls Try.prog 12 #[s.v] w fun e w' => ∃ z l : Int, e = .returned (Sg.v ⟨z, s.f, l, s.t, s.a⟩) ∧ (0 ≤ z ∧ z < 8) ∧ (1 ≤ l ∧ l ≤ 65536) ∧ Keep (fun _ => False) w w' := by
  obtain ⟨z, f, l, t, a⟩ := s
  obtain ⟨n1, s1, p1, p2, p3, p4, p5, p6⟩ := mod_num z 8 (by decide) (by decide)
  obtain ⟨n2, s2, q1, q2, q3, q4, q5, q6⟩ := mod_num l 65536 (by decide) (by decide)
  have HZ := Lib.hid (show 0 ≤ n1 ∧ n1 < 8 from ⟨p5, p6⟩); have HL := Lib.hid (show 1 ≤ s2 ∧ s2 ≤ 65536 from ⟨by omega, by omega⟩)
  have K := Lib.hid (((Keep.refl (fun _ => False) w).alloc (.cells #[.int .i64 n1, .int .u64 f, .int .i64 s2, .int .u64 t, .bool a] 34)).alloc (.cells #[.int .i64 n1, .int .u64 f, .int .i64 s2, .int .u64 t, .bool a] 34))
  clear p3 p4 p5 p6 q4 q5 q6
  dsimp only [Sg.v]
  go_enter Try.func12, Try.ntmps12
  go_upto_region 3 with fail
  simp only [p1, p2, q1, q2, q3]
  clear p1 p2 q1 q2 q3
  trace_state
  go_wp2
  refine bodyPost_ret (v := .agg #[.int .i64 n1, .int .u64 f, .int .i64 s2, .int .u64 t, .bool a]) (by rw [results_cell1 rfl]; go_simp) rfl ?_
  exact ⟨n1, s2, rfl, HZ.out, HL.out, K.out⟩
end Go.Proofs.Ytoekmdidonnamaa
