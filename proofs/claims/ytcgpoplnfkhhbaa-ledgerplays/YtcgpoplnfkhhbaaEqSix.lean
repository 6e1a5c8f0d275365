/-
  Counts held against each other by '==' and '!='. Conditions: none.
-/
import Derived.Test.YtcgpoplnfkhhbaaAwakeL
import Derived.ChangeKeysEq
namespace Go.Proofs.Ytcgpoplnfkhhbaa
open Go.RowKit

theorem Try.plainInt : Try.prog.plainKey 3 = true := by kernel_rfl
theorem Try.cellsInt : Try.prog.cellsOf 3 = 1 := by kernel_rfl
theorem Try.infoInt6 : (Try.prog.info? 3).map (fun i => i.size) = some 1 := by kernel_rfl
theorem Try.eqSix (y0 y1 y2 y3 y4 y5 : Int) (w : World) : (Op.equalIn 9999 26 (.agg #[.int .i64 y0, .int .i64 y1, .int .i64 y2, .int .i64 y3, .int .i64 y4, .int .i64 y5]) (.agg #[.int .i64 y0, .int .i64 y1, .int .i64 y2, .int .i64 y3, .int .i64 y4, .int .i64 y5])).run Try.prog w = .ok true w := by
  have hp : ∀ (i : Nat) (v : Value), (#[Value.int .i64 y0, .int .i64 y1, .int .i64 y2, .int .i64 y3, .int .i64 y4, .int .i64 y5] : Array Value)[i]? = some v → ∀ w, (part 3 #[Value.int .i64 y0, .int .i64 y1, .int .i64 y2, .int .i64 y3, .int .i64 y4, .int .i64 y5] i).run Try.prog w = .ok v w := fun i v h w => run_part_plain w Try.plainInt h
  have hq : ∀ (y : Int) (w : World), (Op.equalIn 9998 3 (.int .i64 y) (.int .i64 y)).run Try.prog w = .ok true w := fun y w => by
    rw [run_equalIn_int w 9997 3 .i64 .i64 y y Try.underlying3]; simp
  have p0 := hp 0 (.int .i64 y0) rfl; have p1 := hp 1 (.int .i64 y1) rfl; have p2 := hp 2 (.int .i64 y2) rfl; have p3 := hp 3 (.int .i64 y3) rfl; have p4 := hp 4 (.int .i64 y4) rfl; have p5 := hp 5 (.int .i64 y5) rfl
  clear hp
  obtain ⟨i0, hi0⟩ : ∃ i, Try.prog.info? 3 = some i := by
    cases h : Try.prog.info? 3 with
    | none => have := Try.infoInt6; rw [h] at this; cases this
    | some i => exact ⟨i, rfl⟩
  have h6 := run_equalIn_array (P := Try.prog) w 9998 #[.int .i64 y0, .int .i64 y1, .int .i64 y2, .int .i64 y3, .int .i64 y4, .int .i64 y5] #[.int .i64 y0, .int .i64 y1, .int .i64 y2, .int .i64 y3, .int .i64 y4, .int .i64 y5] Try.underlying26 hi0
  refine h6.trans ?_
  rw [Try.cellsInt, show List.range 6 = [0, 1, 2, 3, 4, 5] from rfl]
  simp only [Op.eqItems, Sem.run_bind, Nat.mul_one, p0, p1, p2, p3, p4, p5, hq, Result.andThen_ok, Sem.run_pure, Bool.not_true, Bool.false_eq_true, if_false]

theorem Try.eqCnt (x0 x1 x2 x3 x4 x5 x6 x7 : Int) (w : World) : (binOp .eql 28 (.agg #[.int .i64 x0, .int .i64 x1, .int .i64 x2, .int .i64 x3, .int .i64 x4, .int .i64 x5, .int .i64 x6, .int .i64 x7]) (.agg #[.int .i64 x0, .int .i64 x1, .int .i64 x2, .int .i64 x3, .int .i64 x4, .int .i64 x5, .int .i64 x6, .int .i64 x7])).run Try.prog w = .ok (.bool true) w := by
  have h6 := Try.eqSix
  go_simp
theorem Try.neCnt (x0 x1 x2 x3 x4 x5 x6 x7 : Int) (w : World) : (binOp .neq 28 (.agg #[.int .i64 x0, .int .i64 x1, .int .i64 x2, .int .i64 x3, .int .i64 x4, .int .i64 x5, .int .i64 x6, .int .i64 x7]) (.agg #[.int .i64 x0, .int .i64 x1, .int .i64 x2, .int .i64 x3, .int .i64 x4, .int .i64 x5, .int .i64 x6, .int .i64 x7])).run Try.prog w = .ok (.bool false) w := by
  have h6 := Try.eqSix
  go_simp
end Go.Proofs.Ytcgpoplnfkhhbaa
