/-
  The calls of package delay (Of, Lesser) answer what the document says, at all numbers of their kinds; the document's own (package canterref01: Delay, Lesser) likewise; no block is turned. Conditions: none beyond that the arguments are numbers of their kind.
-/
import Derived.Test.YtoekmdidonnamaaWide
import Derived.Test.YtoekmdidonnamaaWideRef
import Derived.Test.YtoekmdidonnamaaNum
import Derived.Test.YtoekmdidonnamaaChecked
import Derived.WalkSpells
import Derived.LoopTactic
import Derived.LoopN
set_option linter.unusedVariables false
namespace Go.Proofs.Ytoekmdidonnamaa
open Go.RowKit
set_option maxRecDepth 100000

/-- The lesser one of two. -/
def lo2 (a b : Int) : Int := if a ≤ b then a else b
/-- How long s bytes take at r. -/
def delV (s r : Int) : Int := if s < 1 then 0 else if r = 18446744073709551615 then 0 else lo2 (mulDivV s 1000000000 r) 1000000000
/-- A rate, of which 0 counts as Unlimited. -/
def unR (r : Int) : Int := if r = 0 then 18446744073709551615 else r
def lesV (a b : Int) : Int := lo2 (unR a) (unR b)

theorem delV_none {s : Int} (h : s < 1) (r : Int) : delV s r = 0 := if_pos h
theorem delV_un (s : Int) : delV s 18446744073709551615 = 0 := by unfold delV; split <;> rfl
theorem delV_at {s r : Int} (h : 1 ≤ s) (hr : r ≠ 18446744073709551615) : delV s r = lo2 (mulDivV s 1000000000 r) 1000000000 := by unfold delV; rw [if_neg (by omega), if_neg hr]
theorem delV_bd {r : Int} (s : Int) (hr : 0 ≤ r) : 0 ≤ delV s r ∧ delV s r ≤ 1000000000 := by
  unfold delV
  split
  · omega
  · split
    · omega
    · have := mulDivV_bd (a := s) (b := 1000000000) (c := r) (by omega) (by decide) hr
      unfold lo2; split <;> omega
theorem unR_bd {r : Int} (h0 : 0 ≤ r) (h1 : r ≤ 18446744073709551615) : 1 ≤ unR r ∧ unR r ≤ 18446744073709551615 := by unfold unR; split <;> omega
theorem lesV_bd {a b : Int} (a0 : 0 ≤ a) (a1 : a ≤ 18446744073709551615) (b0 : 0 ≤ b) (b1 : b ≤ 18446744073709551615) : 1 ≤ lesV a b ∧ lesV a b ≤ 18446744073709551615 := by
  have := unR_bd a0 a1
  have := unR_bd b0 b1
  unfold lesV lo2; split <;> omega

set_option maxHeartbeats 400000 in
theorem del_any (s r : Int) (s1 : s ≤ 9223372036854775807) (r0 : 0 ≤ r) (r1 : r ≤ 18446744073709551615) (w : World) :
    Calls Try.prog 61 #[.int .i64 s, .int .u64 r] w fun e w' => e = .returned (.int .u64 (delV s r)) ∧ w = w' := by
  by_cases hs : s < 1
  · have HE := Lib.hid (delV_none hs r)
    go_enter Try.func61, Try.ntmps61
    go_wp2
    go_ret
    exact ⟨ret_int HE.out.symm, rfl⟩
  · have hs1 : 1 ≤ s := by omega
    by_cases hr : r = 18446744073709551615
    · subst hr
      have HE := Lib.hid (delV_un s)
      go_enter Try.func61, Try.ntmps61
      go_wp2
      go_ret
      exact ⟨ret_int HE.out.symm, rfl⟩
    · have HE := Lib.hid (delV_at hs1 hr)
      have hrb : (r == 18446744073709551615) = false := by rw [beq_eq_false_iff_ne]; exact hr
      have hw : IntKind.u64.wrap s = s := by rw [IntKind.wrap_u64]; omega
      clear hr
      go_enter Try.func61, Try.ntmps61
      go_wp2_with fail
      refine (wmuldiv_any _ _ _ (by omega) (by omega) (by decide) (by decide) r0 r1 _).mono ?_
      rintro e w' ⟨rfl, rfl⟩
      generalize mulDivV s 1000000000 r = m at *
      rcases Int.lt_trichotomy m 1000000000 with h | h | h
      · have HV : Hid (lo2 m 1000000000 = m) := Lib.hid (by unfold lo2; rw [if_pos (by omega)])
        go_wp2
        go_ret
        exact ⟨ret_int (HE.out.trans HV.out).symm, rfl⟩
      · subst h
        have HV : Hid (lo2 1000000000 1000000000 = 1000000000) := Lib.hid rfl
        go_wp2
        go_ret
        exact ⟨ret_int (HE.out.trans HV.out).symm, rfl⟩
      · have HV : Hid (lo2 m 1000000000 = 1000000000) := Lib.hid (by unfold lo2; rw [if_neg (by omega)])
        go_wp2
        go_ret
        exact ⟨ret_int (HE.out.trans HV.out).symm, rfl⟩

set_option maxHeartbeats 400000 in
theorem rdel_any (s r : Int) (s1 : s ≤ 9223372036854775807) (r0 : 0 ≤ r) (r1 : r ≤ 18446744073709551615) (w : World) :
    Calls Try.prog 15 #[.int .i64 s, .int .u64 r] w fun e w' => e = .returned (.int .u64 (delV s r)) ∧ w = w' := by
  by_cases hs : s < 1
  · have HE := Lib.hid (delV_none hs r)
    go_enter Try.func15, Try.ntmps15
    go_wp2
    go_ret
    exact ⟨ret_int HE.out.symm, rfl⟩
  · have hs1 : 1 ≤ s := by omega
    by_cases hr : r = 18446744073709551615
    · subst hr
      have HE := Lib.hid (delV_un s)
      go_enter Try.func15, Try.ntmps15
      go_wp2
      go_ret
      exact ⟨ret_int HE.out.symm, rfl⟩
    · have HE := Lib.hid (delV_at hs1 hr)
      have hrb : (r == 18446744073709551615) = false := by rw [beq_eq_false_iff_ne]; exact hr
      have hw : IntKind.u64.wrap s = s := by rw [IntKind.wrap_u64]; omega
      clear hr
      go_enter Try.func15, Try.ntmps15
      go_wp2_with fail
      refine (rmuldiv_any _ _ _ (by omega) (by omega) (by decide) (by decide) r0 r1 _).mono ?_
      rintro e w' ⟨rfl, rfl⟩
      generalize mulDivV s 1000000000 r = m at *
      rcases Int.lt_trichotomy m 1000000000 with h | h | h
      · have HV : Hid (lo2 m 1000000000 = m) := Lib.hid (by unfold lo2; rw [if_pos (by omega)])
        go_wp2
        go_ret
        exact ⟨ret_int (HE.out.trans HV.out).symm, rfl⟩
      · subst h
        have HV : Hid (lo2 1000000000 1000000000 = 1000000000) := Lib.hid rfl
        go_wp2
        go_ret
        exact ⟨ret_int (HE.out.trans HV.out).symm, rfl⟩
      · have HV : Hid (lo2 m 1000000000 = 1000000000) := Lib.hid (by unfold lo2; rw [if_neg (by omega)])
        go_wp2
        go_ret
        exact ⟨ret_int (HE.out.trans HV.out).symm, rfl⟩

theorem Try.lidx0 (v0 v1 : Value) (w : World) : (Instr.index 137 (.agg #[v0, v1]) (.int .i64 0)).run Try.prog w = .ok v0 w := by kernel_rfl
theorem Try.lidx1 (v0 v1 : Value) (w : World) : (Instr.index 137 (.agg #[v0, v1]) (.int .i64 1)).run Try.prog w = .ok v1 w := by kernel_rfl
set_option maxHeartbeats 1000000 in
theorem les_any (a b : Int) (a0 : 0 ≤ a) (a1 : a ≤ 18446744073709551615) (b0 : 0 ≤ b) (b1 : b ≤ 18446744073709551615) (w : World) :
    Calls Try.prog 62 #[.int .u64 a, .int .u64 b] w fun e w' => e = .returned (.int .u64 (lesV a b)) ∧ w = w' := by
  by_cases ha : a = 0
  · subst ha
    by_cases hb : b = 0
    · subst hb
      have HE : Hid (lesV 0 0 = 18446744073709551615) := Lib.hid rfl
      have hx0 := Try.lidx0; have hx1 := Try.lidx1
      go_enter Try.func62, Try.ntmps62
      go_wp2
      go_step3
      go_wp2
      go_step3
      go_wp2
      refine wp_loop_rounds 3 ?_
      rw [rounds_succ]
      go_wp2
      rw [rounds_succ]
      go_wp2
      rw [rounds_succ]
      go_wp2
      try rw [Exit.noGoto_ret]
      go_ret
      exact ⟨ret_int HE.out.symm, rfl⟩
    · have HE : Hid (lesV 0 b = b) := Lib.hid (by unfold lesV lo2 unR; rw [if_pos rfl, if_neg hb]; split <;> omega)
      have hbb : (b == 0) = false := by rw [beq_eq_false_iff_ne]; exact hb
      clear hb
      rcases Int.lt_or_eq_of_le b1 with h | h
      · skip
        have hx0 := Try.lidx0; have hx1 := Try.lidx1
        go_enter Try.func62, Try.ntmps62
        go_wp2
        go_step3
        go_wp2
        go_step3
        go_wp2
        refine wp_loop_rounds 3 ?_
        rw [rounds_succ]
        go_wp2
        rw [rounds_succ]
        go_wp2
        rw [rounds_succ]
        go_wp2
        try rw [Exit.noGoto_ret]
        go_ret
        exact ⟨ret_int HE.out.symm, rfl⟩
      · subst h
        have hx0 := Try.lidx0; have hx1 := Try.lidx1
        go_enter Try.func62, Try.ntmps62
        go_wp2
        go_step3
        go_wp2
        go_step3
        go_wp2
        refine wp_loop_rounds 3 ?_
        rw [rounds_succ]
        go_wp2
        rw [rounds_succ]
        go_wp2
        rw [rounds_succ]
        go_wp2
        try rw [Exit.noGoto_ret]
        go_ret
        exact ⟨ret_int HE.out.symm, rfl⟩
  · have hab : (a == 0) = false := by rw [beq_eq_false_iff_ne]; exact ha
    by_cases hb : b = 0
    · subst hb
      have HE : Hid (lesV a 0 = a) := Lib.hid (by unfold lesV lo2 unR; rw [if_pos rfl, if_neg ha]; split <;> omega)
      clear ha
      rcases Int.lt_or_eq_of_le a1 with h | h
      · skip
        have hx0 := Try.lidx0; have hx1 := Try.lidx1
        go_enter Try.func62, Try.ntmps62
        go_wp2
        go_step3
        go_wp2
        go_step3
        go_wp2
        refine wp_loop_rounds 3 ?_
        rw [rounds_succ]
        go_wp2
        rw [rounds_succ]
        go_wp2
        rw [rounds_succ]
        go_wp2
        try rw [Exit.noGoto_ret]
        go_ret
        exact ⟨ret_int HE.out.symm, rfl⟩
      · subst h
        have hx0 := Try.lidx0; have hx1 := Try.lidx1
        go_enter Try.func62, Try.ntmps62
        go_wp2
        go_step3
        go_wp2
        go_step3
        go_wp2
        refine wp_loop_rounds 3 ?_
        rw [rounds_succ]
        go_wp2
        rw [rounds_succ]
        go_wp2
        rw [rounds_succ]
        go_wp2
        try rw [Exit.noGoto_ret]
        go_ret
        exact ⟨ret_int HE.out.symm, rfl⟩
    · have hbb : (b == 0) = false := by rw [beq_eq_false_iff_ne]; exact hb
      have hE : lesV a b = if a ≤ b then a else b := by unfold lesV lo2 unR; rw [if_neg ha, if_neg hb]
      clear ha hb
      rcases Int.lt_or_eq_of_le a1 with h | h
      · rcases Int.lt_trichotomy a b with g | g | g
        · have HE : Hid (lesV a b = a) := Lib.hid (hE.trans (if_pos (by omega)))
          have hx0 := Try.lidx0; have hx1 := Try.lidx1
          go_enter Try.func62, Try.ntmps62
          go_wp2
          go_step3
          go_wp2
          go_step3
          go_wp2
          refine wp_loop_rounds 3 ?_
          rw [rounds_succ]
          go_wp2
          rw [rounds_succ]
          go_wp2
          rw [rounds_succ]
          go_wp2
          try rw [Exit.noGoto_ret]
          go_ret
          exact ⟨ret_int HE.out.symm, rfl⟩
        · subst g
          have HE : Hid (lesV a a = a) := Lib.hid (hE.trans (if_pos (by omega)))
          have hx0 := Try.lidx0; have hx1 := Try.lidx1
          go_enter Try.func62, Try.ntmps62
          go_wp2
          go_step3
          go_wp2
          go_step3
          go_wp2
          refine wp_loop_rounds 3 ?_
          rw [rounds_succ]
          go_wp2
          rw [rounds_succ]
          go_wp2
          rw [rounds_succ]
          go_wp2
          try rw [Exit.noGoto_ret]
          go_ret
          exact ⟨ret_int HE.out.symm, rfl⟩
        · have HE : Hid (lesV a b = b) := Lib.hid (hE.trans (if_neg (by omega)))
          have hx0 := Try.lidx0; have hx1 := Try.lidx1
          go_enter Try.func62, Try.ntmps62
          go_wp2
          go_step3
          go_wp2
          go_step3
          go_wp2
          refine wp_loop_rounds 3 ?_
          rw [rounds_succ]
          go_wp2
          rw [rounds_succ]
          go_wp2
          rw [rounds_succ]
          go_wp2
          try rw [Exit.noGoto_ret]
          go_ret
          exact ⟨ret_int HE.out.symm, rfl⟩
      · subst h
        rcases Int.lt_or_eq_of_le b1 with g | g
        · have HE : Hid (lesV 18446744073709551615 b = b) := Lib.hid (hE.trans (if_neg (by omega)))
          have hx0 := Try.lidx0; have hx1 := Try.lidx1
          go_enter Try.func62, Try.ntmps62
          go_wp2
          go_step3
          go_wp2
          go_step3
          go_wp2
          refine wp_loop_rounds 3 ?_
          rw [rounds_succ]
          go_wp2
          rw [rounds_succ]
          go_wp2
          rw [rounds_succ]
          go_wp2
          try rw [Exit.noGoto_ret]
          go_ret
          exact ⟨ret_int HE.out.symm, rfl⟩
        · subst g
          have HE : Hid (lesV 18446744073709551615 18446744073709551615 = 18446744073709551615) := Lib.hid rfl
          have hx0 := Try.lidx0; have hx1 := Try.lidx1
          go_enter Try.func62, Try.ntmps62
          go_wp2
          go_step3
          go_wp2
          go_step3
          go_wp2
          refine wp_loop_rounds 3 ?_
          rw [rounds_succ]
          go_wp2
          rw [rounds_succ]
          go_wp2
          rw [rounds_succ]
          go_wp2
          try rw [Exit.noGoto_ret]
          go_ret
          exact ⟨ret_int HE.out.symm, rfl⟩

set_option maxHeartbeats 1000000 in
theorem rles_any (a b : Int) (a0 : 0 ≤ a) (a1 : a ≤ 18446744073709551615) (b0 : 0 ≤ b) (b1 : b ≤ 18446744073709551615) (w : World) :
    Calls Try.prog 16 #[.int .u64 a, .int .u64 b] w fun e w' => e = .returned (.int .u64 (lesV a b)) ∧ w = w' := by
  by_cases ha : a = 0
  · subst ha
    by_cases hb : b = 0
    · subst hb
      have HE : Hid (lesV 0 0 = 18446744073709551615) := Lib.hid rfl
      go_enter Try.func16, Try.ntmps16
      go_wp2
      go_ret
      exact ⟨ret_int HE.out.symm, rfl⟩
    · have HE : Hid (lesV 0 b = b) := Lib.hid (by unfold lesV lo2 unR; rw [if_pos rfl, if_neg hb]; split <;> omega)
      have hbb : (b == 0) = false := by rw [beq_eq_false_iff_ne]; exact hb
      clear hb
      rcases Int.lt_or_eq_of_le b1 with h | h
      · skip
        go_enter Try.func16, Try.ntmps16
        go_wp2
        go_ret
        exact ⟨ret_int HE.out.symm, rfl⟩
      · subst h
        go_enter Try.func16, Try.ntmps16
        go_wp2
        go_ret
        exact ⟨ret_int HE.out.symm, rfl⟩
  · have hab : (a == 0) = false := by rw [beq_eq_false_iff_ne]; exact ha
    by_cases hb : b = 0
    · subst hb
      have HE : Hid (lesV a 0 = a) := Lib.hid (by unfold lesV lo2 unR; rw [if_pos rfl, if_neg ha]; split <;> omega)
      clear ha
      rcases Int.lt_or_eq_of_le a1 with h | h
      · skip
        go_enter Try.func16, Try.ntmps16
        go_wp2
        go_ret
        exact ⟨ret_int HE.out.symm, rfl⟩
      · subst h
        go_enter Try.func16, Try.ntmps16
        go_wp2
        go_ret
        exact ⟨ret_int HE.out.symm, rfl⟩
    · have hbb : (b == 0) = false := by rw [beq_eq_false_iff_ne]; exact hb
      have hE : lesV a b = if a ≤ b then a else b := by unfold lesV lo2 unR; rw [if_neg ha, if_neg hb]
      clear ha hb
      rcases Int.lt_trichotomy a b with g | g | g
      · have HE : Hid (lesV a b = a) := Lib.hid (hE.trans (if_pos (by omega)))
        go_enter Try.func16, Try.ntmps16
        go_wp2
        go_ret
        exact ⟨ret_int HE.out.symm, rfl⟩
      · subst g
        have HE : Hid (lesV a a = a) := Lib.hid (hE.trans (if_pos (by omega)))
        go_enter Try.func16, Try.ntmps16
        go_wp2
        go_ret
        exact ⟨ret_int HE.out.symm, rfl⟩
      · have HE : Hid (lesV a b = b) := Lib.hid (hE.trans (if_neg (by omega)))
        go_enter Try.func16, Try.ntmps16
        go_wp2
        go_ret
        exact ⟨ret_int HE.out.symm, rfl⟩

/-! ### with the answer given -/
theorem del_is {s r v : Int} (e : delV s r = v) (s1 : s ≤ 9223372036854775807) (r0 : 0 ≤ r) (r1 : r ≤ 18446744073709551615) (w : World) :
    Calls Try.prog 61 #[.int .i64 s, .int .u64 r] w fun e w' => e = .returned (.int .u64 v) ∧ w = w' := e ▸ del_any s r s1 r0 r1 w
theorem les_is {a b v : Int} (e : lesV a b = v) (a0 : 0 ≤ a) (a1 : a ≤ 18446744073709551615) (b0 : 0 ≤ b) (b1 : b ≤ 18446744073709551615) (w : World) :
    Calls Try.prog 62 #[.int .u64 a, .int .u64 b] w fun e w' => e = .returned (.int .u64 v) ∧ w = w' := e ▸ les_any a b a0 a1 b0 b1 w
end Go.Proofs.Ytoekmdidonnamaa
