/-
  Layer 20's plain config, and what a program that does nothing does not answer. Conditions: none.
-/
import Derived.Test.YtoekmdidonnamaaFqOps
import Derived.Test.YtoekmdidonnamaaQmWays
namespace Go.Proofs.Ytoekmdidonnamaa
open Go.RowKit
set_option maxRecDepth 100000
set_option linter.unusedSimpArgs false
set_option linter.unusedVariables false

theorem plain_okC : plainC.Ok := by decide
theorem Room.nth {wB w : World} {L : List Thing} (h : Room wB w L) (i : Nat) {t : Thing} (e : L[i]? = some t) : t.at_ w := h.all t (List.mem_of_getElem? e)
/-- int(uint(a) % m), and one more. -/
theorem mod_num (a m : Int) (hm : 0 < m) (hb : m ≤ 1000000) : ∃ n s : Int, (IntKind.u64.wrap a).tmod m = n ∧ wrap64 n = n ∧ wrap64 (1 + n) = s ∧ s = 1 + n ∧ 0 ≤ n ∧ n < m := by
  have h0 : 0 ≤ IntKind.u64.wrap a := by rw [IntKind.wrap_u64]; exact Int.emod_nonneg _ (by decide)
  have h1 := Int.emod_nonneg (IntKind.u64.wrap a) (b := m) (by omega)
  have h2 := Int.emod_lt_of_pos (IntKind.u64.wrap a) hm
  refine ⟨(IntKind.u64.wrap a) % m, 1 + (IntKind.u64.wrap a) % m, Int.tmod_eq_emod_of_nonneg h0, ?_, ?_, rfl, h1, h2⟩
  · generalize (IntKind.u64.wrap a) % m = n at *
    unfold wrap64; omega
  · generalize (IntKind.u64.wrap a) % m = n at *
    unfold wrap64; omega
/-! ### No pull turns the config -/
def Turn.cf : Turn → Cf
  | .on y => y.c
  | .stop y _ => y.c
theorem turn_c (d : Int → Int → Int) (x : Qm) (now : Int) : (turnQ d x now).cf = x.c := by
  unfold turnQ
  dsimp only
  by_cases h1 : headB x.N x.O = false
  · rw [if_pos h1]; rfl
  · rw [if_neg h1]
    by_cases h2 : (x.F (headS x.N x.O).toNat).c ≤ 0
    · rw [if_pos h2]; rfl
    · rw [if_neg h2]
      cases (x.F (headS x.N x.O).toNat).q with
      | nil =>
        dsimp only
        by_cases h3 : headF x.N x.O = true ∧ x.O ≠ []
        · rw [if_pos h3]; rfl
        · rw [if_neg h3]; rfl
      | cons s r =>
        dsimp only
        by_cases h3 : now < timeF (x.F (headS x.N x.O).toNat)
        · rw [if_pos h3]; rfl
        · rw [if_neg h3]; rfl
theorem run_c (d : Int → Int → Int) (now : Int) : ∀ (k : Nat) (x : Qm), (runQ d now k x).1.c = x.c
  | 0, _ => rfl
  | k + 1, x => by
    unfold runQ
    have h := turn_c d x now
    cases ht : turnQ d x now with
    | on y => rw [ht] at h; exact (run_c d now k y).trans h
    | stop y s => rw [ht] at h; exact h
theorem wake_c (now : Int) : ∀ (k : Nat) (x : Qm), (wakeN now k x).c = x.c
  | 0, _ => rfl
  | k + 1, x => by
    unfold wakeN
    split
    · rfl
    · split
      · exact (wake_c now k _).trans rfl
      · rfl
theorem deq_c {d : Int → Int → Int} {x y : Qm} {now : Int} {o : Option Sg} (h : deqQ d x now = (y, o)) : y.c = x.c := by
  have h1 : (deqQ d x now).1.c = x.c := (run_c d now _ _).trans (wake_c now 8 x)
  rw [h] at h1
  exact h1
theorem dog_opt (x : Qm) : dogV x = (dogQ x).getD 0 ∧ dogB x = (dogQ x).isSome := by
  unfold dogV dogB dogQ
  cases firstQ x with
  | none => exact ⟨rfl, rfl⟩
  | some i => exact ⟨rfl, rfl⟩
def zeroC : Cf := ⟨0, 0, 0, 0, 0, 0, false, 0, 0⟩
theorem zero_noC : ¬ zeroC.Ok := by decide
def plainV : Array Value := #[.int .i64 3000, .int .i64 15000, .int .i64 100, .int .i64 50, .int .u64 10000000000, .int .u64 0, .bool false, .int .i64 100000, .int .i64 1000]
theorem plain_any (w : World) : Calls Try.prog 22 #[] w fun e w' => e = .returned (.agg #[.int .i64 3000, .int .i64 15000, .int .i64 100, .int .i64 50, .int .u64 10000000000, .int .u64 0, .bool false, .int .i64 100000, .int .i64 1000]) ∧ Keep (fun _ => False) w w' := by
  have K := Lib.hid ((Keep.refl (fun _ => False) w).alloc (.cells #[.int .i64 3000, .int .i64 15000, .int .i64 100, .int .i64 50, .int .u64 10000000000, .int .u64 0, .bool false, .int .i64 100000, .int .i64 1000] 24))
  go_enter Try.func22, Try.ntmps22
  go_wp2
  refine bodyPost_ret (v := .agg #[.int .i64 3000, .int .i64 15000, .int .i64 100, .int .i64 50, .int .u64 10000000000, .int .u64 0, .bool false, .int .i64 100000, .int .i64 1000]) (by rw [results_cell1 rfl]; go_simp) rfl ?_
  exact ⟨rfl, K.out⟩

def sgA : Sg := ⟨1, 0, 100, 0, false⟩
def xA : Qm := enqQ (newQ plainC) sgA 5
theorem a_enq : enqV (newQ plainC) sgA 5 = 0 ∧ enqE sgA = 0 := ⟨by decide, by decide⟩
theorem a_deq : ∃ y, deqQ (dlyQ [] xA.c.r) xA 5 = (y, some sgA) ∧ lenQ y = 0 := ⟨_, by rfl, by rfl⟩
set_option maxRecDepth 100000 in
set_option maxHeartbeats 2000000 in
theorem awakef_any (w : World) : Calls Try.prog 9 #[] w fun e w' => e = .returned (.bool true) ∧ Keep (fun _ => False) w w' := by
  go_enter Try.func9, Try.ntmps9
  go_wp2_with fail
  refine (plain_any w).mono ?_
  rintro e w1 ⟨rfl, k1⟩
  go_wp2_with fail
  refine (((Room.begin w).kept k1).fqnew plainC plain_okC).mono ?_
  rintro e w2 ⟨g, own, rfl, hr2⟩
  have R2 := Lib.hid hr2
  clear k1 hr2
  go_wp2_with fail
  refine (R2.out.fqenq sgA 5 ⟨by decide, by decide⟩ ⟨by decide, by decide⟩ ⟨by decide, by decide⟩).mono ?_
  rintro e w3 ⟨rfl, own3, hr3⟩
  rw [a_enq.1, a_enq.2]
  have R3 : Hid (Room w w3 (fqT g own3 xA :: [])) := Lib.hid hr3
  clear hr3
  obtain ⟨y, hy, hl⟩ := a_deq
  have HY := Lib.hid hy; have HL := Lib.hid hl
  clear hy hl
  go_wp2_with fail
  refine (R3.out.fqdeq0 5 ⟨by decide, by decide⟩ HY.out).mono ?_
  rintro e w4 ⟨rfl, own4, hr4⟩
  have R4 := Lib.hid hr4
  clear hr4
  dsimp only [Option.getD, Option.isSome, sgA, Sg.v]
  go_wp2_with fail
  refine ((R4.out.box1 34 #[.int .i64 1, .int .u64 0, .int .i64 100, .int .u64 0, .bool false]).fqlen).mono ?_
  rintro e w5 ⟨rfl, hr5⟩
  rw [HL.out]
  have R5 := Lib.hid hr5
  clear hr5
  go_wp2
  go_ret
  exact ⟨rfl, Keep.of_below R5.out.bel⟩
end Go.Proofs.Ytoekmdidonnamaa
