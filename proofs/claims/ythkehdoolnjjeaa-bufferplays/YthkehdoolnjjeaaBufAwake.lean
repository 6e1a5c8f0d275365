/-
  canterlaw21.awake answers true; a Buffer among other things in memory. Conditions: none.
-/
import Derived.Test.YthkehdoolnjjeaaBuf
namespace Go.Proofs.Ythkehdoolnjjeaa
open Go.RowKit
set_option maxRecDepth 100000
set_option linter.unusedSimpArgs false
set_option linter.unusedVariables false

/-- int(uint(a) % m), and one more. -/
theorem num_mod (a m c : Int) (hm : 0 < m) (hb : m ≤ 1000000) (hc : 0 ≤ c ∧ c ≤ 10) : ∃ n s : Int, (IntKind.u64.wrap a).tmod m = n ∧ wrap64 n = n ∧ wrap64 (c + n) = s ∧ s = c + n ∧ 0 ≤ n ∧ n < m := by
  have h0 : 0 ≤ IntKind.u64.wrap a := by rw [IntKind.wrap_u64]; exact Int.emod_nonneg _ (by decide)
  have h1 := Int.emod_nonneg (IntKind.u64.wrap a) (b := m) (by omega)
  have h2 := Int.emod_lt_of_pos (IntKind.u64.wrap a) hm
  refine ⟨(IntKind.u64.wrap a) % m, c + (IntKind.u64.wrap a) % m, Int.tmod_eq_emod_of_nonneg h0, ?_, ?_, rfl, h1, h2⟩
  · generalize (IntKind.u64.wrap a) % m = n at *
    unfold wrap64; omega
  · generalize (IntKind.u64.wrap a) % m = n at *
    unfold wrap64; omega
section
variable {wB w : World} {L : List Thing} {t : Thing} {g : Nat} {x y : Bst}
theorem Room.bunew (h : Room wB w L) (n : Int) : Calls Try.prog 7 #[.int .i64 n] w fun e w' => e = .returned (.pointer (some ⟨w.heap.size, 0, none⟩)) ∧ Room wB w' (bufT w.heap.size (newB n) :: L) :=
  (bunew_any n w).mono fun _ _ ⟨he, h1, k1⟩ => ⟨he, h.add (t := bufT w.heap.size (newB n)) h1 k1 (fun k e => by subst e; exact Nat.le_refl _)⟩
theorem Room.buwrite (h : Room wB w (bufT g x :: L)) (n : Int) (hn : n ≤ 9223372036854775807) (hb : x.w + 1073741824 ≤ 9223372036854775807) {v : Int} (ev : wrE x n = v) (ex : wrX x n = y) :
    Calls Try.prog 13 #[.pointer (some ⟨g, 0, none⟩), .int .i64 n] w fun e w' => e = .returned (.int .i64 v) ∧ Room wB w' (bufT g y :: L) := by
  have := buwrite_any (show BufAt w g x from h.get0) n hn hb
  rw [ev, ex] at this
  exact this.mono fun _ _ ⟨he, h1, k1⟩ => ⟨he, h.step0 (t' := bufT g y) h1 k1 own_same⟩
theorem Room.buwrite1 (h : Room wB w (t :: bufT g x :: L)) (n : Int) (hn : n ≤ 9223372036854775807) (hb : x.w + 1073741824 ≤ 9223372036854775807) {v : Int} (ev : wrE x n = v) (ex : wrX x n = y) :
    Calls Try.prog 13 #[.pointer (some ⟨g, 0, none⟩), .int .i64 n] w fun e w' => e = .returned (.int .i64 v) ∧ Room wB w' (t :: bufT g y :: L) := by
  have := buwrite_any (show BufAt w g x from h.get1) n hn hb
  rw [ev, ex] at this
  exact this.mono fun _ _ ⟨he, h1, k1⟩ => ⟨he, h.step1 (t' := bufT g y) h1 k1 own_same⟩
theorem Room.butake (h : Room wB w (bufT g x :: L)) (m : Int) (hm : m ≤ 9223372036854775807) {f u : Int} {b : Bool} (eb : tkB x m = b) (ef : tkF x m = f) (et : tkT x m = u) (ex : tkX x m = y) :
    Calls Try.prog 9 #[.pointer (some ⟨g, 0, none⟩), .int .i64 m] w fun e w' => e = .returned (.tuple #[.agg #[.int .u64 f, .int .u64 u], .bool b]) ∧ Room wB w' (bufT g y :: L) := by
  have := butake_any (show BufAt w g x from h.get0) m hm
  rw [eb, ef, et, ex] at this
  exact this.mono fun _ _ ⟨he, h1, k1⟩ => ⟨he, h.step0 (t' := bufT g y) h1 k1 own_same⟩
theorem Room.butake1 (h : Room wB w (t :: bufT g x :: L)) (m : Int) (hm : m ≤ 9223372036854775807) {f u : Int} {b : Bool} (eb : tkB x m = b) (ef : tkF x m = f) (et : tkT x m = u) (ex : tkX x m = y) :
    Calls Try.prog 9 #[.pointer (some ⟨g, 0, none⟩), .int .i64 m] w fun e w' => e = .returned (.tuple #[.agg #[.int .u64 f, .int .u64 u], .bool b]) ∧ Room wB w' (t :: bufT g y :: L) := by
  have := butake_any (show BufAt w g x from h.get1) m hm
  rw [eb, ef, et, ex] at this
  exact this.mono fun _ _ ⟨he, h1, k1⟩ => ⟨he, h.step1 (t' := bufT g y) h1 k1 own_same⟩
theorem Room.buacked (h : Room wB w (bufT g x :: L)) (u : Int) (hu : 0 ≤ u) {v : Int} (ev : akE x u = v) (ex : akX x u = y) :
    Calls Try.prog 11 #[.pointer (some ⟨g, 0, none⟩), .int .u64 u] w fun e w' => e = .returned (.int .i64 v) ∧ Room wB w' (bufT g y :: L) := by
  have := buacked_any (show BufAt w g x from h.get0) u hu
  rw [ev, ex] at this
  exact this.mono fun _ _ ⟨he, h1, k1⟩ => ⟨he, h.step0 (t' := bufT g y) h1 k1 own_same⟩
theorem Room.buunsent (h : Room wB w (bufT g x :: L)) {v : Int} (ev : x.w - x.t = v) : Calls Try.prog 15 #[.pointer (some ⟨g, 0, none⟩)] w fun e w' => e = .returned (.int .u64 v) ∧ Room wB w' (bufT g x :: L) := by
  subst ev; exact (buunsent_any h.get0).mono fun _ _ ⟨he, k⟩ => ⟨he, h.kept k⟩
theorem Room.buunsent1 (h : Room wB w (t :: bufT g x :: L)) {v : Int} (ev : x.w - x.t = v) : Calls Try.prog 15 #[.pointer (some ⟨g, 0, none⟩)] w fun e w' => e = .returned (.int .u64 v) ∧ Room wB w' (t :: bufT g x :: L) := by
  subst ev; exact (buunsent_any h.get1).mono fun _ _ ⟨he, k⟩ => ⟨he, h.kept k⟩
theorem Room.buheld (h : Room wB w (bufT g x :: L)) {v : Int} (ev : x.w - x.b = v) : Calls Try.prog 16 #[.pointer (some ⟨g, 0, none⟩)] w fun e w' => e = .returned (.int .u64 v) ∧ Room wB w' (bufT g x :: L) := by
  subst ev; exact (buheld_any h.get0).mono fun _ _ ⟨he, n, k⟩ => ⟨he, by rw [k]; exact h.drewN n⟩
theorem Room.buwritten (h : Room wB w (bufT g x :: L)) {v : Int} (ev : x.w = v) : Calls Try.prog 17 #[.pointer (some ⟨g, 0, none⟩)] w fun e w' => e = .returned (.int .u64 v) ∧ w = w' := by
  subst ev; exact buwritten_any h.get0
end
set_option maxHeartbeats 1000000 in
theorem awakeu_any (w : World) : Calls Try.prog 8 #[] w fun e w' => e = .returned (.bool true) ∧ Keep (fun _ => False) w w' := by
  go_enter Try.func8, Try.ntmps8
  go_wp2_with fail
  refine ((Room.begin w).bunew 10).mono ?_
  rintro e w1 ⟨rfl, hr⟩
  have R1 := Lib.hid hr; clear hr
  go_wp2_with fail
  refine (R1.out.buwrite 5 (by decide) (by decide) (v := 0) (y := ⟨10, 0, 0, 5⟩) (by decide) rfl).mono ?_
  rintro e w2 ⟨rfl, hr⟩
  have R2 := Lib.hid hr; clear hr R1
  go_wp2_with fail
  refine (R2.out.butake 3 (by decide) (f := 0) (u := 3) (b := true) (y := ⟨10, 0, 3, 5⟩) (by decide) (by decide) (by decide) rfl).mono ?_
  rintro e w3 ⟨rfl, hr⟩
  have R3 := Lib.hid (hr.box1 33 #[.int .u64 0, .int .u64 3]); clear hr R2
  go_wp2_with fail
  refine (R3.out.buunsent (v := 2) (by decide)).mono ?_
  rintro e w4 ⟨rfl, hr⟩
  have R4 := Lib.hid hr; clear hr R3
  go_wp2_with fail
  refine (R4.out.buheld (v := 5) (by decide)).mono ?_
  rintro e w5 ⟨rfl, hr⟩
  have R5 := Lib.hid hr; clear hr R4
  go_wp2
  go_ret
  exact ⟨rfl, Keep.of_below R5.out.bel⟩
theorem Room.awakeu {wB w : World} {L : List Thing} (h : Room wB w L) : Calls Try.prog 8 #[] w fun e w' => e = .returned (.bool true) ∧ Room wB w' L := (awakeu_any w).mono fun _ _ ⟨he, k⟩ => ⟨he, h.kept k⟩
end Go.Proofs.Ythkehdoolnjjeaa
