/-
  The calls Count and Balanced of package ledger answer what the document says; slices.Min of six numbers. Conditions: the ledger lies in memory as New makes it, or is nil; of Balanced: the count is balanced.
-/
import Derived.Test.YtcgpoplnfkhhbaaLed
namespace Go.Proofs.Ytcgpoplnfkhhbaa
open Go.RowKit

theorem ret_tup {a b : Value} {x y : Int} (h : a = b) (h' : x = y) : Ending.returned (.tuple #[a, .int .i64 x]) = .returned (.tuple #[b, .int .i64 y]) := by rw [h, h']

set_option maxHeartbeats 400000 in
theorem lcount_nil (sock : Int) (w : World) : Calls Try.prog 10 #[.pointer none, .int .i64 sock] w fun e w' => e = .returned (.tuple #[cv Cnt.zero, .int .i64 2]) ∧ Keep (fun _ => False) w w' := by
  have HK : Hid (Keep (fun _ => False) w (w.alloc (.cells #[.int .i64 0, .int .i64 0, .int .i64 0, .int .i64 0, .int .i64 0, .int .i64 0, .int .i64 0, .int .i64 0] 28))) := Lib.hid ((Keep.refl _ w).alloc _)
  go_enter Try.func10, Try.ntmps10
  go_wp2_with (go_at_call 17; (with_reducible refine (check_nil sock _).mono ?_); rintro e w' ⟨rfl, rfl⟩)
  refine bodyPost_ret (v := .tuple #[.agg #[.int .i64 0, .int .i64 0, .int .i64 0, .int .i64 0, .int .i64 0, .int .i64 0, .int .i64 0, .int .i64 0], .int .i64 2]) (by rw [results_cell_tmp rfl]; go_simp) rfl ?_
  exact ⟨rfl, HK.out⟩

/-- What Count answers. -/
def countC (F : Nat → Int) (sock : Int) : Cnt := if sock < 0 ∨ 8 ≤ sock then Cnt.zero else cntN F sock.toNat
set_option maxHeartbeats 1000000 in
theorem lcount_any (g n : Nat) (F : Nat → Int) (sock : Int) (w : World) (hn : n ≤ 1000) (h : LedAt w g n F) :
    Calls Try.prog 10 #[.pointer (some ⟨g, 0, none⟩), .int .i64 sock] w fun e w' => e = .returned (.tuple #[cv (countC F sock), .int .i64 (checkE sock)]) ∧ Keep (fun _ => False) w w' := by
  have HK : Hid (Keep (fun _ => False) w (w.alloc (.cells #[.int .i64 0, .int .i64 0, .int .i64 0, .int .i64 0, .int .i64 0, .int .i64 0, .int .i64 0, .int .i64 0] 28))) := Lib.hid ((Keep.refl _ w).alloc _)
  have H := Lib.hid (h.kept HK.out)
  clear h
  by_cases h1 : sock < 0 ∨ 8 ≤ sock
  · have HC : Hid (checkE sock = 8) := Lib.hid (if_pos h1)
    have HV : Hid (countC F sock = Cnt.zero) := Lib.hid (if_pos h1)
    clear h1
    go_enter Try.func10, Try.ntmps10
    go_wp2_with (go_at_call 17; (with_reducible refine (check_any g sock _).mono ?_); rintro e w' ⟨rfl, rfl⟩; rw [HC.out])
    refine bodyPost_ret (v := .tuple #[.agg #[.int .i64 0, .int .i64 0, .int .i64 0, .int .i64 0, .int .i64 0, .int .i64 0, .int .i64 0, .int .i64 0], .int .i64 8]) (by rw [results_cell_tmp rfl]; go_simp) rfl ?_
    exact ⟨ret_tup (by rw [HV.out]; rfl) HC.out.symm, HK.out⟩
  · have HC : Hid (checkE sock = 0) := Lib.hid (if_neg h1)
    obtain ⟨k, rfl⟩ : ∃ k : Nat, sock = k := ⟨sock.toNat, by omega⟩
    have hk : k < 8 := by omega
    have HV : Hid (countC F k = cntN F k) := Lib.hid (if_neg h1)
    have HW := Lib.hid (Whole.new w 28 #[.int .i64 0, .int .i64 0, .int .i64 0, .int .i64 0, .int .i64 0, .int .i64 0, .int .i64 0, .int .i64 0])
    obtain ⟨x0, x1, x2, x3, x4, x5, x6, x7, hx⟩ : ∃ x0 x1 x2 x3 x4 x5 x6 x7, cntN F k = ⟨x0, x1, x2, x3, x4, x5, x6, x7⟩ := ⟨_, _, _, _, _, _, _, _, rfl⟩
    have HX := Lib.hid hx
    clear h1 hx
    go_enter Try.func10, Try.ntmps10
    go_wp2_with (first
      | (go_at_call 17; (with_reducible refine (check_any g k _).mono ?_); rintro e w' ⟨rfl, rfl⟩; rw [HC.out])
      | (go_at_call 18; (with_reducible refine (count_any g n k F _ hk hn H.out).mono ?_); rintro e w2 ⟨rfl, hk2⟩; rw [HX.out, cv]; dsimp only; obtain ⟨⟨p0, q0⟩, ⟨p1, q1⟩, ⟨p2, q2⟩, ⟨p3, q3⟩, ⟨p4, q4⟩, ⟨p5, q5⟩, ⟨p6, q6⟩, ⟨p7, q7⟩, pw, pk⟩ := (HW.out.keep hk2 (fun h => h)).fill8 (.int .i64 x0) (.int .i64 x1) (.int .i64 x2) (.int .i64 x3) (.int .i64 x4) (.int .i64 x5) (.int .i64 x6) (.int .i64 x7); have PW := Lib.hid pw; have PK := Lib.hid ((HK.out.trans hk2).then pk (fun i hi hl => by omega)); clear pw pk hk2))
    have z0 := PW.out.cell 0; have z1 := PW.out.cell 1; have z2 := PW.out.cell 2; have z3 := PW.out.cell 3; have z4 := PW.out.cell 4; have z5 := PW.out.cell 5; have z6 := PW.out.cell 6; have z7 := PW.out.cell 7
    simp only [List.getElem?_toArray, List.getElem?_cons_succ, List.getElem?_cons_zero] at z0 z1 z2 z3 z4 z5 z6 z7
    refine bodyPost_ret (v := .tuple #[.agg #[.int .i64 x0, .int .i64 x1, .int .i64 x2, .int .i64 x3, .int .i64 x4, .int .i64 x5, .int .i64 x6, .int .i64 x7], .int .i64 0]) (by rw [results_cell_tmp rfl]; go_simp) rfl ?_
    exact ⟨ret_tup (by rw [HV.out, HX.out]; rfl) HC.out.symm, PK.out⟩

set_option maxHeartbeats 400000 in
theorem min_any (B o c : Nat) (a : Nat → Int) (w : World) (h : ∀ j, j < 6 → w.cell? ⟨B, o + j, none⟩ = some (.int .i64 (a j))) (h0 : ∀ j, j < 6 → 0 ≤ a j) :
    Calls Try.prog 19 #[.slice (some ⟨B, o, none⟩) 6 c] w fun e w' => (∃ m, 0 ≤ m ∧ e = .returned (.int .i64 m)) ∧ w' = w := by
  have c0 := h 0 (by omega)
  have H := Lib.hid h; have H0 := Lib.hid h0
  clear h h0
  simp only [Nat.add_zero] at c0
  go_enter Try.func19, Try.ntmps19
  go_wp2
  go_loopw [3, 4] (fun m i wr => ∃ (j : Nat) (x : Int), j ≤ 6 ∧ 0 < j ∧ i = .int .i64 j ∧ m = .int .i64 x ∧ 0 ≤ x ∧ wr = w) (fun _ i _ => 6 - (intOf i).toNat)
  case atStart => exact ⟨1, _, by decide, by decide, rfl, rfl, H0.out 0 (by decide), rfl⟩
  case round =>
    obtain ⟨j, x, hj, hj0, rfl, rfl, hx, rfl⟩ := hrel
    by_cases hlt : j < 6
    · have cj := H.out j hlt
      have bj := H0.out j hlt
      have hij : (j : Int) < 6 := by omega
      generalize a j = y at *
      go_wp2
      go_roundw
      case rel => exact ⟨j + 1, _, by omega, by omega, by go_num, rfl, by omega, by first | rfl | trivial⟩
      case measure => simp [intOf]; omega
    · obtain rfl : j = 6 := by omega
      go_wp2
      go_ret
      exact ⟨⟨x, hx, rfl⟩, rfl⟩

/-- A count that is balanced, of small numbers. -/
structure Bal (c : Cnt) : Prop where
  p0 : 0 ≤ c.a0
  p1 : 0 ≤ c.a1
  p2 : 0 ≤ c.a2
  p3 : 0 ≤ c.a3
  p4 : 0 ≤ c.a4
  p5 : 0 ≤ c.a5
  pq : 0 ≤ c.q
  m : c.a0 ≤ 1000
  sum : c.a0 = c.q + c.a1 + c.a2 + c.a3 + c.a4 + c.a5
theorem bal_of {w : World} {g n : Nat} {F : Nat → Int} (h : LedAt w g n F) (hn : n ≤ 1000) (hw : Waits F) (k : Nat) : Bal (cntN F k) := by
  have h0 := h.2 (k * 6); have h1 := h.2 (k * 6 + 1); have h2 := h.2 (k * 6 + 2); have h3 := h.2 (k * 6 + 3); have h4 := h.2 (k * 6 + 4); have h5 := h.2 (k * 6 + 5)
  have hq := hw k
  exact ⟨h0.1, h1.1, h2.1, h3.1, h4.1, h5.1, hq, by show F (k * 6) ≤ 1000; omega, by show F (k * 6) = waitN F k + F (k * 6 + 1) + F (k * 6 + 2) + F (k * 6 + 3) + F (k * 6 + 4) + F (k * 6 + 5); unfold waitN; omega⟩

def cnA (c : Cnt) : Nat → Int
  | 0 => c.a0
  | 1 => c.a1
  | 2 => c.a2
  | 3 => c.a3
  | 4 => c.a4
  | _ => c.a5
def leftN (c : Cnt) : Nat → Int
  | 0 => c.a0 - c.q
  | j + 1 => leftN c j - cnA c (j + 1)
set_option maxHeartbeats 1000000 in
theorem balanced_any (c : Cnt) (w : World) (hb : Bal c) : Calls Try.prog 12 #[cv c] w fun e w' => e = .returned (.bool true) ∧ Keep (fun _ => False) w w' := by
  have HK : Hid (Keep (fun _ => False) w (w.alloc (.cells (cells8 c).toArray 28))) := Lib.hid ((Keep.refl _ w).alloc _)
  have hW := Whole.new w 28 (cells8 c).toArray
  have HA : Hid (∀ j, j < 6 → (w.alloc (.cells (cells8 c).toArray 28)).cell? ⟨w.heap.size, 1 + j, none⟩ = some (.int .i64 (cnA c j))) := Lib.hid (fun j hj => by
    rw [hW.cell]
    rcases (by omega : j = 0 ∨ j = 1 ∨ j = 2 ∨ j = 3 ∨ j = 4 ∨ j = 5) with rfl | rfl | rfl | rfl | rfl | rfl <;> rfl)
  have HP : Hid (∀ j, j < 6 → 0 ≤ cnA c j) := Lib.hid (fun j hj => by
    rcases (by omega : j = 0 ∨ j = 1 ∨ j = 2 ∨ j = 3 ∨ j = 4 ∨ j = 5) with rfl | rfl | rfl | rfl | rfl | rfl
    · exact hb.p0
    · exact hb.p1
    · exact hb.p2
    · exact hb.p3
    · exact hb.p4
    · exact hb.p5)
  have HL : Hid (∀ j, j ≤ 5 → 0 ≤ leftN c j ∧ leftN c j ≤ 1000 ∧ (j < 5 → cnA c (j + 1) ≤ leftN c j) ∧ (j = 5 → leftN c j = 0)) := Lib.hid (fun j hj => by
    obtain ⟨p0, p1, p2, p3, p4, p5, pq, m, sum⟩ := hb
    rcases (by omega : j = 0 ∨ j = 1 ∨ j = 2 ∨ j = 3 ∨ j = 4 ∨ j = 5) with rfl | rfl | rfl | rfl | rfl | rfl <;> (simp only [leftN, cnA, Nat.zero_add, Nat.reduceAdd]; refine ⟨?_, ?_, ?_, ?_⟩ <;> omega))
  have hq : ¬ c.q < 0 := by have := hb.pq; omega
  have hq' : c.q ≤ 1000 := by have := hb.sum; have := hb.m; have := hb.p1; have := hb.p2; have := hb.p3; have := hb.p4; have := hb.p5; omega
  have hm := hb.m
  have hm0 := hb.p0
  have HL0 : Hid (leftN c 0 = c.a0 - c.q) := Lib.hid rfl
  clear hb hW
  unfold cv
  unfold cells8 at *
  go_enter Try.func12, Try.ntmps12
  go_wp2_with (go_at_call 19; (refine (min_any w.heap.size 1 6 (cnA c) _ HA.out HP.out).mono ?_); rintro e w' ⟨⟨mm, hmm, rfl⟩, rfl⟩; have hmm' : ¬ mm < 0 := by omega)
  generalize hw1 : w.alloc (.cells #[.int .i64 c.s, .int .i64 c.a0, .int .i64 c.a1, .int .i64 c.a2, .int .i64 c.a3, .int .i64 c.a4, .int .i64 c.a5, .int .i64 c.q] 28) = w1 at *
  go_loopw [3, 24] (fun r i wr => ∃ j : Nat, j ≤ 5 ∧ i = .int .i64 j ∧ r = .int .i64 (leftN c j) ∧ wr = w1) (fun _ i _ => 5 - (intOf i).toNat)
  case atStart => exact ⟨0, by decide, rfl, by rw [HL0.out]; (try go_num), rfl⟩
  case round =>
    obtain ⟨j, hj, rfl, rfl, rfl⟩ := hrel
    obtain ⟨l0, l1, l2, l3⟩ := HL.out j hj
    by_cases hlt : j < 5
    · have cj := HA.out (j + 1) (by omega)
      rw [show 1 + (j + 1) = 2 + j by omega] at cj
      have pj := HP.out (j + 1) (by omega)
      have lj := l2 hlt
      have lj' : ¬ leftN c j < cnA c (j + 1) := by omega
      have hij : (j : Int) < 5 := by omega
      have HN : Hid (leftN c (j + 1) = leftN c j - cnA c (j + 1)) := Lib.hid rfl
      clear l2 l3 HL0
      generalize cnA c (j + 1) = y at *
      generalize leftN c j = x at *
      go_wp2
      go_roundw
      case rel => exact ⟨j + 1, by omega, by go_num, by rw [HN.out], by first | rfl | trivial⟩
      case measure => simp [intOf]; omega
    · obtain rfl : j = 5 := by omega
      rw [l3 rfl]
      clear l0 l1 l2 l3
      go_wp2
      go_ret
      exact ⟨rfl, HK.out⟩
end Go.Proofs.Ytcgpoplnfkhhbaa
