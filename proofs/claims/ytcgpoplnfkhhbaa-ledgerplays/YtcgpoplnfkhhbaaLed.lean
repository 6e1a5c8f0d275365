/-
  The calls of package ledger (New, Note, Count, check, count) answer what the document says. Conditions: the ledger lies in memory as New makes it, or is nil; its numbers are at most a thousand each.
-/
import Derived.Test.YtcgpoplnfkhhbaaLedSt
import Derived.Test.YtcgpoplnfkhhbaaSchedL
import Derived.Test.YtcgpoplnfkhhbaaChecked
import Derived.WalkSpells
import Derived.WalkLawsBesides
import Derived.LoopTactic
import Derived.Deep.QuietTactic
import Derived.Deep.DeepCutAuto
import Derived.Deep.Draws
import Derived.BigQuiet
import Derived.Laws.ResultCell
namespace Go.Proofs.Ytcgpoplnfkhhbaa
open Go.RowKit

set_option maxHeartbeats 400000 in
theorem lnew_any (w : World) : Calls Try.prog 6 #[] w fun e w' => e = .returned (.pointer (some ⟨w.heap.size, 0, none⟩)) ∧ LedAt w' w.heap.size 0 (fun _ => 0) ∧ Keep (fun _ => False) w w' := by
  go_enter Try.func6, Try.ntmps6
  go_wp2
  go_ret
  exact ⟨rfl, ⟨Whole.new _ _ _, fun _ => ⟨Int.le_refl _, Int.le_refl _⟩⟩, (Keep.refl _ _).alloc _⟩

theorem check_nil (sock : Int) (w : World) : Calls Try.prog 17 #[.pointer none, .int .i64 sock] w fun e w' => e = .returned (.int .i64 2) ∧ w = w' := by
  go_enter Try.func17, Try.ntmps17
  go_wp2
  go_ret
  exact ⟨rfl, rfl⟩
def checkE (sock : Int) : Int := if sock < 0 ∨ 8 ≤ sock then 8 else 0
theorem check_any (g : Nat) (sock : Int) (w : World) : Calls Try.prog 17 #[.pointer (some ⟨g, 0, none⟩), .int .i64 sock] w fun e w' => e = .returned (.int .i64 (checkE sock)) ∧ w = w' := by
  by_cases h : sock < 0
  · have HE : Hid (checkE sock = 8) := Lib.hid (if_pos (.inl h))
    go_enter Try.func17, Try.ntmps17
    go_wp2
    go_ret
    exact ⟨ret_i HE.out.symm, rfl⟩
  · by_cases h' : 8 ≤ sock
    · have HE : Hid (checkE sock = 8) := Lib.hid (if_pos (.inr h'))
      go_enter Try.func17, Try.ntmps17
      go_wp2
      go_ret
      exact ⟨ret_i HE.out.symm, rfl⟩
    · have HE : Hid (checkE sock = 0) := Lib.hid (if_neg (by omega))
      go_enter Try.func17, Try.ntmps17
      go_wp2
      go_ret
      exact ⟨ret_i HE.out.symm, rfl⟩

theorem results_cell1 {fn : Func} {p : Tmp} {ty : TypeId} (h : fn.results = #[.cell p ty]) (tmps : Array Value) (P : Program) (w : World) :
    (results fn tmps).run P w = ((asAddr (tmps.getD p undef)).run P w).andThen fun a w₁ => (loadVar ty a).run P w₁ := by
  simp only [results, h]
  simp [Sem.run_bind, Result.andThen]

/-- What count has taken away behind i rounds. -/
def restN (a : Nat → Int) : Nat → Int
  | 0 => a 0
  | n + 1 => restN a n - a (n + 1)
def Six (g k : Nat) (a : Nat → Int) (W : World) : Prop := W.cell? ⟨g, k * 6, none⟩ = some (.int .i64 (a 0)) ∧ W.cell? ⟨g, k * 6 + 1, none⟩ = some (.int .i64 (a 1)) ∧ W.cell? ⟨g, k * 6 + 2, none⟩ = some (.int .i64 (a 2)) ∧ W.cell? ⟨g, k * 6 + 3, none⟩ = some (.int .i64 (a 3)) ∧ W.cell? ⟨g, k * 6 + 4, none⟩ = some (.int .i64 (a 4)) ∧ W.cell? ⟨g, k * 6 + 5, none⟩ = some (.int .i64 (a 5))
theorem LedAt.six {w : World} {g n k : Nat} {F : Nat → Int} (h : LedAt w g n F) (hk : k < 8) : Six g k (fun j => F (k * 6 + j)) w :=
  ⟨h.cell (q := k * 6) (by omega), h.cell (q := k * 6 + 1) (by omega), h.cell (q := k * 6 + 2) (by omega), h.cell (q := k * 6 + 3) (by omega), h.cell (q := k * 6 + 4) (by omega), h.cell (q := k * 6 + 5) (by omega)⟩

set_option maxHeartbeats 1000000 in
theorem count_any (g n k : Nat) (F : Nat → Int) (w : World) (hk : k < 8) (hn : n ≤ 1000) (h : LedAt w g n F) :
    Calls Try.prog 18 #[.pointer (some ⟨g, 0, none⟩), .int .i64 k] w fun e w' => e = .returned (cv (cntN F k)) ∧ Keep (fun _ => False) w w' := by
  obtain ⟨a, ha⟩ : ∃ a : Nat → Int, a = fun j => F (k * 6 + j) := ⟨_, rfl⟩
  have hS : Hid (∀ W, Keep (fun _ => False) w W → Six g k a W) := Lib.hid (fun W hW => ha ▸ (h.kept hW).six hk)
  have hk' : (k : Int) < 8 := by omega
  have hlt := h.lt
  have HC : Hid (cntN F k = ⟨k, a 0, a 1, a 2, a 3, a 4, a 5, restN a 5⟩) := Lib.hid (by subst ha; rfl)
  have ha0 : ∀ j, 0 ≤ a j ∧ a j ≤ 1000 := fun j => by subst ha; have := h.2 (k * 6 + j); exact ⟨this.1, by show F (k * 6 + j) ≤ 1000; omega⟩
  clear ha h
  go_enter Try.func18, Try.ntmps18
  go_wp2
  have hK0 := Lib.hid ((Keep.refl (fun _ => False) w).alloc (.cells #[.int .i64 0, .int .i64 0, .int .i64 0, .int .i64 0, .int .i64 0, .int .i64 0, .int .i64 0, .int .i64 0] 28))
  refine wp_region_sch (Six g k a) [(true, 0), (true, 1), (true, 2), (true, 3), (true, 4), (true, 5), (true, 6), (true, 7), (true, 8), (true, 9), (true, 10), (true, 11), (true, 12), (true, 13), (true, 14), (false, 15), (false, 16)] (by kernel_rfl) (by kernel_rfl) (by kernel_rfl) (by kernel_rfl) (hS.out _ hK0.out.drew) ?_
  (repeat (refine wpSch_yes (v := ?_) rfl (fun _ _ _ h => h) (by rfl) ?_ ?_; rotate_left; (next => (intro w hSw; (try dsimp only at hSw); obtain ⟨hS1, hS2, hS3, hS4, hS5, hS6⟩ := hSw; go_simp; (try with_reducible rfl))); (try simp only [Act.put, List.setIfInBounds_toArray, List.set_cons_zero, List.set_cons_succ])))
  refine wpSch_call rfl (by rfl) (fun K hK => ?_); go_simp
  refine hK.out _ _ ?_ (fun hHeld => ?_)
  · exact hS.out _ (hK0.out.drew.alloc _)
  clear hK K
  (try simp only [Act.put, List.setIfInBounds_toArray, List.set_cons_zero, List.set_cons_succ])
  refine wpSch_call rfl (by rfl) (fun K hK => ?_); go_simp
  have K1 := hK0.out.drew.alloc (.cells #[.int .i64 k, .int .i64 (a 0), .int .i64 (a 1), .int .i64 (a 2), .int .i64 (a 3), .int .i64 (a 4), .int .i64 (a 5), .int .i64 (a 0)] 28)
  have hW4 := (Whole.new w 28 #[.int .i64 0, .int .i64 0, .int .i64 0, .int .i64 0, .int .i64 0, .int .i64 0, .int .i64 0, .int .i64 0]).alloc (.cells #[.int .i64 k, .int .i64 (a 0), .int .i64 (a 1), .int .i64 (a 2), .int .i64 (a 3), .int .i64 (a 4), .int .i64 (a 5), .int .i64 (a 0)] 28)
  have hW5 := Whole.new (w.alloc (.cells #[.int .i64 0, .int .i64 0, .int .i64 0, .int .i64 0, .int .i64 0, .int .i64 0, .int .i64 0, .int .i64 0] 28)) 28 #[.int .i64 k, .int .i64 (a 0), .int .i64 (a 1), .int .i64 (a 2), .int .i64 (a 3), .int .i64 (a 4), .int .i64 (a 5), .int .i64 (a 0)]
  rw [World.size_alloc] at hW5
  have HW4 := Lib.hid hW4.drew; have HW5 := Lib.hid hW5.drew
  have HK1 : Hid (Keep (fun _ => False) w _) := Lib.hid K1
  clear K1 hW4 hW5
  refine hK.out _ _ ?_ (fun hHeld => ?_)
  · exact hS.out _ HK1.out
  clear hK K hHeld hS
  (try simp only [Act.put, List.setIfInBounds_toArray, List.set_cons_zero, List.set_cons_succ])
  refine wpSch_nil ?_
  go_wp2
  go_loopw [26] (fun i wr => ∃ j : Nat, j ≤ 5 ∧ i = .int .i64 j ∧ Whole wr w.heap.size 28 #[.int .i64 0, .int .i64 0, .int .i64 0, .int .i64 0, .int .i64 0, .int .i64 0, .int .i64 0, .int .i64 0] ∧ Whole wr (w.heap.size + 1) 28 #[.int .i64 k, .int .i64 (a 0), .int .i64 (a 1), .int .i64 (a 2), .int .i64 (a 3), .int .i64 (a 4), .int .i64 (a 5), .int .i64 (restN a j)] ∧ Keep (fun _ => False) w wr) (fun i _ => 5 - (intOf i).toNat)
  case atStart => exact ⟨0, by decide, rfl, HW4.out, HW5.out, HK1.out⟩
  case round =>
    obtain ⟨j, hj, rfl, h4, h5, hkp⟩ := hrel
    have H4 := Lib.hid h4; have H5 := Lib.hid h5; have HKW := Lib.hid hkp
    have hr : -5000 ≤ restN a j ∧ restN a j ≤ 1000 := by
      have b0 := ha0 0; have b1 := ha0 1; have b2 := ha0 2; have b3 := ha0 3; have b4 := ha0 4; have b5 := ha0 5
      rcases (by omega : j = 0 ∨ j = 1 ∨ j = 2 ∨ j = 3 ∨ j = 4 ∨ j = 5) with rfl | rfl | rfl | rfl | rfl | rfl <;> (simp only [restN, Nat.zero_add, Nat.reduceAdd]; omega)
    have d7 := h5.cell 7
    have f7 := h5.free 7
    by_cases hlt5 : j < 5
    · have dj : wr.cell? ⟨w.heap.size + 1, 2 + j, none⟩ = some (.int .i64 (a (j + 1))) := by
        rw [h5.cell]
        rcases (by omega : j = 0 ∨ j = 1 ∨ j = 2 ∨ j = 3 ∨ j = 4) with rfl | rfl | rfl | rfl | rfl <;> rfl
      have hij : (j : Int) < 5 := by omega
      have haj := ha0 (j + 1)
      have HRE : Hid (restN a (j + 1) = restN a j - a (j + 1)) := Lib.hid rfl
      clear h4 h5 hkp ha0
      simp only [List.getElem?_toArray, List.getElem?_cons_succ, List.getElem?_cons_zero] at d7
      generalize a (j + 1) = x at *
      generalize hR : restN a j = R at *
      go_wp2
      go_roundw
      case rel =>
        refine ⟨j + 1, by omega, by go_num, H4.out.far (p := ⟨w.heap.size + 1, 7, none⟩) (by simp) _, ?_, HKW.out.setCell (p := ⟨w.heap.size + 1, 7, none⟩) (.inr (by simp)) _⟩
        rw [HRE.out]
        exact H5.out.put 7 _
      case measure => simp [intOf]; omega
    · obtain rfl : j = 5 := by omega
      clear hr
      obtain ⟨x4, x5⟩ : Hid (Whole wr (w.heap.size + 1) 28 _) ∧ True := ⟨Lib.hid h5, trivial⟩
      have e0 := h5.cell 0; have e1 := h5.cell 1; have e2 := h5.cell 2; have e3 := h5.cell 3; have e4 := h5.cell 4; have e5 := h5.cell 5; have e6 := h5.cell 6
      simp only [List.getElem?_toArray, List.getElem?_cons_succ, List.getElem?_cons_zero] at e0 e1 e2 e3 e4 e5 e6 d7
      generalize restN a 5 = R at *
      obtain ⟨⟨p0, q0⟩, ⟨p1, q1⟩, ⟨p2, q2⟩, ⟨p3, q3⟩, ⟨p4, q4⟩, ⟨p5, q5⟩, ⟨p6, q6⟩, ⟨p7, q7⟩, pw, pk⟩ := h4.fill8 (.int .i64 k) (.int .i64 (a 0)) (.int .i64 (a 1)) (.int .i64 (a 2)) (.int .i64 (a 3)) (.int .i64 (a 4)) (.int .i64 (a 5)) (.int .i64 R)
      have PW := Lib.hid pw; have PK := Lib.hid (hkp.then pk (fun i hi hl => by omega))
      clear pw pk h4 h5 hkp
      go_wp2
      have z0 := PW.out.cell 0; have z1 := PW.out.cell 1; have z2 := PW.out.cell 2; have z3 := PW.out.cell 3; have z4 := PW.out.cell 4; have z5 := PW.out.cell 5; have z6 := PW.out.cell 6; have z7 := PW.out.cell 7
      simp only [List.getElem?_toArray, List.getElem?_cons_succ, List.getElem?_cons_zero] at z0 z1 z2 z3 z4 z5 z6 z7
      refine bodyPost_ret (v := .agg #[.int .i64 k, .int .i64 (a 0), .int .i64 (a 1), .int .i64 (a 2), .int .i64 (a 3), .int .i64 (a 4), .int .i64 (a 5), .int .i64 R]) (by rw [results_cell1 rfl]; go_simp) rfl ?_
      exact ⟨by rw [HC.out]; rfl, PK.out⟩
theorem count_is {R : Int} (g n k : Nat) (F : Nat → Int) (w : World) (hk : k < 8) (hn : n ≤ 1000) (h : LedAt w g n F) (hR : waitN F k = R) :
    Calls Try.prog 18 #[.pointer (some ⟨g, 0, none⟩), .int .i64 k] w fun e w' => e = .returned (.agg #[.int .i64 k, .int .i64 (F (k * 6)), .int .i64 (F (k * 6 + 1)), .int .i64 (F (k * 6 + 2)), .int .i64 (F (k * 6 + 3)), .int .i64 (F (k * 6 + 4)), .int .i64 (F (k * 6 + 5)), .int .i64 R]) ∧ Keep (fun _ => False) w w' := by
  subst hR; exact count_any g n k F w hk hn h

theorem wrap_i64 {x : Int} (h : -9223372036854775808 ≤ x) (h' : x ≤ 9223372036854775807) : IntKind.i64.wrap x = x := by rw [IntKind.wrap_i64]; omega
theorem Try.fieldQ (v0 v1 v2 v3 v4 v5 v6 v7 : Value) (w : World) : (Instr.field 28 (.agg #[v0, v1, v2, v3, v4, v5, v6, v7]) 2).run Try.prog w = .ok v7 w := by kernel_rfl

theorem note_nil (sock fate : Int) (w : World) : Calls Try.prog 8 #[.pointer none, .int .i64 sock, .int .i64 fate] w fun e w' => e = .returned (.int .i64 2) ∧ w = w' := by
  go_enter Try.func8, Try.ntmps8
  go_wp2_with (go_at_call 17; (with_reducible refine (check_nil sock w).mono ?_); rintro e w' ⟨rfl, rfl⟩)
  go_ret
  exact ⟨rfl, rfl⟩

set_option maxHeartbeats 1000000 in
theorem note_any (g n : Nat) (F : Nat → Int) (sock fate : Int) (w : World) (hn : n ≤ 1000) (h : LedAt w g n F) :
    Calls Try.prog 8 #[.pointer (some ⟨g, 0, none⟩), .int .i64 sock, .int .i64 fate] w fun e w' => e = .returned (.int .i64 (noteE F sock fate)) ∧ LedAt w' g (n + 1) (noteF F sock fate) ∧ Keep (fun k => k = g) w w' := by
  have HL : Hid (LedAt w g (n + 1) F) := Lib.hid (h.mono (by omega))
  have H := Lib.hid h
  have hfq := Try.fieldQ
  by_cases h1 : sock < 0 ∨ 8 ≤ sock
  · have HE : Hid (noteE F sock fate = 8 ∧ noteF F sock fate = F) := Lib.hid (by
      have : noteE F sock fate = 8 := if_pos h1
      exact ⟨this, if_neg (by rw [this]; decide)⟩)
    have HC : Hid (checkE sock = 8) := Lib.hid (if_pos h1)
    clear h h1
    go_enter Try.func8, Try.ntmps8
    go_wp2_with (go_at_call 17; (with_reducible refine (check_any g sock w).mono ?_); rintro e w' ⟨rfl, rfl⟩; rw [HC.out])
    go_ret
    exact ⟨ret_i HE.out.1.symm, by rw [HE.out.2]; exact HL.out, Keep.refl _ _⟩
  · have HC : Hid (checkE sock = 0) := Lib.hid (if_neg h1)
    obtain ⟨k, rfl⟩ : ∃ k : Nat, sock = k := ⟨sock.toNat, by omega⟩
    have hk : k < 8 := by omega
    by_cases h2 : fate < 0 ∨ 5 < fate
    · have HE : Hid (noteE F k fate = 1 ∧ noteF F k fate = F) := Lib.hid (by
        have : noteE F k fate = 1 := (if_neg h1).trans (if_pos h2)
        exact ⟨this, if_neg (by rw [this]; decide)⟩)
      clear h h1
      by_cases h3 : fate < 0
      · clear h2
        go_enter Try.func8, Try.ntmps8
        go_wp2_with (go_at_call 17; (with_reducible refine (check_any g k w).mono ?_); rintro e w' ⟨rfl, rfl⟩; rw [HC.out])
        go_ret
        exact ⟨ret_i HE.out.1.symm, by rw [HE.out.2]; exact HL.out, Keep.refl _ _⟩
      · have h4 : 5 < fate := by omega
        clear h2
        go_enter Try.func8, Try.ntmps8
        go_wp2_with (go_at_call 17; (with_reducible refine (check_any g k w).mono ?_); rintro e w' ⟨rfl, rfl⟩; rw [HC.out])
        go_ret
        exact ⟨ret_i HE.out.1.symm, by rw [HE.out.2]; exact HL.out, Keep.refl _ _⟩
    · obtain ⟨j, rfl⟩ : ∃ j : Nat, fate = j := ⟨fate.toNat, by omega⟩
      have hj : j < 6 := by omega
      have hi1 : (k : Int) < 8 := by omega
      have hi2 : (j : Int) < 6 := by omega
      have hi3 : ¬ (5 : Int) < (j : Int) := by omega
      by_cases h3 : (j : Int) ≠ 0 ∧ waitN F k = 0
      · have HE : Hid (noteE F k j = 7 ∧ noteF F k j = F) := Lib.hid (by
          have : noteE F k j = 7 := (if_neg h1).trans ((if_neg h2).trans (if_pos (by simpa using h3)))
          exact ⟨this, if_neg (by rw [this]; decide)⟩)
        have hjz : ((j : Int) != 0) = true := by simp; omega
        have hw0 := Lib.hid h3.2
        clear h h1 h2 h3
        go_enter Try.func8, Try.ntmps8
        go_wp2_with (first
          | (go_at_call 17; (with_reducible refine (check_any g k w).mono ?_); rintro e w' ⟨rfl, rfl⟩; rw [HC.out])
          | (go_at_call 18; (with_reducible refine (count_is g n k F w hk hn H.out hw0.out).mono ?_); rintro e w2 ⟨rfl, hk2⟩; have HK2 := Lib.hid hk2; clear hk2))
        go_ret
        exact ⟨ret_i HE.out.1.symm, by rw [HE.out.2]; exact HL.out.kept HK2.out, HK2.out.mono (fun _ h => h.elim)⟩
      · have hE0 : noteE F k j = 0 := (if_neg h1).trans ((if_neg h2).trans (if_neg (by simpa using h3)))
        have HE : Hid (noteE F k j = 0 ∧ noteF F k j = updN F (k * 6 + j) (F (k * 6 + j) + 1)) := Lib.hid ⟨hE0, if_pos hE0⟩
        clear hE0
        by_cases h4 : j = 0
        · have hjz : ((j : Int) != 0) = false := by simp; omega
          have hl1 := h
          clear h h1 h2 h3 h4
          go_enter Try.func8, Try.ntmps8
          go_wp2_with (go_at_call 17; (with_reducible refine (check_any g k w).mono ?_); rintro e w' ⟨rfl, rfl⟩; rw [HC.out])
          have H1 := Lib.hid hl1
          have cx := hl1.cell (q := k * 6 + j) (by omega)
          have fx := hl1.free (k * 6 + j)
          have hb := hl1.2 (k * 6 + j)
          have HA := Lib.hid (hl1.add (k * 6 + j)).drew
          clear hl1
          generalize hX : F (k * 6 + j) = X at *
          have hwr : IntKind.i64.wrap (X + 1) = X + 1 := wrap_i64 (by omega) (by omega)
          go_wp2
          refine wp_region_late (fun W => W.cell? ⟨g, k * 6 + j, none⟩ = some (.int .i64 X)) [13] (.yes 0 (.yes 1 (.yes 2 (.yes 3 (.yes 4 (.yes 5 (.yes 6 (.yes 7 (.yes 8 (.yes 9 (.yes 10 (.yes 11 (.yes 12 (.one 13 .nil)))))))))))))) (by kernel_rfl) (by kernel_rfl) (by kernel_rfl) (by kernel_rfl) cx ?_
          (repeat (refine wpSchL_yes (v := ?_) rfl (fun _ _ _ h => h) (by rfl) ?_ ?_; rotate_left; (next => (intro w hSw; (try dsimp only at hSw); go_simp; (try with_reducible rfl))); (try simp only [Act.put, List.setIfInBounds_toArray, List.set_cons_zero, List.set_cons_succ])))
          refine wpSchL_one ?_
          refine wpOneL_call rfl (by rfl) (fun K hK => ?_)
          go_simp
          refine hK.out _ _ ?_ (fun hHeld => ?_)
          · exact fun h => absurd h (by decide)
          clear hK K hHeld
          (try simp only [Act.put, List.setIfInBounds_toArray, List.set_cons_zero, List.set_cons_succ])
          refine wpSchL_nil ?_
          go_wp2
          go_ret
          exact ⟨ret_i HE.out.1.symm, by rw [HE.out.2]; exact HA.out, ((Keep.refl (fun k => k = g) _).setCell (p := ⟨g, k * 6 + j, none⟩) (.inl rfl) _).drew⟩
        · have hjz : ((j : Int) != 0) = true := by simp; omega
          have hwz : (waitN F k == 0) = false := by simp; omega
          generalize hR : waitN F k = R at *
          have HR := Lib.hid hR
          clear h h1 h2 h3 hR
          go_enter Try.func8, Try.ntmps8
          go_wp2_with (first
            | (go_at_call 17; (with_reducible refine (check_any g k w).mono ?_); rintro e w' ⟨rfl, rfl⟩; rw [HC.out])
            | (go_at_call 18; (with_reducible refine (count_is g n k F w hk hn H.out HR.out).mono ?_); rintro e w2 ⟨rfl, hk2⟩; have HK2 := Lib.hid hk2; clear hk2))
          have hl1 := H.out.kept HK2.out
          have H1 := Lib.hid hl1
          have cx := hl1.cell (q := k * 6 + j) (by omega)
          have fx := hl1.free (k * 6 + j)
          have hb := hl1.2 (k * 6 + j)
          have HA := Lib.hid (hl1.add (k * 6 + j)).drew
          clear hl1
          generalize hX : F (k * 6 + j) = X at *
          have hwr : IntKind.i64.wrap (X + 1) = X + 1 := wrap_i64 (by omega) (by omega)
          go_wp2
          refine wp_region_late (fun W => W.cell? ⟨g, k * 6 + j, none⟩ = some (.int .i64 X)) [13] (.yes 0 (.yes 1 (.yes 2 (.yes 3 (.yes 4 (.yes 5 (.yes 6 (.yes 7 (.yes 8 (.yes 9 (.yes 10 (.yes 11 (.yes 12 (.one 13 .nil)))))))))))))) (by kernel_rfl) (by kernel_rfl) (by kernel_rfl) (by kernel_rfl) cx ?_
          (repeat (refine wpSchL_yes (v := ?_) rfl (fun _ _ _ h => h) (by rfl) ?_ ?_; rotate_left; (next => (intro w hSw; (try dsimp only at hSw); go_simp; (try with_reducible rfl))); (try simp only [Act.put, List.setIfInBounds_toArray, List.set_cons_zero, List.set_cons_succ])))
          refine wpSchL_one ?_
          refine wpOneL_call rfl (by rfl) (fun K hK => ?_)
          go_simp
          refine hK.out _ _ ?_ (fun hHeld => ?_)
          · exact fun h => absurd h (by decide)
          clear hK K hHeld
          (try simp only [Act.put, List.setIfInBounds_toArray, List.set_cons_zero, List.set_cons_succ])
          refine wpSchL_nil ?_
          go_wp2
          go_ret
          exact ⟨ret_i HE.out.1.symm, by rw [HE.out.2]; exact HA.out, ((HK2.out.mono (T := fun k => k = g) (fun _ h => h.elim)).setCell (p := ⟨g, k * 6 + j, none⟩) (.inl rfl) _).drew⟩
end Go.Proofs.Ytcgpoplnfkhhbaa
