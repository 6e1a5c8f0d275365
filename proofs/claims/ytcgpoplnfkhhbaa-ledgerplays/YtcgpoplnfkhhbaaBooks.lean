/-
  The calls of canterref04.Books (Note, Count, All) answer what the ledger's do. Conditions: the books lie in memory and mirror the numbers F; these are at most a thousand each.
-/
import Derived.Test.YtcgpoplnfkhhbaaEqSix
namespace Go.Proofs.Ytcgpoplnfkhhbaa
open Go.RowKit

structure Mirror (F B : Nat → Int) : Prop where
  f : ∀ i j, i < 8 → j < 6 → B (i * 8 + 1 + j) = F (i * 6 + j)
  q : ∀ i, i < 8 → B (i * 8 + 7) = waitN F i
  s : ∀ i, i < 8 → 0 < F (i * 6) → B (i * 8) = i
/-- The books at g, of the numbers F. -/
structure BookIn (w : World) (g n : Nat) (F B : Nat → Int) : Prop where
  st : Whole w g 31 (rowN 64 B)
  mir : Mirror F B
  bd : ∀ q, 0 ≤ F q ∧ F q ≤ n
def BookAt (w : World) (g n : Nat) (F : Nat → Int) : Prop := ∃ B, BookIn w g n F B
section
variable {w w' : World} {g n : Nat} {F B : Nat → Int} {R : Nat → Prop}
theorem BookIn.cell (h : BookIn w g n F B) {q : Nat} (hq : q < 64) : w.cell? ⟨g, q, none⟩ = some (.int .i64 (B q)) := by rw [h.st.cell q, rowN_get B hq]
theorem BookAt.keep (h : BookAt w g n F) (hk : Keep R w w') (hg : ¬ R g) : BookAt w' g n F := by obtain ⟨B, h⟩ := h; exact ⟨B, h.st.keep hk hg, h.mir, h.bd⟩
theorem BookAt.kept (h : BookAt w g n F) (hk : Keep (fun _ => False) w w') : BookAt w' g n F := h.keep hk id
theorem BookAt.lt (h : BookAt w g n F) : g < w.heap.size := by obtain ⟨B, h⟩ := h; exact h.st.lt
theorem BookAt.mono {m : Nat} (h : BookAt w g n F) (hm : n ≤ m) : BookAt w g m F := by obtain ⟨B, h⟩ := h; exact ⟨B, h.st, h.mir, fun q => by have := h.bd q; omega⟩
end
theorem book_put {w : World} {g : Nat} {B : Nat → Int} (h : Whole w g 31 (rowN 64 B)) (q : Nat) (x : Int) : Whole (w.setCell ⟨g, q, none⟩ (.int .i64 x)) g 31 (rowN 64 (updN B q x)) := by rw [← rowN_set]; exact h.put q _
theorem book_cell {w : World} {g : Nat} {B : Nat → Int} (h : Whole w g 31 (rowN 64 B)) {q : Nat} (hq : q < 64) : w.cell? ⟨g, q, none⟩ = some (.int .i64 (B q)) := by rw [h.cell q, rowN_get B hq]
theorem Mirror.zero : Mirror (fun _ => 0) (fun _ => 0) := ⟨fun _ _ _ _ => rfl, fun i _ => by simp [waitN], fun i _ h => absurd h (by decide)⟩
theorem Mirror.note {F B : Nat → Int} (h : Mirror F B) {k j : Nat} (hk : k < 8) (hj : j < 6) {x y : Int} (hx : F (k * 6 + j) + 1 = x) (hy : (if j = 0 then waitN F k + 1 else waitN F k - 1) = y) :
    Mirror (updN F (k * 6 + j) x) (updN (updN (updN B (k * 8) k) (k * 8 + 1 + j) x) (k * 8 + 7) y) := by
  subst hx
  refine ⟨fun i j' hi hj' => ?_, fun i hi => ?_, fun i hi hp => ?_⟩
  · rw [updN_ne _ _ (by omega)]
    by_cases e : i = k ∧ j' = j
    · obtain ⟨rfl, rfl⟩ := e
      rw [updN_same, updN_same]
    · rw [updN_ne _ _ (by omega), updN_ne _ _ (by omega), updN_ne _ _ (by omega)]
      exact h.f i j' hi hj'
  · rw [waitN_add F k j i hj]
    by_cases e : i = k
    · subst e
      rw [updN_same, if_pos rfl, hy]
    · rw [if_neg e, updN_ne _ _ (by omega), updN_ne _ _ (by omega), updN_ne _ _ (by omega)]
      exact h.q i hi
  · rw [updN_ne _ _ (by omega), updN_ne _ _ (by omega)]
    by_cases e : i = k
    · subst e
      rw [updN_same]
    · rw [updN_ne _ _ (by omega)]
      refine h.s i hi ?_
      rwa [updN_ne _ _ (by omega)] at hp

theorem book_new (w : World) : BookAt (w.alloc (.cells (rowN 64 (fun _ => 0)) 31)) w.heap.size 0 (fun _ => 0) := ⟨fun _ => 0, Whole.new _ _ _, Mirror.zero, fun _ => ⟨Int.le_refl _, Int.le_refl _⟩⟩

theorem bounds_add {F : Nat → Int} {n : Nat} (h : ∀ q, 0 ≤ F q ∧ F q ≤ n) (q : Nat) {x : Int} (hx : F q + 1 = x) : ∀ p, 0 ≤ updN F q x p ∧ updN F q x p ≤ (n + 1 : Nat) := fun p => by
  have h1 := h p; have h2 := h q
  unfold updN
  split <;> (constructor <;> omega)
set_option maxHeartbeats 1000000 in
theorem bnote_any (g n : Nat) (F : Nat → Int) (sock fate : Int) (w : World) (hn : n ≤ 1000) (h : BookAt w g n F) :
    Calls Try.prog 9 #[.pointer (some ⟨g, 0, none⟩), .int .i64 sock, .int .i64 fate] w fun e w' => e = .returned (.int .i64 (noteE F sock fate)) ∧ BookAt w' g (n + 1) (noteF F sock fate) ∧ Keep (fun k => k = g) w w' := by
  have HL : Hid (BookAt w g (n + 1) F) := Lib.hid (h.mono (by omega))
  obtain ⟨B, h⟩ := h
  have H := Lib.hid h
  by_cases h1 : sock < 0 ∨ 8 ≤ sock
  · have HE : Hid (noteE F sock fate = 8 ∧ noteF F sock fate = F) := Lib.hid (by
      have : noteE F sock fate = 8 := if_pos h1
      exact ⟨this, if_neg (by rw [this]; decide)⟩)
    clear h
    by_cases h2 : sock < 0
    · clear h1
      go_enter Try.func9, Try.ntmps9
      go_wp2
      go_ret
      exact ⟨ret_i HE.out.1.symm, by rw [HE.out.2]; exact HL.out, Keep.refl _ _⟩
    · have h3 : 8 ≤ sock := by omega
      clear h1
      go_enter Try.func9, Try.ntmps9
      go_wp2
      go_ret
      exact ⟨ret_i HE.out.1.symm, by rw [HE.out.2]; exact HL.out, Keep.refl _ _⟩
  · obtain ⟨k, rfl⟩ : ∃ k : Nat, sock = k := ⟨sock.toNat, by omega⟩
    have hk : k < 8 := by omega
    have hi1 : (k : Int) < 8 := by omega
    have hi0 : ¬ (8 : Int) ≤ (k : Int) := by omega
    by_cases h2 : fate < 0 ∨ 5 < fate
    · have HE : Hid (noteE F k fate = 1 ∧ noteF F k fate = F) := Lib.hid (by
        have : noteE F k fate = 1 := (if_neg h1).trans (if_pos h2)
        exact ⟨this, if_neg (by rw [this]; decide)⟩)
      clear h h1
      by_cases h3 : fate < 0
      · clear h2
        go_enter Try.func9, Try.ntmps9
        go_wp2
        go_ret
        exact ⟨ret_i HE.out.1.symm, by rw [HE.out.2]; exact HL.out, Keep.refl _ _⟩
      · have h4 : 5 < fate := by omega
        clear h2
        go_enter Try.func9, Try.ntmps9
        go_wp2
        go_ret
        exact ⟨ret_i HE.out.1.symm, by rw [HE.out.2]; exact HL.out, Keep.refl _ _⟩
    · obtain ⟨j, rfl⟩ : ∃ j : Nat, fate = j := ⟨fate.toNat, by omega⟩
      have hj : j < 6 := by omega
      have hi2 : (j : Int) < 6 := by omega
      have hi3 : ¬ (5 : Int) < (j : Int) := by omega
      have c7 := h.cell (q := k * 8 + 7) (by omega)
      rw [h.mir.q k hk] at c7
      by_cases h3 : (j : Int) ≠ 0 ∧ waitN F k = 0
      · have HE : Hid (noteE F k j = 7 ∧ noteF F k j = F) := Lib.hid (by
          have : noteE F k j = 7 := (if_neg h1).trans ((if_neg h2).trans (if_pos (by simpa using h3)))
          exact ⟨this, if_neg (by rw [this]; decide)⟩)
        have hjz : ((j : Int) != 0) = true := by simp; omega
        rw [h3.2] at c7
        clear h h1 h2 h3
        go_enter Try.func9, Try.ntmps9
        go_wp2
        go_ret
        exact ⟨ret_i HE.out.1.symm, by rw [HE.out.2]; exact HL.out, Keep.refl _ _⟩
      · have hE0 : noteE F k j = 0 := (if_neg h1).trans ((if_neg h2).trans (if_neg (by simpa using h3)))
        have HE : Hid (noteE F k j = 0 ∧ noteF F k j = updN F (k * 6 + j) (F (k * 6 + j) + 1)) := Lib.hid ⟨hE0, if_pos hE0⟩
        clear hE0
        have cS := h.cell (q := k * 8) (by omega)
        have fS := h.st.free (k * 8)
        have w1 := book_put h.st (k * 8) (k : Int)
        have cx1 := book_cell w1 (q := k * 8 + 1 + j) (by omega)
        rw [updN_ne _ _ (by omega), h.mir.f k j hk hj] at cx1
        have fx1 := w1.free (k * 8 + 1 + j)
        have hbx := h.bd (k * 6 + j)
        have HB3 := Lib.hid (bounds_add h.bd (k * 6 + j) rfl)
        generalize hX : F (k * 6 + j) = X at *
        have w2 := book_put w1 (k * 8 + 1 + j) (X + 1)
        have c72 := book_cell w2 (q := k * 8 + 7) (by omega)
        rw [updN_ne _ _ (by omega), updN_ne _ _ (by omega), h.mir.q k hk] at c72
        have f72 := w2.free (k * 8 + 7)
        have hwr : IntKind.i64.wrap (X + 1) = X + 1 := wrap_i64 (by omega) (by omega)
        have hrb : -5000 ≤ waitN F k ∧ waitN F k ≤ 1000 := by
          have b0 := h.bd (k * 6); have b1 := h.bd (k * 6 + 1); have b2 := h.bd (k * 6 + 2); have b3 := h.bd (k * 6 + 3); have b4 := h.bd (k * 6 + 4); have b5 := h.bd (k * 6 + 5)
          unfold waitN; omega
        by_cases h4 : j = 0
        · have hjz : ((j : Int) != 0) = false := by simp; omega
          have hjz' : ((j : Int) == 0) = true := by simp; omega
          have HW3 := Lib.hid (book_put w2 (k * 8 + 7) (waitN F k + 1)).drew
          have HM := Lib.hid (h.mir.note hk hj (by rw [hX]) (if_pos h4))
          have HK3 := Lib.hid ((((Keep.refl (fun k => k = g) w).setCell (p := ⟨g, k * 8, none⟩) (.inl rfl) (.int .i64 k)).setCell (p := ⟨g, k * 8 + 1 + j, none⟩) (.inl rfl) (.int .i64 (X + 1))).setCell (p := ⟨g, k * 8 + 7, none⟩) (.inl rfl) (.int .i64 (waitN F k + 1))).drew
          generalize hR : waitN F k = R at *
          have hwr2 : IntKind.i64.wrap (R + 1) = R + 1 := wrap_i64 (by omega) (by omega)
          clear h h1 h2 h3 h4 w1 w2 hX hR
          go_enter Try.func9, Try.ntmps9
          go_wp2
          refine wp_region_late (fun W => W.cell? ⟨g, k * 8 + 1 + j, none⟩ = some (.int .i64 X)) [10] (.yes 0 (.yes 1 (.yes 2 (.yes 3 (.yes 4 (.yes 5 (.yes 6 (.yes 7 (.yes 8 (.yes 9 (.one 10 .nil))))))))))) (by kernel_rfl) (by kernel_rfl) (by kernel_rfl) (by kernel_rfl) cx1 ?_
          (repeat (refine wpSchL_yes (v := ?_) rfl (fun _ _ _ h => h) (by rfl) ?_ ?_; rotate_left; (next => (intro w hSw; (try dsimp only at hSw); go_simp; (try with_reducible rfl))); (try simp only [Act.put, List.setIfInBounds_toArray, List.set_cons_zero, List.set_cons_succ])))
          refine wpSchL_one ?_
          refine wpOneL_call rfl (by rfl) (fun K hK => ?_)
          go_simp
          refine hK.out _ _ ?_ (fun hHeld => ?_)
          · exact fun h => absurd h (by decide)
          clear hK K hHeld
          (try simp only [Act.put, List.setIfInBounds_toArray, List.set_cons_zero, List.set_cons_succ])
          refine wpSchL_nil ?_
          go_wp2
          go_ret
          refine ⟨ret_i HE.out.1.symm, ⟨_, HW3.out, ?_, ?_⟩, HK3.out⟩
          · rw [HE.out.2]; exact HM.out
          · rw [HE.out.2]; exact HB3.out
        · have hjz : ((j : Int) != 0) = true := by simp; omega
          have hjz' : ((j : Int) == 0) = false := by simp; omega
          have hwz : (waitN F k == 0) = false := by simp; omega
          have HW3 := Lib.hid (book_put w2 (k * 8 + 7) (waitN F k - 1)).drew
          have HM := Lib.hid (h.mir.note hk hj (by rw [hX]) (if_neg h4))
          have HK3 := Lib.hid ((((Keep.refl (fun k => k = g) w).setCell (p := ⟨g, k * 8, none⟩) (.inl rfl) (.int .i64 k)).setCell (p := ⟨g, k * 8 + 1 + j, none⟩) (.inl rfl) (.int .i64 (X + 1))).setCell (p := ⟨g, k * 8 + 7, none⟩) (.inl rfl) (.int .i64 (waitN F k - 1))).drew
          generalize hR : waitN F k = R at *
          have hwr2 : IntKind.i64.wrap (R - 1) = R - 1 := wrap_i64 (by omega) (by omega)
          clear h h1 h2 h3 h4 w1 w2 hX hR
          go_enter Try.func9, Try.ntmps9
          go_wp2
          refine wp_region_late (fun W => W.cell? ⟨g, k * 8 + 1 + j, none⟩ = some (.int .i64 X)) [10] (.yes 0 (.yes 1 (.yes 2 (.yes 3 (.yes 4 (.yes 5 (.yes 6 (.yes 7 (.yes 8 (.yes 9 (.one 10 .nil))))))))))) (by kernel_rfl) (by kernel_rfl) (by kernel_rfl) (by kernel_rfl) cx1 ?_
          (repeat (refine wpSchL_yes (v := ?_) rfl (fun _ _ _ h => h) (by rfl) ?_ ?_; rotate_left; (next => (intro w hSw; (try dsimp only at hSw); go_simp; (try with_reducible rfl))); (try simp only [Act.put, List.setIfInBounds_toArray, List.set_cons_zero, List.set_cons_succ])))
          refine wpSchL_one ?_
          refine wpOneL_call rfl (by rfl) (fun K hK => ?_)
          go_simp
          refine hK.out _ _ ?_ (fun hHeld => ?_)
          · exact fun h => absurd h (by decide)
          clear hK K hHeld
          (try simp only [Act.put, List.setIfInBounds_toArray, List.set_cons_zero, List.set_cons_succ])
          refine wpSchL_nil ?_
          go_wp2
          go_ret
          refine ⟨ret_i HE.out.1.symm, ⟨_, HW3.out, ?_, ?_⟩, HK3.out⟩
          · rw [HE.out.2]; exact HM.out
          · rw [HE.out.2]; exact HB3.out

theorem BookIn.eight {w : World} {g n k : Nat} {F B : Nat → Int} (h : BookIn w g n F B) (hk : k < 8) :
    w.cell? ⟨g, k * 8, none⟩ = some (.int .i64 (B (k * 8))) ∧ w.cell? ⟨g, k * 8 + 1, none⟩ = some (.int .i64 (F (k * 6))) ∧ w.cell? ⟨g, k * 8 + 2, none⟩ = some (.int .i64 (F (k * 6 + 1))) ∧ w.cell? ⟨g, k * 8 + 3, none⟩ = some (.int .i64 (F (k * 6 + 2))) ∧ w.cell? ⟨g, k * 8 + 4, none⟩ = some (.int .i64 (F (k * 6 + 3))) ∧ w.cell? ⟨g, k * 8 + 5, none⟩ = some (.int .i64 (F (k * 6 + 4))) ∧ w.cell? ⟨g, k * 8 + 6, none⟩ = some (.int .i64 (F (k * 6 + 5))) ∧ w.cell? ⟨g, k * 8 + 7, none⟩ = some (.int .i64 (waitN F k)) := by
  have c : ∀ j, j < 6 → w.cell? ⟨g, k * 8 + 1 + j, none⟩ = some (.int .i64 (F (k * 6 + j))) := fun j hj => by rw [h.cell (by omega), h.mir.f k j hk hj]
  exact ⟨h.cell (by omega), c 0 (by decide), c 1 (by decide), c 2 (by decide), c 3 (by decide), c 4 (by decide), c 5 (by decide), by rw [h.cell (by omega), h.mir.q k hk]⟩

set_option maxHeartbeats 1000000 in
theorem bcount_any (g n : Nat) (F : Nat → Int) (sock : Int) (w : World) (h : BookAt w g n F) :
    Calls Try.prog 11 #[.pointer (some ⟨g, 0, none⟩), .int .i64 sock] w fun e w' => e = .returned (.tuple #[cv (countC F sock), .int .i64 (checkE sock)]) ∧ Keep (fun _ => False) w w' := by
  have HK : Hid (Keep (fun _ => False) w (w.alloc (.cells #[.int .i64 0, .int .i64 0, .int .i64 0, .int .i64 0, .int .i64 0, .int .i64 0, .int .i64 0, .int .i64 0] 28))) := Lib.hid ((Keep.refl _ w).alloc _)
  by_cases h1 : sock < 0 ∨ 8 ≤ sock
  · have HC : Hid (checkE sock = 8) := Lib.hid (if_pos h1)
    have HV : Hid (countC F sock = Cnt.zero) := Lib.hid (if_pos h1)
    clear h
    by_cases h2 : sock < 0
    · clear h1
      go_enter Try.func11, Try.ntmps11
      go_wp2
      refine bodyPost_ret (v := .tuple #[.agg #[.int .i64 0, .int .i64 0, .int .i64 0, .int .i64 0, .int .i64 0, .int .i64 0, .int .i64 0, .int .i64 0], .int .i64 8]) (by rw [results_cell_tmp rfl]; go_simp) rfl ?_
      exact ⟨ret_tup (by rw [HV.out]; rfl) HC.out.symm, HK.out⟩
    · have h3 : 8 ≤ sock := by omega
      clear h1
      go_enter Try.func11, Try.ntmps11
      go_wp2
      refine bodyPost_ret (v := .tuple #[.agg #[.int .i64 0, .int .i64 0, .int .i64 0, .int .i64 0, .int .i64 0, .int .i64 0, .int .i64 0, .int .i64 0], .int .i64 8]) (by rw [results_cell_tmp rfl]; go_simp) rfl ?_
      exact ⟨ret_tup (by rw [HV.out]; rfl) HC.out.symm, HK.out⟩
  · have HC : Hid (checkE sock = 0) := Lib.hid (if_neg h1)
    obtain ⟨k, rfl⟩ : ∃ k : Nat, sock = k := ⟨sock.toNat, by omega⟩
    have hk : k < 8 := by omega
    have hi1 : (k : Int) < 8 := by omega
    have hi0 : ¬ (8 : Int) ≤ (k : Int) := by omega
    have HV : Hid (countC F k = cntN F k) := Lib.hid (if_neg h1)
    obtain ⟨B, h⟩ := h.kept HK.out
    obtain ⟨d0, d1, d2, d3, d4, d5, d6, d7⟩ := h.eight hk
    obtain ⟨x0, x1, x2, x3, x4, x5, x6, x7, hx⟩ : ∃ x0 x1 x2 x3 x4 x5 x6 x7, cntN F k = ⟨x0, x1, x2, x3, x4, x5, x6, x7⟩ := ⟨_, _, _, _, _, _, _, _, rfl⟩
    have HX := Lib.hid hx
    have hx0 : (k : Int) = x0 := congrArg Cnt.s hx
    have HX0 := Lib.hid hx0
    rw [show F (k * 6) = x1 from congrArg Cnt.a0 hx] at d1
    rw [show F (k * 6 + 1) = x2 from congrArg Cnt.a1 hx] at d2
    rw [show F (k * 6 + 2) = x3 from congrArg Cnt.a2 hx] at d3
    rw [show F (k * 6 + 3) = x4 from congrArg Cnt.a3 hx] at d4
    rw [show F (k * 6 + 4) = x5 from congrArg Cnt.a4 hx] at d5
    rw [show F (k * 6 + 5) = x6 from congrArg Cnt.a5 hx] at d6
    rw [show waitN F k = x7 from congrArg Cnt.q hx] at d7
    clear h h1 hx hx0
    generalize B (k * 8) = y at *
    go_enter Try.func11, Try.ntmps11
    go_wp2
    refine bodyPost_ret (v := .tuple #[.agg #[.int .i64 k, .int .i64 x1, .int .i64 x2, .int .i64 x3, .int .i64 x4, .int .i64 x5, .int .i64 x6, .int .i64 x7], .int .i64 0]) (by rw [results_cell_tmp rfl]; go_simp) rfl ?_
    exact ⟨ret_tup (by rw [HV.out, HX.out, HX0.out]; rfl) HC.out.symm, ((Keep.refl _ w).alloc _).alloc _⟩

set_option maxHeartbeats 1000000 in
theorem ball_any (g n : Nat) (F : Nat → Int) (w : World) (h : BookAt w g n F) :
    Calls Try.prog 16 #[.pointer (some ⟨g, 0, none⟩)] w fun e w' => ∃ v, e = .returned v ∧ OwnsC w' v (knownL F 8) ∧ (∀ k, v.ownBlock = some k → w.heap.size ≤ k) ∧ Keep (fun _ => False) w w' := by
  obtain ⟨i0, hi, hz0, hz1, hz2⟩ := info_parts Try.infoCnt
  have HI := Lib.hid hi; have HZ0 := Lib.hid hz0; have HZ1 := Lib.hid hz1; have HZ2 := Lib.hid hz2; clear hi hz0 hz1 hz2
  have H := Lib.hid h; clear h
  go_enter Try.func16, Try.ntmps16
  go_wp2
  go_loopw [3, 4] (fun v i wr => ∃ k : Nat, k ≤ 8 ∧ i = .int .i64 k ∧ OwnsC wr v (knownL F k) ∧ (∀ j, v.ownBlock = some j → w.heap.size ≤ j) ∧ Keep (fun _ => False) w wr) (fun _ i _ => 8 - (intOf i).toNat)
  case atStart => exact ⟨0, by decide, rfl, OwnsC.nil _, fun j h => (by cases h), Keep.refl _ _⟩
  case round =>
    obtain ⟨k, hk, rfl, ho, hnew, hkp⟩ := hrel
    obtain ⟨a, c, hv, _⟩ := ho.shape
    subst hv
    have HO := Lib.hid ho; have HN := Lib.hid hnew; have HKP := Lib.hid hkp
    clear ho hnew hkp
    by_cases hlt : k < 8
    · have hik : (k : Int) < 8 := by omega
      obtain ⟨B, hB⟩ := H.out.kept HKP.out
      obtain ⟨d0, d1, d2, d3, d4, d5, d6, d7⟩ := hB.eight hlt
      have hkl := knownL_len F k
      have hsk := hB.mir.s k hlt
      clear hB
      by_cases hit : 0 < F (k * 6)
      · have HK1 := Lib.hid (knownL_hit F k hit)
        rw [hsk hit] at d0
        obtain ⟨x0, x1, x2, x3, x4, x5, x6, x7, hx⟩ : ∃ x0 x1 x2 x3 x4 x5 x6 x7, cntN F k = ⟨x0, x1, x2, x3, x4, x5, x6, x7⟩ := ⟨_, _, _, _, _, _, _, _, rfl⟩
        rw [show (k : Int) = x0 from congrArg Cnt.s hx] at d0
        rw [show F (k * 6) = x1 from congrArg Cnt.a0 hx] at d1 hit
        rw [show F (k * 6 + 1) = x2 from congrArg Cnt.a1 hx] at d2
        rw [show F (k * 6 + 2) = x3 from congrArg Cnt.a2 hx] at d3
        rw [show F (k * 6 + 3) = x4 from congrArg Cnt.a3 hx] at d4
        rw [show F (k * 6 + 4) = x5 from congrArg Cnt.a4 hx] at d5
        rw [show F (k * 6 + 5) = x6 from congrArg Cnt.a5 hx] at d6
        rw [show waitN F k = x7 from congrArg Cnt.q hx] at d7
        rw [hx] at HK1
        clear hx hsk
        generalize hLL : knownL F k = L at *
        clear hLL
        go_wp2_with (at_builtin; refine wpList_append_rows rfl _ _ 41 rfl 28 i0 _ 8 64 Try.underlying41 HI.out HZ0.out HZ1.out HZ2.out rfl (by decide) (.slice a L.length c) L.length (flatC L) rfl (HO.out.alloc _) (some ⟨wr.heap.size, 0, none⟩) 1 1 (cells8 ⟨x0, x1, x2, x3, x4, x5, x6, x7⟩) rfl rfl (fun h => (by cases h)) (row_news wr (cells8 ⟨x0, x1, x2, x3, x4, x5, x6, x7⟩) 28) (one_cells8 _) (by unfold maxLen; omega) (by omega) ?_; intro v' w3 hown hk3 hnew3 _; rw [flatC_app] at hown; have HO3 := Lib.hid hown; have HK3 := Lib.hid hk3; have HN3 := Lib.hid hnew3; clear hown hk3 hnew3)
        go_roundw
        case rel =>
          refine ⟨k + 1, by omega, by go_num, ?_, fun j hj => ?_, ?_⟩
          · rw [HK1.out]; unfold OwnsC; rw [List.length_append, List.length_singleton]; exact HO3.out
          · rcases HN3.out j hj with h | h
            · exact HN.out j h
            · have := HKP.out.size; simp at h; omega
          · refine (HKP.out.alloc _).then HK3.out (fun j hj hl => ?_)
            have := HN.out j hj; omega
        case measure => simp [intOf]; omega
      · have HK1 := Lib.hid (knownL_miss F k hit)
        generalize hLL : knownL F k = L at *
        clear hLL hsk d0 d2 d3 d4 d5 d6 d7
        generalize F (k * 6) = x1 at *
        go_wp2
        go_roundw
        case rel => exact ⟨k + 1, by omega, by go_num, by rw [HK1.out]; exact HO.out, HN.out, HKP.out⟩
        case measure => simp [intOf]; omega
    · obtain rfl : k = 8 := by omega
      go_wp2
      go_ret
      exact ⟨_, rfl, HO.out, HN.out, HKP.out⟩

/-! ### Plain of counts -/
set_option maxHeartbeats 400000 in
theorem eqc_any (x : Cnt) (w : World) :
    Calls Try.prog 21 #[cv x, cv x] w fun e w' => e = .returned (.bool true) ∧ Keep (fun _ => False) w w' := by
  have heq := Try.eqCnt
  obtain ⟨x0, x1, x2, x3, x4, x5, x6, x7⟩ := x
  unfold cv
  dsimp only
  go_enter Try.func21, Try.ntmps21
  go_wp2
  go_ret
  exact ⟨rfl, ((Keep.refl _ _).alloc _).alloc _⟩

/-- The slice that begins at 'a' holds the counts cs. -/
def RdC (w : World) (a : Option Addr) (cs : List Cnt) : Prop := ∀ i c, cs[i]? = some c → ∃ b off, a = some ⟨b, off, none⟩ ∧ b < w.heap.size ∧ ∀ j, j < 8 → w.cell? ⟨b, off + (i * 8 + j), none⟩ = (cells8 c)[j]?
theorem RdC.keep {S : Nat → Prop} {w w' : World} {a : Option Addr} {cs : List Cnt} (h : RdC w a cs) (hk : Keep S w w') (hs : ∀ b off, a = some ⟨b, off, none⟩ → ¬ S b) : RdC w' a cs := by
  intro i c hi
  obtain ⟨b, off, e, hlt, h1⟩ := h i c hi
  exact ⟨b, off, e, Nat.lt_of_lt_of_le hlt hk.size, fun j hj => (hk.cell (p := ⟨b, _, none⟩) hlt (hs b off e)).trans (h1 j hj)⟩
theorem RdC.kept {w w' : World} {a : Option Addr} {cs : List Cnt} (h : RdC w a cs) (hk : Keep (fun _ => False) w w') : RdC w' a cs := h.keep hk (fun _ _ _ h => h)
theorem OwnsC.rd {w : World} {a : Option Addr} {n c : Nat} {cs : List Cnt} (h : OwnsC w (.slice a n c) cs) : RdC w a cs := by
  rcases h.cntsAt with ⟨e, rfl⟩ | ⟨b, cap, e, hb, hc⟩
  · intro i c hi; simp at hi
  · cases e
    exact fun i c hi => ⟨b, 0, rfl, hb, fun j hj => by rw [Nat.zero_add]; exact hc i c j hi hj⟩

def At8 (b o : Nat) (x0 x1 x2 x3 x4 x5 x6 x7 : Int) (W : World) : Prop := W.cell? ⟨b, o, none⟩ = some (.int .i64 x0) ∧ W.cell? ⟨b, o + 1, none⟩ = some (.int .i64 x1) ∧ W.cell? ⟨b, o + 2, none⟩ = some (.int .i64 x2) ∧ W.cell? ⟨b, o + 3, none⟩ = some (.int .i64 x3) ∧ W.cell? ⟨b, o + 4, none⟩ = some (.int .i64 x4) ∧ W.cell? ⟨b, o + 5, none⟩ = some (.int .i64 x5) ∧ W.cell? ⟨b, o + 6, none⟩ = some (.int .i64 x6) ∧ W.cell? ⟨b, o + 7, none⟩ = some (.int .i64 x7)
theorem at8_of {W : World} {b o i : Nat} {x0 x1 x2 x3 x4 x5 x6 x7 : Int} (h : ∀ j, j < 8 → W.cell? ⟨b, o + (i * 8 + j), none⟩ = (cells8 ⟨x0, x1, x2, x3, x4, x5, x6, x7⟩)[j]?) : At8 b (o + i * 8) x0 x1 x2 x3 x4 x5 x6 x7 W :=
  ⟨h 0 (by decide), h 1 (by decide), h 2 (by decide), h 3 (by decide), h 4 (by decide), h 5 (by decide), h 6 (by decide), h 7 (by decide)⟩

set_option maxHeartbeats 2000000 in
theorem samec_any (a b : Option Addr) (ca cb : Nat) (cs : List Cnt) (w : World) (hlen : cs.length ≤ 1000) (ha : RdC w a cs) (hb : RdC w b cs) :
    Calls Try.prog 20 #[.slice a cs.length ca, .slice b cs.length cb, .func (.func 21) #[] #[]] w fun e w' => e = .returned (.bool true) ∧ Keep (fun _ => False) w w' := by
  have HA := Lib.hid ha; have HB := Lib.hid hb; clear ha hb
  go_enter Try.func20, Try.ntmps20
  go_wp2
  go_loopw [7] (fun i wr => ∃ k : Nat, k ≤ cs.length ∧ i = .int .i64 k ∧ Keep (fun _ => False) w wr) (fun i _ => cs.length - (intOf i).toNat)
  case atStart => exact ⟨0, Nat.zero_le _, rfl, Keep.refl _ _⟩
  case round =>
    obtain ⟨k, hk, rfl, hw⟩ := hrel
    have HW := Lib.hid hw; clear hw
    by_cases hlt : k < cs.length
    · obtain ⟨c, hkc⟩ : ∃ c, cs[k]? = some c := ⟨_, List.getElem?_eq_getElem hlt⟩
      have HSS : Hid (∀ W, Keep (fun _ => False) w W → ∃ b1 o1 b2 o2, a = some ⟨b1, o1, none⟩ ∧ b = some ⟨b2, o2, none⟩ ∧ At8 b1 (o1 + k * 8) c.s c.a0 c.a1 c.a2 c.a3 c.a4 c.a5 c.q W ∧ At8 b2 (o2 + k * 8) c.s c.a0 c.a1 c.a2 c.a3 c.a4 c.a5 c.q W) := Lib.hid (fun W hW => by
        obtain ⟨b1, o1, e1, _, c1⟩ := HA.out.kept hW k c hkc
        obtain ⟨b2, o2, e2, _, c2⟩ := HB.out.kept hW k c hkc
        exact ⟨b1, o1, b2, o2, e1, e2, at8_of c1, at8_of c2⟩)
      obtain ⟨b1, o1, b2, o2, rfl, rfl, _, _⟩ := HSS.out w (Keep.refl _ _)
      have HS2 : Hid (∀ W, Keep (fun _ => False) w W → At8 b1 (o1 + k * 8) c.s c.a0 c.a1 c.a2 c.a3 c.a4 c.a5 c.q W ∧ At8 b2 (o2 + k * 8) c.s c.a0 c.a1 c.a2 c.a3 c.a4 c.a5 c.q W) := Lib.hid (fun W hW => by
        obtain ⟨_, _, _, _, e1, e2, h1, h2⟩ := HSS.out W hW
        cases e1; cases e2; exact ⟨h1, h2⟩)
      clear HSS HA HB hkc
      have HEQ := Lib.hid (fun W => eqc_any c W)
      obtain ⟨x0, x1, x2, x3, x4, x5, x6, x7⟩ := c
      unfold cv at HEQ
      dsimp only at HEQ HS2
      have hi1 : (k : Int) < (cs.length : Int) := by omega
      have HS3 : Hid (∀ W, Keep (fun _ => False) w W → W.cell? ⟨b1, o1 + k * 8, none⟩ = some (.int .i64 x0) ∧ W.cell? ⟨b1, o1 + k * 8 + 1, none⟩ = some (.int .i64 x1) ∧ W.cell? ⟨b1, o1 + k * 8 + 2, none⟩ = some (.int .i64 x2) ∧ W.cell? ⟨b1, o1 + k * 8 + 3, none⟩ = some (.int .i64 x3) ∧ W.cell? ⟨b1, o1 + k * 8 + 4, none⟩ = some (.int .i64 x4) ∧ W.cell? ⟨b1, o1 + k * 8 + 5, none⟩ = some (.int .i64 x5) ∧ W.cell? ⟨b1, o1 + k * 8 + 6, none⟩ = some (.int .i64 x6) ∧ W.cell? ⟨b1, o1 + k * 8 + 7, none⟩ = some (.int .i64 x7) ∧ At8 b2 (o2 + k * 8) x0 x1 x2 x3 x4 x5 x6 x7 W) := Lib.hid (fun W hW => by
        obtain ⟨⟨h0, h1, h2, h3, h4, h5, h6, h7⟩, h8⟩ := HS2.out W hW
        exact ⟨h0, h1, h2, h3, h4, h5, h6, h7, h8⟩)
      clear HS2
      unfold At8 at HS3
      go_wp2
      refine wp_region_sch (fun W => W.cell? ⟨b1, o1 + k * 8, none⟩ = some (.int .i64 x0) ∧ W.cell? ⟨b1, o1 + k * 8 + 1, none⟩ = some (.int .i64 x1) ∧ W.cell? ⟨b1, o1 + k * 8 + 2, none⟩ = some (.int .i64 x2) ∧ W.cell? ⟨b1, o1 + k * 8 + 3, none⟩ = some (.int .i64 x3) ∧ W.cell? ⟨b1, o1 + k * 8 + 4, none⟩ = some (.int .i64 x4) ∧ W.cell? ⟨b1, o1 + k * 8 + 5, none⟩ = some (.int .i64 x5) ∧ W.cell? ⟨b1, o1 + k * 8 + 6, none⟩ = some (.int .i64 x6) ∧ W.cell? ⟨b1, o1 + k * 8 + 7, none⟩ = some (.int .i64 x7) ∧ W.cell? ⟨b2, o2 + k * 8, none⟩ = some (.int .i64 x0) ∧ W.cell? ⟨b2, o2 + k * 8 + 1, none⟩ = some (.int .i64 x1) ∧ W.cell? ⟨b2, o2 + k * 8 + 2, none⟩ = some (.int .i64 x2) ∧ W.cell? ⟨b2, o2 + k * 8 + 3, none⟩ = some (.int .i64 x3) ∧ W.cell? ⟨b2, o2 + k * 8 + 4, none⟩ = some (.int .i64 x4) ∧ W.cell? ⟨b2, o2 + k * 8 + 5, none⟩ = some (.int .i64 x5) ∧ W.cell? ⟨b2, o2 + k * 8 + 6, none⟩ = some (.int .i64 x6) ∧ W.cell? ⟨b2, o2 + k * 8 + 7, none⟩ = some (.int .i64 x7)) [(true, 0), (true, 1), (true, 2), (true, 3), (true, 4), (true, 5), (true, 6), (true, 7), (true, 8), (false, 9), (true, 10)] (by kernel_rfl) (by kernel_rfl) (by kernel_rfl) (by kernel_rfl) (HS3.out _ HW.out.drew) ?_
      (repeat (refine wpSch_yes (v := ?_) rfl (fun _ _ _ h => h) (by rfl) ?_ ?_; rotate_left; (next => (intro w hSw; (try dsimp only at hSw); obtain ⟨hS0, hS1, hS2, hS3, hS4, hS5, hS6, hS7, hR0, hR1, hR2, hR3, hR4, hR5, hR6, hR7⟩ := hSw; go_simp; (try with_reducible rfl))); (try simp only [Act.put, List.setIfInBounds_toArray, List.set_cons_zero, List.set_cons_succ])))
      refine wpSch_call rfl (by rfl) (fun K hK => ?_)
      go_simp
      refine (HEQ.out _).mono ?_
      rintro e w2 ⟨rfl, k2⟩
      have K2 := Lib.hid (HW.out.drew.trans k2); clear k2
      refine hK.out _ _ (HS3.out _ K2.out) (fun hHeld => ?_)
      clear hK K hHeld
      (try simp only [Act.put, List.setIfInBounds_toArray, List.set_cons_zero, List.set_cons_succ])
      (repeat (refine wpSch_yes (v := ?_) rfl (fun _ _ _ h => h) (by rfl) ?_ ?_; rotate_left; (next => (intro w hSw; (try dsimp only at hSw); obtain ⟨hS0, hS1, hS2, hS3, hS4, hS5, hS6, hS7, hR0, hR1, hR2, hR3, hR4, hR5, hR6, hR7⟩ := hSw; go_simp; (try with_reducible rfl))); (try simp only [Act.put, List.setIfInBounds_toArray, List.set_cons_zero, List.set_cons_succ])))
      refine wpSch_nil ?_
      go_wp2
      go_roundw
      case rel => exact ⟨k + 1, by omega, by go_num, K2.out⟩
      case measure => simp [intOf]; omega
    · clear HA HB
      go_wp2
      go_ret
      exact ⟨rfl, HW.out⟩

theorem plainc_any (a b : Option Addr) (ca cb : Nat) (cs : List Cnt) (w : World) (hlen : cs.length ≤ 1000) (ha : RdC w a cs) (hb : RdC w b cs) :
    Calls Try.prog 13 #[.slice a cs.length ca, .slice b cs.length cb] w fun e w' => e = .returned (.bool true) ∧ Keep (fun _ => False) w w' := by
  have HA := Lib.hid ha; have HB := Lib.hid hb; clear ha hb
  go_enter Try.func13, Try.ntmps13
  go_wp2_with fail
  refine (samec_any a b ca cb cs w hlen HA.out HB.out).mono ?_
  rintro e w2 ⟨rfl, k2⟩
  have K2 := Lib.hid k2; clear k2
  go_wp2
  go_ret
  exact ⟨rfl, K2.out⟩
end Go.Proofs.Ytcgpoplnfkhhbaa
