/-
  The calls of package buffer (New, Write, Take, Acked, Unsent, Held, Written) answer what the document says. Conditions: the Buffer lies in memory as New makes it, or is nil; what was written fits 63 bits.
-/
import Derived.Test.YthkehdoolnjjeaaNum
import Derived.Test.YthkehdoolnjjeaaObj
import Derived.Test.YthkehdoolnjjeaaRoom
import Derived.Test.YthkehdoolnjjeaaChecked
import Derived.WalkSpells
import Derived.WalkLawsBesides
import Derived.LoopTactic
import Derived.LoopN
import Derived.Deep.QuietTactic
import Derived.Deep.DeepCutAuto
import Derived.Deep.Draws
import Derived.BigQuiet
import Derived.Laws.ResultCell
set_option linter.unusedVariables false
set_option linter.unusedSimpArgs false
namespace Go.Proofs.Ythkehdoolnjjeaa
open Go.RowKit
set_option maxRecDepth 100000

/-- A buffer: for how many bytes; base, taken, written. -/
structure Bst where
  r : Int
  b : Int
  t : Int
  w : Int
structure Bst.Ok (x : Bst) : Prop where
  b0 : 0 ≤ x.b
  bt : x.b ≤ x.t
  tw : x.t ≤ x.w
  wr : x.w - x.b ≤ x.r
  r1 : x.r ≤ 1073741824
  hi : x.w ≤ 9223372036854775807
def roomB (n : Int) : Int := max 0 (min n 1073741824)
abbrev newB (n : Int) : Bst := ⟨roomB n, 0, 0, 0⟩
theorem newB_ok (n : Int) : (newB n).Ok := ⟨Int.le_refl 0, Int.le_refl 0, Int.le_refl 0, by show (0 : Int) - 0 ≤ roomB n; unfold roomB; omega, by show roomB n ≤ _; unfold roomB; omega, show (0 : Int) ≤ 9223372036854775807 by decide⟩
def wrE (x : Bst) (n : Int) : Int := if n < 1 then 1 else if x.r - (x.w - x.b) < n then 5 else 0
def wrX (x : Bst) (n : Int) : Bst := if n < 1 ∨ x.r - (x.w - x.b) < n then x else { x with w := x.w + n }
/-- How many bytes a Take has. -/
def tkK (x : Bst) (m : Int) : Int := if m < 1 then 0 else min m (x.w - x.t)
def tkX (x : Bst) (m : Int) : Bst := { x with t := x.t + tkK x m }
def tkB (x : Bst) (m : Int) : Bool := decide (0 < tkK x m)
def tkF (x : Bst) (m : Int) : Int := if 0 < tkK x m then x.t else 0
def tkT (x : Bst) (m : Int) : Int := if 0 < tkK x m then x.t + tkK x m else 0
def akE (x : Bst) (u : Int) : Int := if x.t < u then 11 else 0
def akX (x : Bst) (u : Int) : Bst := if x.t < u then x else { x with b := max x.b u }
theorem Bst.Ok.wr_ {x : Bst} (h : x.Ok) {n : Int} (hb : x.w + 1073741824 ≤ 9223372036854775807) : (wrX x n).Ok := by
  unfold wrX
  by_cases hc : n < 1 ∨ x.r - (x.w - x.b) < n
  · rw [if_pos hc]; exact h
  · rw [if_neg hc]
    obtain ⟨h1, h2, h3, h4, h5, h6⟩ := h
    exact ⟨h1, h2, by show x.t ≤ x.w + n; omega, by show x.w + n - x.b ≤ x.r; omega, h5, by show x.w + n ≤ _; omega⟩
theorem tkK_bd {x : Bst} (h : x.Ok) (m : Int) : 0 ≤ tkK x m ∧ tkK x m ≤ x.w - x.t := by
  have := h.tw
  unfold tkK; split <;> omega
theorem Bst.Ok.tk_ {x : Bst} (h : x.Ok) (m : Int) : (tkX x m).Ok := by
  have hk := tkK_bd h m
  obtain ⟨h1, h2, h3, h4, h5, h6⟩ := h
  exact ⟨h1, by show x.b ≤ x.t + tkK x m; omega, by show x.t + tkK x m ≤ x.w; omega, h4, h5, h6⟩
theorem Bst.Ok.ak_ {x : Bst} (h : x.Ok) (u : Int) : (akX x u).Ok := by
  obtain ⟨h1, h2, h3, h4, h5, h6⟩ := h
  unfold akX
  split
  · exact ⟨h1, h2, h3, h4, h5, h6⟩
  · exact ⟨by show 0 ≤ max x.b u; omega, by show max x.b u ≤ x.t; omega, h3, by show x.w - max x.b u ≤ x.r; omega, h5, h6⟩
theorem wrX_w (x : Bst) (n : Int) (h : x.Ok) : (wrX x n).w ≤ x.w + 1073741824 := by
  unfold wrX
  by_cases hc : n < 1 ∨ x.r - (x.w - x.b) < n
  · rw [if_pos hc]; omega
  · rw [if_neg hc]
    obtain ⟨h1, h2, h3, h4, h5, h6⟩ := h
    show x.w + n ≤ _; omega

abbrev bufC (x : Bst) : Array Value := #[.int .u64 x.r, .int .u64 x.b, .int .u64 x.t, .int .u64 x.w]
/-- A Buffer of package buffer. -/
structure BufAt (w : World) (g : Nat) (x : Bst) : Prop where
  whole : Whole w g 47 (bufC x)
  ok : x.Ok
def bufT (g : Nat) (x : Bst) : Thing := ⟨fun w => BufAt w g x, fun k => k = g, fun h hk hs => ⟨h.whole.keep hk (hs g rfl), h.ok⟩, fun h e => e ▸ h.whole.lt⟩

set_option maxHeartbeats 400000 in
theorem bunew_any (n : Int) (w : World) : Calls Try.prog 7 #[.int .i64 n] w fun e w' => e = .returned (.pointer (some ⟨w.heap.size, 0, none⟩)) ∧ BufAt w' w.heap.size (newB n) ∧ Keep (fun _ => False) w w' := by
  have hR : Hid (∀ v, v = roomB n → Whole (w.alloc (.cells #[.int .u64 v, .int .u64 0, .int .u64 0, .int .u64 0] 47)) w.heap.size 47 (bufC (newB n))) := Lib.hid (fun v e => by rw [e]; exact Whole.new _ _ _)
  go_enter Try.func7, Try.ntmps7
  go_wp2
  all_goals
    go_ret
    exact ⟨rfl, ⟨hR.out _ (by unfold roomB; omega), newB_ok n⟩, (Keep.refl _ _).alloc _⟩
section
variable {w : World} {g : Nat} {x : Bst}
set_option maxHeartbeats 1000000 in
theorem buunsent_any (h : BufAt w g x) : Calls Try.prog 15 #[.pointer (some ⟨g, 0, none⟩)] w fun e w' => e = .returned (.int .u64 (x.w - x.t)) ∧ Keep (fun _ => False) w w' := by
  have c2 : w.cell? ⟨g, 2, none⟩ = some (.int .u64 x.t) := h.whole.cell 2
  have c3 : w.cell? ⟨g, 3, none⟩ = some (.int .u64 x.w) := h.whole.cell 3
  have h1 := h.ok.b0; have h2 := h.ok.bt; have h3 := h.ok.tw; have h4 := h.ok.hi
  clear h
  go_enter Try.func15, Try.ntmps15
  go_wp2
  go_quiet (fail)
  go_wp2
  go_ret
  exact ⟨rfl, (Keep.refl _ _).drewN _⟩
set_option maxHeartbeats 1000000 in
theorem buheld_any (h : BufAt w g x) : Calls Try.prog 16 #[.pointer (some ⟨g, 0, none⟩)] w fun e w' => e = .returned (.int .u64 (x.w - x.b)) ∧ ∃ n, w' = w.drewN n := by
  have c2 : w.cell? ⟨g, 1, none⟩ = some (.int .u64 x.b) := h.whole.cell 1
  have c3 : w.cell? ⟨g, 3, none⟩ = some (.int .u64 x.w) := h.whole.cell 3
  have h1 := h.ok.b0; have h2 := h.ok.bt; have h3 := h.ok.tw; have h4 := h.ok.hi
  clear h
  go_enter Try.func16, Try.ntmps16
  go_wp2
  go_quiet (fail)
  go_wp2
  go_ret
  exact ⟨rfl, _, rfl⟩
theorem buwritten_any (h : BufAt w g x) : Calls Try.prog 17 #[.pointer (some ⟨g, 0, none⟩)] w fun e w' => e = .returned (.int .u64 x.w) ∧ w = w' := by
  have c3 : w.cell? ⟨g, 3, none⟩ = some (.int .u64 x.w) := h.whole.cell 3
  clear h
  go_enter Try.func17, Try.ntmps17
  go_wp2
  go_ret
  exact ⟨rfl, rfl⟩
set_option maxHeartbeats 1000000 in
theorem buacked_any (h : BufAt w g x) (u : Int) (hu : 0 ≤ u) : Calls Try.prog 11 #[.pointer (some ⟨g, 0, none⟩), .int .u64 u] w fun e w' => e = .returned (.int .i64 (akE x u)) ∧ BufAt w' g (akX x u) ∧ Keep (fun k => k = g) w w' := by
  have c1 : w.cell? ⟨g, 1, none⟩ = some (.int .u64 x.b) := h.whole.cell 1
  have c2 : w.cell? ⟨g, 2, none⟩ = some (.int .u64 x.t) := h.whole.cell 2
  have f1 : w.frozen? ⟨g, 1, none⟩ = false := h.whole.free 1
  have H := Lib.hid h
  clear h
  go_enter Try.func11, Try.ntmps11
  by_cases hlt : x.t < u
  · have e1 : akE x u = 11 := if_pos hlt
    have e2 : akX x u = x := if_pos hlt
    rw [e1, e2]
    clear e1 e2
    go_wp2
    go_ret
    exact ⟨rfl, H.out, Keep.refl _ _⟩
  · have e1 : akE x u = 0 := if_neg hlt
    have e2 : akX x u = { x with b := max x.b u } := if_neg hlt
    have HO := Lib.hid (show ∀ v, v = max x.b u → BufAt (w.setCell ⟨g, 1, none⟩ (.int .u64 v)) g { x with b := max x.b u } from fun v e => by
      have ho := H.out.ok.ak_ u
      rw [e2] at ho
      rw [e]
      exact ⟨H.out.whole.put 1 _, ho⟩)
    rw [e1, e2]
    clear e1 e2
    go_wp2
    all_goals
      go_ret
      exact ⟨rfl, HO.out _ (by omega), (Keep.refl (fun k => k = g) w).setCell (p := ⟨g, 1, none⟩) (.inl rfl) _⟩
set_option maxHeartbeats 1000000 in
theorem buwrite_any (h : BufAt w g x) (n : Int) (hn : n ≤ 9223372036854775807) (hb : x.w + 1073741824 ≤ 9223372036854775807) : Calls Try.prog 13 #[.pointer (some ⟨g, 0, none⟩), .int .i64 n] w fun e w' => e = .returned (.int .i64 (wrE x n)) ∧ BufAt w' g (wrX x n) ∧ Keep (fun k => k = g) w w' := by
  have c0 : w.cell? ⟨g, 0, none⟩ = some (.int .u64 x.r) := h.whole.cell 0
  have h1 := h.ok.b0; have h2 := h.ok.bt; have h3 := h.ok.tw; have h4 := h.ok.wr; have h5 := h.ok.r1
  have H := Lib.hid h
  clear h
  go_enter Try.func13, Try.ntmps13
  by_cases hc : n < 1
  · have e1 : wrE x n = 1 := if_pos hc
    have e2 : wrX x n = x := if_pos (.inl hc)
    rw [e1, e2]
    clear e1 e2
    go_wp2
    go_ret
    exact ⟨rfl, H.out, Keep.refl _ _⟩
  · have HH := Lib.hid (show ∀ m, BufAt (w.drewN m) g x from fun m => ⟨H.out.whole.drewN m, H.out.ok⟩)
    by_cases hf : x.r - (x.w - x.b) < n
    · have e1 : wrE x n = 5 := (if_neg (by omega)).trans (if_pos hf)
      have e2 : wrX x n = x := if_pos (.inr hf)
      rw [e1, e2]
      clear e1 e2
      go_wp2
      go_quiet ((go_at_call 16; exact Calls.quiet_of (buheld_any (HH.out _))))
      have HW := Lib.hid (HH.out nq)
      have HK := Lib.hid ((Keep.refl (fun k => k = g) w).drewN nq)
      clear c0 HH H
      generalize w.drewN nq = w1 at *
      go_wp2
      go_ret
      exact ⟨rfl, HW.out, HK.out⟩
    · have e1 : wrE x n = 0 := (if_neg (by omega)).trans (if_neg hf)
      have e2 : wrX x n = { x with w := x.w + n } := if_neg (by omega)
      have ho := H.out.ok.wr_ (n := n) hb
      rw [e2] at ho
      have HO := Lib.hid ho
      rw [e1, e2]
      clear e1 e2 ho
      go_wp2
      go_quiet ((go_at_call 16; exact Calls.quiet_of (buheld_any (HH.out _))))
      have HW := Lib.hid (HH.out nq)
      have HK := Lib.hid ((Keep.refl (fun k => k = g) w).drewN nq)
      clear c0 HH H
      generalize w.drewN nq = w1 at *
      have c3 : w1.cell? ⟨g, 3, none⟩ = some (.int .u64 x.w) := HW.out.whole.cell 3
      have f3 : w1.frozen? ⟨g, 3, none⟩ = false := HW.out.whole.free 3
      go_wp2
      go_ret
      exact ⟨rfl, ⟨HW.out.whole.put 3 _, HO.out⟩, HK.out.setCell (p := ⟨g, 3, none⟩) (.inl rfl) _⟩
set_option maxHeartbeats 1000000 in
theorem buwalk_any (h : BufAt w g x) (m : Int) (hm1 : 1 ≤ m) (hm : m ≤ 9223372036854775807) (hu : x.t < x.w) : Calls Try.prog 18 #[.pointer (some ⟨g, 0, none⟩), .int .u64 m] w fun e w' => (∃ v, e = .returned v) ∧ BufAt w' g (tkX x m) ∧ Keep (fun k => k = g) w w' := by
  obtain ⟨k, hk⟩ : ∃ k, tkK x m = k := ⟨_, rfl⟩
  have hk1 : k = min m (x.w - x.t) := by rw [← hk]; unfold tkK; rw [if_neg (by omega)]
  have e2 : tkX x m = { x with t := x.t + k } := by unfold tkX; rw [hk]
  have ho := h.ok.tk_ m
  rw [e2] at ho ⊢
  have h3 := h.ok.tw; have h4 := h.ok.hi; have h0 : 0 ≤ x.t := Int.le_trans h.ok.b0 h.ok.bt
  have H := Lib.hid h; have HO := Lib.hid ho
  have HK1 := Lib.hid hk1
  have hk2 : 1 ≤ k ∧ k ≤ m ∧ k ≤ x.w - x.t := by omega
  clear h ho hk e2 hk1
  obtain ⟨hk2, hk3, hk4⟩ := hk2
  go_enter Try.func18, Try.ntmps18
  go_wp2
  go_step3
  go_wp2
  go_step3
  go_wp2
  refine wp_loop_rounds 2 ?_
  rw [rounds_succ]
  go_wp2_with fail
  refine (buunsent_any H.out).mono ?_
  rintro e w1 ⟨rfl, k1⟩
  have H1 := Lib.hid (show BufAt w1 g x from ⟨H.out.whole.keep k1 id, H.out.ok⟩)
  have K1 := Lib.hid (k1.mono (T := fun k => k = g) (fun _ h => h.elim))
  clear k1 H
  go_upto_region 1 with fail
  rw [show (if x.w - x.t < m then x.w - x.t else m) = k by have := HK1.out; split <;> omega]
  have hb : (k == 0) = false := by simp; omega
  have c2 : w1.cell? ⟨g, 2, none⟩ = some (.int .u64 x.t) := H1.out.whole.cell 2
  have f2 : w1.frozen? ⟨g, 2, none⟩ = false := H1.out.whole.free 2
  have H2 := Lib.hid (show BufAt (w1.setCell ⟨g, 2, none⟩ (.int .u64 (x.t + k))) g { x with t := x.t + k } from ⟨H1.out.whole.put 2 _, HO.out⟩)
  have K2 := Lib.hid (K1.out.setCell (p := ⟨g, 2, none⟩) (.inl rfl) (.int .u64 (x.t + k)))
  clear H1 K1
  go_upto_region 3 with fail
  clear c2 f2 hb
  generalize World.setCell w1 _ _ = w2 at *
  go_wp2
  rw [rounds_succ]
  go_wp2_with fail
  refine (buunsent_any H2.out).mono ?_
  rintro e w3 ⟨rfl, k3⟩
  have H3 := Lib.hid (show BufAt w3 g { x with t := x.t + k } from ⟨H2.out.whole.keep k3 id, H2.out.ok⟩)
  have K3 := Lib.hid (K2.out.trans (k3.mono (T := fun k => k = g) (fun _ h => h.elim)))
  clear k3 H2 K2
  dsimp only
  go_upto_region 1 with fail
  rw [show (if x.w - (x.t + k) < m - k then x.w - (x.t + k) else m - k) = 0 by have := HK1.out; split <;> omega]
  go_wp2
  try rw [Exit.noGoto_normal]
  go_end0
  exact ⟨⟨_, rfl⟩, H3.out, K3.out⟩
set_option maxHeartbeats 1000000 in
/-- What a Take answers. -/
theorem butake_any (h : BufAt w g x) (m : Int) (hm : m ≤ 9223372036854775807) : Calls Try.prog 9 #[.pointer (some ⟨g, 0, none⟩), .int .i64 m] w fun e w' => e = .returned (.tuple #[.agg #[.int .u64 (tkF x m), .int .u64 (tkT x m)], .bool (tkB x m)]) ∧ BufAt w' g (tkX x m) ∧ Keep (fun k => k = g) w w' := by
  have h3 := h.ok.tw; have h4 := h.ok.hi; have h0 : 0 ≤ x.t := Int.le_trans h.ok.b0 h.ok.bt
  have hZ := Whole.new w 33 #[.int .u64 0, .int .u64 0]
  have HA := Lib.hid (show BufAt (w.alloc (.cells #[.int .u64 0, .int .u64 0] 33)) g x from ⟨h.whole.alloc _, h.ok⟩)
  have HK := Lib.hid ((Keep.refl (fun k => k = g) w).alloc (.cells #[.int .u64 0, .int .u64 0] 33))
  have HZ := Lib.hid hZ
  have HG : Hid (g ≠ w.heap.size) := Lib.hid (by have := h.whole.lt; omega)
  clear h hZ
  by_cases hc : m < 1 ∨ x.w = x.t
  · have hk : tkK x m = 0 := by unfold tkK; split <;> omega
    have e1 : tkB x m = false := by unfold tkB; rw [hk]; rfl
    have e2 : tkF x m = 0 := by unfold tkF; rw [hk]; rfl
    have e3 : tkT x m = 0 := by unfold tkT; rw [hk]; rfl
    have e4 : tkX x m = x := by unfold tkX; rw [hk, Int.add_zero]
    rw [e1, e2, e3, e4]
    clear e1 e2 e3 e4 hk
    go_enter Try.func9, Try.ntmps9
    generalize hB : w.heap.size = B at *
    by_cases h1 : m < 1
    · clear hc
      go_wp2
      refine bodyPost_ret (v := .tuple #[.agg #[.int .u64 0, .int .u64 0], .bool false]) (by rw [results_cell_tmp rfl]; go_simp) rfl ?_
      exact ⟨rfl, HA.out, HK.out⟩
    · have hxx : x.w = x.t := by omega
      have HX := Lib.hid hxx
      clear hc hxx
      go_wp2_with fail
      refine (buunsent_any HA.out).mono ?_
      rintro e w1 ⟨rfl, k1⟩
      have HZ1 := HZ.out.keep k1 id
      have HP := Lib.hid ((HZ1.put 0 (.int .u64 0)).put 1 (.int .u64 0))
      have HAP := Lib.hid (show BufAt _ g x from ⟨((HA.out.whole.keep k1 id).far (p := ⟨B, 0, none⟩) HG.out (.int .u64 0)).far (p := ⟨B, 1, none⟩) HG.out (.int .u64 0), HA.out.ok⟩)
      have HKP := Lib.hid (((HK.out.trans (k1.mono (T := fun k => k = g) (fun _ h => h.elim))).setCell (p := ⟨B, 0, none⟩) (.inr (by rw [hB]; exact Nat.le_refl _)) (.int .u64 0)).setCell (p := ⟨B, 1, none⟩) (.inr (by rw [hB]; exact Nat.le_refl _)) (.int .u64 0))
      have f0 := HZ1.free 0; have f1 := (HZ1.put 0 (.int .u64 0)).free 1
      have c0 : w1.cell? ⟨B, 0, none⟩ = some (.int .u64 0) := HZ1.cell 0
      have c1 : (w1.setCell ⟨B, 0, none⟩ (.int .u64 0)).cell? ⟨B, 1, none⟩ = some (.int .u64 0) := (HZ1.put 0 (.int .u64 0)).cell 1
      rw [HX.out, Int.sub_self]
      clear k1 HA HK HZ HZ1
      go_wp2
      clear f0 f1 c0 c1
      generalize World.setCell (World.setCell w1 _ _) _ _ = w2 at *
      have p0 := HP.out.cell 0; have p1 := HP.out.cell 1
      simp only [List.getElem?_toArray, List.getElem?_cons_zero, List.getElem?_cons_succ, List.setIfInBounds_toArray, List.set_cons_zero, List.set_cons_succ] at p0 p1
      try rw [Exit.noGoto_ret]
      refine bodyPost_ret (v := .tuple #[.agg #[.int .u64 0, .int .u64 0], .bool false]) (by rw [results_cell_tmp rfl]; go_simp) rfl ?_
      exact ⟨rfl, HAP.out, HKP.out⟩
  · obtain ⟨k, hk⟩ : ∃ k, tkK x m = k := ⟨_, rfl⟩
    have hk1 : k = min m (x.w - x.t) := by rw [← hk]; unfold tkK; rw [if_neg (by omega)]
    have e1 : tkB x m = true := by unfold tkB; rw [hk]; simp; omega
    have e2 : tkF x m = x.t := by unfold tkF; rw [hk]; exact if_pos (by omega)
    have e3 : tkT x m = x.t + k := by unfold tkT; rw [hk]; exact if_pos (by omega)
    have hm1 : 1 ≤ m := by omega
    have hu : x.t < x.w := by omega
    have h1 : ¬ m < 1 := by omega
    have hb : (x.w - x.t == 0) = false := by simp; omega
    have HX : Hid (tkX x m = { x with t := x.t + k }) := Lib.hid (by unfold tkX; rw [hk])
    rw [e1, e2, e3]
    have HM1 := Lib.hid hm1; have HU := Lib.hid hu
    clear e1 e2 e3 hk hk1 hc hm1 hu
    go_enter Try.func9, Try.ntmps9
    generalize hB : w.heap.size = B at *
    go_wp2_with fail
    refine (buunsent_any HA.out).mono ?_
    rintro e w1 ⟨rfl, k1⟩
    have HZ1 := Lib.hid (HZ.out.keep k1 id)
    have HA1 := Lib.hid (show BufAt w1 g x from ⟨HA.out.whole.keep k1 id, HA.out.ok⟩)
    have HK1 := Lib.hid (HK.out.trans (k1.mono (T := fun k => k = g) (fun _ h => h.elim)))
    have c2 : w1.cell? ⟨g, 2, none⟩ = some (.int .u64 x.t) := HA1.out.whole.cell 2
    clear k1 HA HK HZ
    go_wp2_with fail
    refine (buwalk_any HA1.out m HM1.out hm HU.out).mono ?_
    rintro e w2 ⟨⟨ev, rfl⟩, h2, k2⟩
    have HZ2 := HZ1.out.keep k2 (fun e => HG.out e.symm)
    have c2 : w2.cell? ⟨g, 2, none⟩ = some (.int .u64 (x.t + k)) := by
      have := h2.whole.cell 2
      rw [HX.out] at this
      exact this
    have HP := Lib.hid ((HZ2.put 0 (.int .u64 x.t)).put 1 (.int .u64 (x.t + k)))
    have HAP := Lib.hid (show BufAt _ g (tkX x m) from ⟨(h2.whole.far (p := ⟨B, 0, none⟩) HG.out (.int .u64 x.t)).far (p := ⟨B, 1, none⟩) HG.out (.int .u64 (x.t + k)), h2.ok⟩)
    have HKP := Lib.hid (((HK1.out.trans k2).setCell (p := ⟨B, 0, none⟩) (.inr (by rw [hB]; exact Nat.le_refl _)) (.int .u64 x.t)).setCell (p := ⟨B, 1, none⟩) (.inr (by rw [hB]; exact Nat.le_refl _)) (.int .u64 (x.t + k)))
    have f0 := HZ2.free 0; have f1 := (HZ2.put 0 (.int .u64 x.t)).free 1
    have c0 : w2.cell? ⟨B, 0, none⟩ = some (.int .u64 0) := HZ2.cell 0
    have c1 : (w2.setCell ⟨B, 0, none⟩ (.int .u64 x.t)).cell? ⟨B, 1, none⟩ = some (.int .u64 0) := (HZ2.put 0 (.int .u64 x.t)).cell 1
    clear HZ1 HA1 HK1 HZ2 h2 k2 hb
    go_wp2
    clear f0 f1 c0 c1 c2
    generalize World.setCell (World.setCell w2 _ _) _ _ = w3 at *
    have p0 := HP.out.cell 0; have p1 := HP.out.cell 1
    simp only [List.getElem?_toArray, List.getElem?_cons_zero, List.getElem?_cons_succ, List.setIfInBounds_toArray, List.set_cons_zero, List.set_cons_succ] at p0 p1
    try rw [Exit.noGoto_ret]
    refine bodyPost_ret (v := .tuple #[.agg #[.int .u64 x.t, .int .u64 (x.t + k)], .bool true]) (by rw [results_cell_tmp rfl]; go_simp) rfl ?_
    exact ⟨rfl, HAP.out, HKP.out⟩
end

/-! ### A nil buffer -/
theorem buunsent_nil (w : World) : Calls Try.prog 15 #[.pointer none] w fun e w' => e = .returned (.int .u64 0) ∧ w = w' := by
  go_enter Try.func15, Try.ntmps15
  go_wp2
  go_ret
  exact ⟨rfl, rfl⟩
theorem buheld_nil (w : World) : Calls Try.prog 16 #[.pointer none] w fun e w' => e = .returned (.int .u64 0) ∧ w = w' := by
  go_enter Try.func16, Try.ntmps16
  go_wp2
  go_ret
  exact ⟨rfl, rfl⟩
theorem buwritten_nil (w : World) : Calls Try.prog 17 #[.pointer none] w fun e w' => e = .returned (.int .u64 0) ∧ w = w' := by
  go_enter Try.func17, Try.ntmps17
  go_wp2
  go_ret
  exact ⟨rfl, rfl⟩
theorem buacked_nil (u : Int) (w : World) : Calls Try.prog 11 #[.pointer none, .int .u64 u] w fun e w' => e = .returned (.int .i64 2) ∧ w = w' := by
  go_enter Try.func11, Try.ntmps11
  go_wp2
  go_ret
  exact ⟨rfl, rfl⟩
theorem buwrite_nil (n : Int) (w : World) : Calls Try.prog 13 #[.pointer none, .int .i64 n] w fun e w' => e = .returned (.int .i64 2) ∧ w = w' := by
  go_enter Try.func13, Try.ntmps13
  go_wp2
  go_ret
  exact ⟨rfl, rfl⟩
theorem butake_nil (w : World) : Calls Try.prog 9 #[.pointer none, .int .i64 1] w fun e w' => e = .returned (.tuple #[.agg #[.int .u64 0, .int .u64 0], .bool false]) ∧ Keep (fun _ => False) w w' := by
  have K := Lib.hid (((Keep.refl (fun _ => False) w).alloc (.cells #[.int .u64 0, .int .u64 0] 33)))
  have HZ := Lib.hid (Whole.new w 33 #[.int .u64 0, .int .u64 0])
  go_enter Try.func9, Try.ntmps9
  generalize hB : w.heap.size = B at *
  go_wp2_with fail
  refine (buunsent_nil _).mono ?_
  rintro e w2 ⟨rfl, rfl⟩
  go_wp2
  refine bodyPost_ret (v := .tuple #[.agg #[.int .u64 0, .int .u64 0], .bool false]) (by rw [results_cell_tmp rfl]; go_simp) rfl ?_
  exact ⟨rfl, K.out⟩
end Go.Proofs.Ythkehdoolnjjeaa
