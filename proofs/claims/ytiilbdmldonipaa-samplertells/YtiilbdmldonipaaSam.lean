/-
  The calls of package sampler (New, Delivered, Limit; newest) answer what the document says. Conditions: the sampler lies in memory as New makes it, or is nil; the numbers are of their kind.
-/
import Derived.Test.YtiilbdmldonipaaSamSt
import Derived.Test.YtiilbdmldonipaaSchedL
import Derived.Test.YtiilbdmldonipaaChecked
import Derived.WalkSpells
import Derived.WalkLawsBesides
import Derived.LoopTactic
import Derived.LoopN
import Derived.Deep.QuietTactic
import Derived.Deep.DeepCutAuto
import Derived.Deep.Draws
import Derived.BigQuiet
import Derived.Laws.ResultCell
namespace Go.Proofs.Ytiilbdmldonipaa
open Go.RowKit

abbrev smpC (x : Smp) : Array Value := #[.int .u64 x.d, .int .u64 x.u, .int .u64 x.f, .int .u64 x.m, .int .u64 x.a, .bool x.s, .int .u64 x.p, .int .u64 x.q, .bool x.l, .int .u64 x.e, .int .u64 x.r]
/-- A sampler of package sampler. -/
structure SamAt (w : World) (g : Nat) (x : Smp) : Prop where
  whole : Whole w g 51 (smpC x)
  fit : x.Fit
section
variable {w w' : World} {g : Nat} {x : Smp} {R : Nat → Prop}
theorem SamAt.keep (h : SamAt w g x) (hk : Keep R w w') (hg : ¬ R g) : SamAt w' g x := ⟨h.whole.keep hk hg, h.fit⟩
theorem SamAt.kept (h : SamAt w g x) (hk : Keep (fun _ => False) w w') : SamAt w' g x := h.keep hk id
theorem SamAt.drewN (h : SamAt w g x) (m : Nat) : SamAt (w.drewN m) g x := ⟨h.whole.drewN m, h.fit⟩
theorem SamAt.drew (h : SamAt w g x) : SamAt w.drew g x := ⟨h.whole.drew, h.fit⟩
theorem SamAt.alloc (h : SamAt w g x) (o : Obj) : SamAt (w.alloc o) g x := ⟨h.whole.alloc o, h.fit⟩
theorem SamAt.lt (h : SamAt w g x) : g < w.heap.size := h.whole.lt
end

set_option maxHeartbeats 400000 in
theorem snew_any (w : World) : Calls Try.prog 7 #[] w fun e w' => e = .returned (.pointer (some ⟨w.heap.size, 0, none⟩)) ∧ SamAt w' w.heap.size newS ∧ Keep (fun _ => False) w w' := by
  go_enter Try.func7, Try.ntmps7
  go_wp2
  go_ret
  exact ⟨rfl, ⟨Whole.new _ _ _, fit_newS⟩, (Keep.refl _ _).alloc _⟩

theorem sdel_nil (w : World) : Calls Try.prog 17 #[.pointer none] w fun e w' => e = .returned (.int .u64 0) ∧ w = w' := by
  go_enter Try.func17, Try.ntmps17
  go_wp2
  go_ret
  exact ⟨rfl, rfl⟩
set_option maxHeartbeats 400000 in
theorem sdel_any (g : Nat) (x : Smp) (w : World) (h : SamAt w g x) : Calls Try.prog 17 #[.pointer (some ⟨g, 0, none⟩)] w fun e w' => e = .returned (.int .u64 x.d) ∧ w = w' := by
  have c0 : w.cell? ⟨g, 0, none⟩ = some (.int .u64 x.d) := h.whole.cell 0
  clear h
  go_enter Try.func17, Try.ntmps17
  go_wp2
  go_ret
  exact ⟨rfl, rfl⟩

theorem slim_nil (fl : Int) (w : World) : Calls Try.prog 13 #[.pointer none, .int .u64 fl] w fun e w' => (∃ v, e = .returned v) ∧ w = w' := by
  go_enter Try.func13, Try.ntmps13
  go_wp2
  refine bodyPost_ret (results_none rfl _ _ _) rfl ?_
  exact ⟨⟨_, rfl⟩, rfl⟩
set_option maxHeartbeats 1000000 in
theorem slim_any (g : Nat) (fl : Int) (x : Smp) (w : World) (h : SamAt w g x) (hf : Num fl) :
    Calls Try.prog 13 #[.pointer (some ⟨g, 0, none⟩), .int .u64 fl] w fun e w' => (∃ v, e = .returned v) ∧ SamAt w' g (limS x fl) ∧ Keep (fun k => k = g) w w' := by
  have c0 : w.cell? ⟨g, 0, none⟩ = some (.int .u64 x.d) := h.whole.cell 0
  have f3 := h.whole.free 3
  have c3 : w.cell? ⟨g, 3, none⟩ = some (.int .u64 x.m) := h.whole.cell 3
  have hb := h.fit.d
  have H : Hid (∀ m, Num m → topI (satAdd x.d fl) 1 = m → SamAt (w.setCell ⟨g, 3, none⟩ (.int .u64 m)) g (limS x fl) ∧ Keep (fun k => k = g) w (w.setCell ⟨g, 3, none⟩ (.int .u64 m))) := Lib.hid (fun m _ e => by
    subst e
    exact ⟨⟨h.whole.put 3 _, h.fit.lim hf⟩, (Keep.refl (fun k => k = g) w).setCell (p := ⟨g, 3, none⟩) (.inl rfl) _⟩)
  have HA := Lib.hid (add_any x.d fl hb.1 hb.2 hf.1 hf.2)
  have hn := num_add hb hf
  clear h hb hf
  generalize satAdd x.d fl = A at *
  obtain ⟨_, _⟩ := hn
  rcases Int.lt_trichotomy A 1 with h | h | h
  · go_enter Try.func13, Try.ntmps13
    go_wp2_with (go_at_call 18; refine (HA.out _).mono ?_; rintro e w' ⟨rfl, rfl⟩)
    go_end0
    exact ⟨⟨_, rfl⟩, H.out _ ⟨by omega, by omega⟩ (if_pos (by omega))⟩
  · subst h
    go_enter Try.func13, Try.ntmps13
    go_wp2_with (go_at_call 18; refine (HA.out _).mono ?_; rintro e w' ⟨rfl, rfl⟩)
    go_end0
    exact ⟨⟨_, rfl⟩, H.out _ ⟨by omega, by omega⟩ (if_pos (by omega))⟩
  · go_enter Try.func13, Try.ntmps13
    go_wp2_with (go_at_call 18; refine (HA.out _).mono ?_; rintro e w' ⟨rfl, rfl⟩)
    go_end0
    exact ⟨⟨_, rfl⟩, H.out _ ⟨by omega, by omega⟩ (if_neg (by omega))⟩

set_option maxHeartbeats 1000000 in
/-- Of two, the first of which is there: the first, but where the second is there, and had more delivered. -/
theorem newest_any (b : Nat) (p p' q q' e e' r r' : Int) (s l l' : Bool) (w : World) (h : Whole w b 49 #[.bool true, .int .u64 p, .int .u64 q, .bool l, .int .u64 e, .int .u64 r, .bool s, .int .u64 p', .int .u64 q', .bool l', .int .u64 e', .int .u64 r']) :
    Calls Try.prog 20 #[.slice (some ⟨b, 0, none⟩) 2 2] w fun e w' => e = .returned (.int .i64 (if s = false ∨ p' ≤ p then 0 else 1)) ∧ Keep (fun _ => False) w w' := by
  have H := Lib.hid h
  have hlt := h.lt
  have c0 : w.cell? ⟨b, 0, none⟩ = some (.bool true) := h.cell 0
  have c1 : w.cell? ⟨b, 1, none⟩ = some (.int .u64 p) := h.cell 1
  have c2 : w.cell? ⟨b, 2, none⟩ = some (.int .u64 q) := h.cell 2
  have c3 : w.cell? ⟨b, 3, none⟩ = some (.bool l) := h.cell 3
  have c4 : w.cell? ⟨b, 4, none⟩ = some (.int .u64 e) := h.cell 4
  have c5 : w.cell? ⟨b, 5, none⟩ = some (.int .u64 r) := h.cell 5
  clear h
  have B1 := Lib.hid (Whole.new w 49 #[.bool true, .int .u64 p, .int .u64 q, .bool l, .int .u64 e, .int .u64 r])
  have H1 := Lib.hid (H.out.alloc (.cells #[.bool true, .int .u64 p, .int .u64 q, .bool l, .int .u64 e, .int .u64 r] 49))
  have K1 := Lib.hid ((Keep.refl (fun _ => False) w).alloc (.cells #[.bool true, .int .u64 p, .int .u64 q, .bool l, .int .u64 e, .int .u64 r] 49))
  go_enter Try.func20, Try.ntmps20
  go_wp2
  go_step3
  go_wp2
  go_step3
  go_wp2
  refine wp_loop_rounds 3 ?_
  rw [rounds_succ]
  go_wp2
  generalize hw1 : w.alloc _ = w1 at *
  generalize w.heap.size = n at *
  have d1 : w1.cell? ⟨n, 1, none⟩ = some (.int .u64 p) := B1.out.cell 1
  have e1 : w1.cell? ⟨b, 1, none⟩ = some (.int .u64 p) := H1.out.cell 1
  clear hw1 c0 c1 c2 c3 c4 c5 H B1
  go_quiet (fail)
  have H2 := Lib.hid (H1.out.drewN nq)
  have K2 := Lib.hid (K1.out.drewN nq)
  clear d1 e1 H1 K1 hlt
  generalize w1.drewN nq = w2 at *
  go_wp2
  rw [rounds_succ]
  have hlt := H2.out.lt
  have c0 : w2.cell? ⟨b, 6, none⟩ = some (.bool s) := H2.out.cell 6
  have c1 : w2.cell? ⟨b, 7, none⟩ = some (.int .u64 p') := H2.out.cell 7
  have c2 : w2.cell? ⟨b, 8, none⟩ = some (.int .u64 q') := H2.out.cell 8
  have c3 : w2.cell? ⟨b, 9, none⟩ = some (.bool l') := H2.out.cell 9
  have c4 : w2.cell? ⟨b, 10, none⟩ = some (.int .u64 e') := H2.out.cell 10
  have c5 : w2.cell? ⟨b, 11, none⟩ = some (.int .u64 r') := H2.out.cell 11
  have B3 := Lib.hid (Whole.new w2 49 #[.bool s, .int .u64 p', .int .u64 q', .bool l', .int .u64 e', .int .u64 r'])
  have H3 := Lib.hid (H2.out.alloc (.cells #[.bool s, .int .u64 p', .int .u64 q', .bool l', .int .u64 e', .int .u64 r'] 49))
  have K3 := Lib.hid (K2.out.alloc (.cells #[.bool s, .int .u64 p', .int .u64 q', .bool l', .int .u64 e', .int .u64 r'] 49))
  cases s
  · go_wp2
    rw [Exit.noGoto_ret]
    go_ret
    exact ⟨ret_i (if_pos (.inl rfl)).symm, K3.out⟩
  · go_wp2
    generalize hw3 : w2.alloc _ = w3 at *
    generalize w2.heap.size = n' at *
    have d1 : w3.cell? ⟨n', 1, none⟩ = some (.int .u64 p') := B3.out.cell 1
    have e1 : w3.cell? ⟨b, 1, none⟩ = some (.int .u64 p) := H3.out.cell 1
    clear hw3 c0 c1 c2 c3 c4 c5 B3 H2 K2
    go_quiet (fail)
    have K4 := Lib.hid (K3.out.drewN nq)
    clear d1 e1 H3 K3
    generalize w3.drewN nq = w4 at *
    by_cases hp : p < p'
    · have HE : Hid ((if true = false ∨ p' ≤ p then (0 : Int) else 1) = 1) := Lib.hid (if_neg (by simp; omega))
      go_wp2
      rw [rounds_succ]
      go_wp2
      rw [Exit.noGoto_ret]
      go_ret
      exact ⟨ret_i HE.out.symm, K4.out⟩
    · have HE : Hid ((if true = false ∨ p' ≤ p then (0 : Int) else 1) = 0) := Lib.hid (if_pos (.inr (by omega)))
      go_wp2
      rw [rounds_succ]
      go_wp2
      rw [Exit.noGoto_ret]
      go_ret
      exact ⟨ret_i HE.out.symm, K4.out⟩
end Go.Proofs.Ytiilbdmldonipaa
