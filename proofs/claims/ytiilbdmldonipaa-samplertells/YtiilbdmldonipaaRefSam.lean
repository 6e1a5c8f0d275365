/-
  The document's own sampler (canterref08.Sampler): Sent and Limit answer and leave what the plain mathematics says. Conditions: the sampler lies in memory as the law makes it; the numbers are of their kind.
-/
import Derived.Test.YtiilbdmldonipaaSamSt
import Derived.Test.YtiilbdmldonipaaRefA
import Derived.Test.YtiilbdmldonipaaSchedL
import Derived.Test.YtiilbdmldonipaaChecked
import Derived.WalkSpells
import Derived.WalkLawsBesides
import Derived.LoopTactic
import Derived.LoopN
import Derived.Deep.QuietTactic
import Derived.Deep.DeepCutAuto
import Derived.Deep.Draws
import Derived.BigQuiet
import Derived.Laws.ResultCell
namespace Go.Proofs.Ytiilbdmldonipaa
open Go.RowKit

abbrev rsmpC (x : Smp) : Array Value := #[.int .u64 x.d, .int .u64 x.u, .int .u64 x.f, .int .u64 x.m, .bool x.s, .int .u64 x.a, .int .u64 x.p, .int .u64 x.q, .int .u64 x.e, .int .u64 x.r, .bool x.l]
/-- The document's own sampler. -/
structure RSamAt (w : World) (g : Nat) (x : Smp) : Prop where
  whole : Whole w g 28 (rsmpC x)
  fit : x.Fit
section
variable {w w' : World} {g : Nat} {x : Smp} {R : Nat → Prop}
theorem RSamAt.keep (h : RSamAt w g x) (hk : Keep R w w') (hg : ¬ R g) : RSamAt w' g x := ⟨h.whole.keep hk hg, h.fit⟩
theorem RSamAt.drew (h : RSamAt w g x) : RSamAt w.drew g x := ⟨h.whole.drew, h.fit⟩
theorem RSamAt.alloc (h : RSamAt w g x) (o : Obj) : RSamAt (w.alloc o) g x := ⟨h.whole.alloc o, h.fit⟩
theorem RSamAt.lt (h : RSamAt w g x) : g < w.heap.size := h.whole.lt
end

set_option maxHeartbeats 1000000 in
theorem rslim_any (g : Nat) (fl : Int) (x : Smp) (w : World) (h : RSamAt w g x) (hf : Num fl) :
    Calls Try.prog 14 #[.pointer (some ⟨g, 0, none⟩), .int .u64 fl] w fun e w' => (∃ v, e = .returned v) ∧ RSamAt w' g (limS x fl) ∧ Keep (fun k => k = g) w w' := by
  have c0 : w.cell? ⟨g, 0, none⟩ = some (.int .u64 x.d) := h.whole.cell 0
  have f3 := h.whole.free 3
  have c3 : w.cell? ⟨g, 3, none⟩ = some (.int .u64 x.m) := h.whole.cell 3
  have hb := h.fit.d
  have H : Hid (∀ m, Num m → topI (satAdd x.d fl) 1 = m → RSamAt (w.setCell ⟨g, 3, none⟩ (.int .u64 m)) g (limS x fl) ∧ Keep (fun k => k = g) w (w.setCell ⟨g, 3, none⟩ (.int .u64 m))) := Lib.hid (fun m _ e => by
    subst e
    exact ⟨⟨h.whole.put 3 _, h.fit.lim hf⟩, (Keep.refl (fun k => k = g) w).setCell (p := ⟨g, 3, none⟩) (.inl rfl) _⟩)
  have HA := Lib.hid (radd_any x.d fl hb.1 hb.2 hf.1 hf.2)
  have hn := num_add hb hf
  clear h hb hf
  generalize satAdd x.d fl = A at *
  obtain ⟨_, _⟩ := hn
  rcases Int.lt_trichotomy A 1 with h | h | h
  · go_enter Try.func14, Try.ntmps14
    go_wp2_with (go_at_call 21; refine (HA.out _).mono ?_; rintro e w' ⟨rfl, rfl⟩)
    go_end0
    exact ⟨⟨_, rfl⟩, H.out _ ⟨by omega, by omega⟩ (if_pos (by omega))⟩
  · subst h
    go_enter Try.func14, Try.ntmps14
    go_wp2_with (go_at_call 21; refine (HA.out _).mono ?_; rintro e w' ⟨rfl, rfl⟩)
    go_end0
    exact ⟨⟨_, rfl⟩, H.out _ ⟨by omega, by omega⟩ (if_pos (by omega))⟩
  · go_enter Try.func14, Try.ntmps14
    go_wp2_with (go_at_call 21; refine (HA.out _).mono ?_; rintro e w' ⟨rfl, rfl⟩)
    go_end0
    exact ⟨⟨_, rfl⟩, H.out _ ⟨by omega, by omega⟩ (if_neg (by omega))⟩
set_option maxHeartbeats 1000000 in
theorem rsent_any (g : Nat) (now fl : Int) (x : Smp) (w : World) (h : RSamAt w g x) (hn : Num now) :
    Calls Try.prog 16 #[.pointer (some ⟨g, 0, none⟩), .int .u64 now, .int .u64 fl] w fun e w' => e = .returned (sentV x now fl).v ∧ RSamAt w' g (sentS x now fl) ∧ Keep (fun k => k = g) w w' := by
  by_cases hf : fl = 0
  · subst hf
    obtain ⟨y, hy⟩ : ∃ y : Smp, y = ⟨x.d, now, now, x.m, x.a, x.s, x.p, x.q, x.l, x.e, x.r⟩ := ⟨_, rfl⟩
    have HV : Hid (sentV x now 0 = ⟨now, y.d, y.u, y.f, y.m != 0⟩) := Lib.hid (hy ▸ if_pos rfl)
    have HS : Hid (sentS x now 0 = y) := Lib.hid (hy ▸ if_pos rfl)
    have HW : Hid (RSamAt ((w.setCell ⟨g, 2, none⟩ (.int .u64 now)).setCell ⟨g, 1, none⟩ (.int .u64 now)) g y) := Lib.hid ⟨hy ▸ (h.whole.put 2 _).put 1 _, by rw [← HS.out]; exact h.fit.sent hn⟩
    have KW := Lib.hid (((Keep.refl (fun k => k = g) w).setCell (p := ⟨g, 2, none⟩) (.inl rfl) (.int .u64 now)).setCell (p := ⟨g, 1, none⟩) (.inl rfl) (.int .u64 now))
    have f2 := h.whole.free 2
    have e2 : w.cell? ⟨g, 2, none⟩ = some (.int .u64 x.f) := h.whole.cell 2
    have f1 := (h.whole.put 2 (.int .u64 now)).free 1
    have e1 : (w.setCell ⟨g, 2, none⟩ (.int .u64 now)).cell? ⟨g, 1, none⟩ = some (.int .u64 x.u) := (h.whole.put 2 (.int .u64 now)).cell 1
    have hlt := h.lt
    clear h hn hy
    have hs : Hid (w.heap.size = ((w.setCell ⟨g, 2, none⟩ (.int .u64 now)).setCell ⟨g, 1, none⟩ (.int .u64 now)).heap.size) := Lib.hid (by simp [World.setCell])
    go_enter Try.func16, Try.ntmps16
    go_wp2
    clear f2 e2 f1 e1 hlt
    generalize ((w.setCell ⟨g, 2, none⟩ (.int .u64 now)).setCell ⟨g, 1, none⟩ (.int .u64 now)) = W at *
    rw [hs.out]
    clear hs
    have H0 := Lib.hid (HW.out.alloc (.cells #[.int .u64 0, .int .u64 0, .int .u64 0, .int .u64 0, .bool false] 32))
    have H : Hid (RSamAt W g y) := HW
    clear HW
    have hlt := H.out.lt
    refine wp_region_sch (fun W => W.cell? ⟨g, 0, none⟩ = some (.int .u64 y.d) ∧ W.cell? ⟨g, 1, none⟩ = some (.int .u64 y.u) ∧ W.cell? ⟨g, 2, none⟩ = some (.int .u64 y.f) ∧ W.cell? ⟨g, 3, none⟩ = some (.int .u64 y.m)) [(true, 0), (true, 1), (true, 2), (true, 3), (true, 4), (true, 5), (true, 6), (true, 7), (true, 8), (true, 9), (true, 10), (true, 11), (true, 12), (true, 13), (true, 14), (true, 15), (true, 16), (true, 17), (true, 18), (false, 19)] (by kernel_rfl) (by kernel_rfl) (by kernel_rfl) (by kernel_rfl) ⟨H0.out.whole.drew.cell 0, H0.out.whole.drew.cell 1, H0.out.whole.drew.cell 2, H0.out.whole.drew.cell 3⟩ ?_
    (repeat (refine wpSch_yes (v := ?_) rfl (fun _ _ _ h => h) (by rfl) ?_ ?_; rotate_left; (next => (intro w hSw; (try dsimp only at hSw); obtain ⟨hS1, hS2, hS3, hS4⟩ := hSw; go_simp; (try with_reducible rfl))); (try simp only [Act.put, List.setIfInBounds_toArray, List.set_cons_zero, List.set_cons_succ])))
    refine wpSch_call rfl (by rfl) (fun K hK => ?_)
    go_simp
    have H1 := Lib.hid ((H.out.alloc (.cells #[.int .u64 now, .int .u64 y.d, .int .u64 y.u, .int .u64 y.f, .bool (y.m != 0)] 32)).drew)
    have W1 := Lib.hid ((Whole.new W 32 #[.int .u64 now, .int .u64 y.d, .int .u64 y.u, .int .u64 y.f, .bool (y.m != 0)]).drew)
    have K1 := Lib.hid ((KW.out.alloc (.cells #[.int .u64 now, .int .u64 y.d, .int .u64 y.u, .int .u64 y.f, .bool (y.m != 0)] 32)).drew)
    refine hK.out _ _ ⟨H1.out.whole.cell 0, H1.out.whole.cell 1, H1.out.whole.cell 2, H1.out.whole.cell 3⟩ (fun hHeld => ?_)
    clear hK K hHeld H0
    (try simp only [Act.put, List.setIfInBounds_toArray, List.set_cons_zero, List.set_cons_succ])
    generalize hw1 : World.drew _ = w1 at *
    clear hw1
    refine wpSch_nil ?_
    go_wp2
    have z0 : w1.cell? ⟨W.heap.size, 0, none⟩ = some (.int .u64 now) := W1.out.cell 0
    have z1 : w1.cell? ⟨W.heap.size, 1, none⟩ = some (.int .u64 y.d) := W1.out.cell 1
    have z2 : w1.cell? ⟨W.heap.size, 2, none⟩ = some (.int .u64 y.u) := W1.out.cell 2
    have z3 : w1.cell? ⟨W.heap.size, 3, none⟩ = some (.int .u64 y.f) := W1.out.cell 3
    have z4 : w1.cell? ⟨W.heap.size, 4, none⟩ = some (.bool (y.m != 0)) := W1.out.cell 4
    refine bodyPost_ret (v := .agg #[.int .u64 now, .int .u64 y.d, .int .u64 y.u, .int .u64 y.f, .bool (y.m != 0)]) (by rw [results_cell1 rfl]; go_simp) rfl ?_
    exact ⟨by rw [HV.out], by rw [HS.out]; exact H1.out, K1.out⟩
  · obtain ⟨y, hy⟩ : ∃ y : Smp, y = x := ⟨_, rfl⟩
    obtain ⟨W, hW⟩ : ∃ W : World, W = w := ⟨_, rfl⟩
    have HV : Hid (sentV x now fl = ⟨now, y.d, y.u, y.f, y.m != 0⟩) := Lib.hid (hy ▸ if_neg hf)
    have HS : Hid (sentS x now fl = y) := Lib.hid (hy ▸ if_neg hf)
    have hf : (fl == 0) = false := by simp [hf]
    have H : Hid (RSamAt W g y) := Lib.hid (hy ▸ hW ▸ h)
    have KW : Hid (Keep (fun k => k = g) w W) := Lib.hid (hW ▸ Keep.refl _ _)
    have H0 := Lib.hid (H.out.alloc (.cells #[.int .u64 0, .int .u64 0, .int .u64 0, .int .u64 0, .bool false] 32))
    have hlt := H.out.lt
    clear h hy
    go_enter Try.func16, Try.ntmps16
    go_wp2
    rw [← hW]
    clear hW
    refine wp_region_sch (fun W => W.cell? ⟨g, 0, none⟩ = some (.int .u64 y.d) ∧ W.cell? ⟨g, 1, none⟩ = some (.int .u64 y.u) ∧ W.cell? ⟨g, 2, none⟩ = some (.int .u64 y.f) ∧ W.cell? ⟨g, 3, none⟩ = some (.int .u64 y.m)) [(true, 0), (true, 1), (true, 2), (true, 3), (true, 4), (true, 5), (true, 6), (true, 7), (true, 8), (true, 9), (true, 10), (true, 11), (true, 12), (true, 13), (true, 14), (true, 15), (true, 16), (true, 17), (true, 18), (false, 19)] (by kernel_rfl) (by kernel_rfl) (by kernel_rfl) (by kernel_rfl) ⟨H0.out.whole.drew.cell 0, H0.out.whole.drew.cell 1, H0.out.whole.drew.cell 2, H0.out.whole.drew.cell 3⟩ ?_
    (repeat (refine wpSch_yes (v := ?_) rfl (fun _ _ _ h => h) (by rfl) ?_ ?_; rotate_left; (next => (intro w hSw; (try dsimp only at hSw); obtain ⟨hS1, hS2, hS3, hS4⟩ := hSw; go_simp; (try with_reducible rfl))); (try simp only [Act.put, List.setIfInBounds_toArray, List.set_cons_zero, List.set_cons_succ])))
    refine wpSch_call rfl (by rfl) (fun K hK => ?_)
    go_simp
    have H1 := Lib.hid ((H.out.alloc (.cells #[.int .u64 now, .int .u64 y.d, .int .u64 y.u, .int .u64 y.f, .bool (y.m != 0)] 32)).drew)
    have W1 := Lib.hid ((Whole.new W 32 #[.int .u64 now, .int .u64 y.d, .int .u64 y.u, .int .u64 y.f, .bool (y.m != 0)]).drew)
    have K1 := Lib.hid ((KW.out.alloc (.cells #[.int .u64 now, .int .u64 y.d, .int .u64 y.u, .int .u64 y.f, .bool (y.m != 0)] 32)).drew)
    refine hK.out _ _ ⟨H1.out.whole.cell 0, H1.out.whole.cell 1, H1.out.whole.cell 2, H1.out.whole.cell 3⟩ (fun hHeld => ?_)
    clear hK K hHeld H0
    (try simp only [Act.put, List.setIfInBounds_toArray, List.set_cons_zero, List.set_cons_succ])
    generalize hw1 : World.drew _ = w1 at *
    clear hw1
    refine wpSch_nil ?_
    go_wp2
    have z0 : w1.cell? ⟨W.heap.size, 0, none⟩ = some (.int .u64 now) := W1.out.cell 0
    have z1 : w1.cell? ⟨W.heap.size, 1, none⟩ = some (.int .u64 y.d) := W1.out.cell 1
    have z2 : w1.cell? ⟨W.heap.size, 2, none⟩ = some (.int .u64 y.u) := W1.out.cell 2
    have z3 : w1.cell? ⟨W.heap.size, 3, none⟩ = some (.int .u64 y.f) := W1.out.cell 3
    have z4 : w1.cell? ⟨W.heap.size, 4, none⟩ = some (.bool (y.m != 0)) := W1.out.cell 4
    refine bodyPost_ret (v := .agg #[.int .u64 now, .int .u64 y.d, .int .u64 y.u, .int .u64 y.f, .bool (y.m != 0)]) (by rw [results_cell1 rfl]; go_simp) rfl ?_
    exact ⟨by rw [HV.out], by rw [HS.out]; exact H1.out, K1.out⟩
end Go.Proofs.Ytiilbdmldonipaa
