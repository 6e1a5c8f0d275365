/-
  Package sampler's Sent answers what the document says, and leaves what it says. Conditions: the sampler lies in memory as New makes it, or is nil; the numbers are of their kind.
-/
import Derived.Test.YtiilbdmldonipaaSam
namespace Go.Proofs.Ytiilbdmldonipaa
open Go.RowKit

set_option maxHeartbeats 400000 in
theorem ssent_nil (now fl : Int) (w : World) : Calls Try.prog 15 #[.pointer none, .int .u64 now, .int .u64 fl] w fun e w' => e = .returned (.agg #[.int .u64 0, .int .u64 0, .int .u64 0, .int .u64 0, .bool false]) ∧ Keep (fun _ => False) w w' := by
  go_enter Try.func15, Try.ntmps15
  go_wp2
  refine bodyPost_ret (v := .agg #[.int .u64 0, .int .u64 0, .int .u64 0, .int .u64 0, .bool false]) (by rw [results_cell1 rfl]; go_simp) rfl ?_
  exact ⟨rfl, (Keep.refl _ _).alloc _⟩
set_option maxHeartbeats 1000000 in
theorem ssent_any (g : Nat) (now fl : Int) (x : Smp) (w : World) (h : SamAt w g x) (hn : Num now) :
    Calls Try.prog 15 #[.pointer (some ⟨g, 0, none⟩), .int .u64 now, .int .u64 fl] w fun e w' => e = .returned (sentV x now fl).v ∧ SamAt w' g (sentS x now fl) ∧ Keep (fun k => k = g) w w' := by
  by_cases hf : fl = 0
  · subst hf
    obtain ⟨y, hy⟩ : ∃ y : Smp, y = ⟨x.d, now, now, x.m, x.a, x.s, x.p, x.q, x.l, x.e, x.r⟩ := ⟨_, rfl⟩
    have HV : Hid (sentV x now 0 = ⟨now, y.d, y.u, y.f, y.m != 0⟩) := Lib.hid (hy ▸ if_pos rfl)
    have HS : Hid (sentS x now 0 = y) := Lib.hid (hy ▸ if_pos rfl)
    have HW : Hid (SamAt ((w.setCell ⟨g, 2, none⟩ (.int .u64 now)).setCell ⟨g, 1, none⟩ (.int .u64 now)) g y) := Lib.hid ⟨hy ▸ (h.whole.put 2 _).put 1 _, by rw [← HS.out]; exact h.fit.sent hn⟩
    have KW := Lib.hid (((Keep.refl (fun k => k = g) w).setCell (p := ⟨g, 2, none⟩) (.inl rfl) (.int .u64 now)).setCell (p := ⟨g, 1, none⟩) (.inl rfl) (.int .u64 now))
    have f2 := h.whole.free 2
    have e2 : w.cell? ⟨g, 2, none⟩ = some (.int .u64 x.f) := h.whole.cell 2
    have f1 := (h.whole.put 2 (.int .u64 now)).free 1
    have e1 : (w.setCell ⟨g, 2, none⟩ (.int .u64 now)).cell? ⟨g, 1, none⟩ = some (.int .u64 x.u) := (h.whole.put 2 (.int .u64 now)).cell 1
    have hlt := h.lt
    clear h hn hy
    have hs : Hid (w.heap.size = ((w.setCell ⟨g, 2, none⟩ (.int .u64 now)).setCell ⟨g, 1, none⟩ (.int .u64 now)).heap.size) := Lib.hid (by simp [World.setCell])
    go_enter Try.func15, Try.ntmps15
    go_wp2
    clear f2 e2 f1 e1 hlt
    generalize ((w.setCell ⟨g, 2, none⟩ (.int .u64 now)).setCell ⟨g, 1, none⟩ (.int .u64 now)) = W at *
    rw [hs.out]
    clear hs
    have H0 := Lib.hid (HW.out.alloc (.cells #[.int .u64 0, .int .u64 0, .int .u64 0, .int .u64 0, .bool false] 32))
    have H : Hid (SamAt W g y) := HW
    clear HW
    have hlt := H.out.lt
    refine wp_region_sch (fun W => W.cell? ⟨g, 0, none⟩ = some (.int .u64 y.d) ∧ W.cell? ⟨g, 1, none⟩ = some (.int .u64 y.u) ∧ W.cell? ⟨g, 2, none⟩ = some (.int .u64 y.f) ∧ W.cell? ⟨g, 3, none⟩ = some (.int .u64 y.m)) [(true, 0), (true, 1), (true, 2), (true, 3), (true, 4), (true, 5), (true, 6), (true, 7), (true, 8), (true, 9), (true, 10), (true, 11), (true, 12), (true, 13), (true, 14), (true, 15), (true, 16), (true, 17), (true, 18), (false, 19)] (by kernel_rfl) (by kernel_rfl) (by kernel_rfl) (by kernel_rfl) ⟨H0.out.whole.drew.cell 0, H0.out.whole.drew.cell 1, H0.out.whole.drew.cell 2, H0.out.whole.drew.cell 3⟩ ?_
    (repeat (refine wpSch_yes (v := ?_) rfl (fun _ _ _ h => h) (by rfl) ?_ ?_; rotate_left; (next => (intro w hSw; (try dsimp only at hSw); obtain ⟨hS1, hS2, hS3, hS4⟩ := hSw; go_simp; (try with_reducible rfl))); (try simp only [Act.put, List.setIfInBounds_toArray, List.set_cons_zero, List.set_cons_succ])))
    refine wpSch_call rfl (by rfl) (fun K hK => ?_)
    go_simp
    have H1 := Lib.hid ((H.out.alloc (.cells #[.int .u64 now, .int .u64 y.d, .int .u64 y.u, .int .u64 y.f, .bool (y.m != 0)] 32)).drew)
    have W1 := Lib.hid ((Whole.new W 32 #[.int .u64 now, .int .u64 y.d, .int .u64 y.u, .int .u64 y.f, .bool (y.m != 0)]).drew)
    have K1 := Lib.hid ((KW.out.alloc (.cells #[.int .u64 now, .int .u64 y.d, .int .u64 y.u, .int .u64 y.f, .bool (y.m != 0)] 32)).drew)
    refine hK.out _ _ ⟨H1.out.whole.cell 0, H1.out.whole.cell 1, H1.out.whole.cell 2, H1.out.whole.cell 3⟩ (fun hHeld => ?_)
    clear hK K hHeld H0
    (try simp only [Act.put, List.setIfInBounds_toArray, List.set_cons_zero, List.set_cons_succ])
    generalize hw1 : World.drew _ = w1 at *
    clear hw1
    refine wpSch_nil ?_
    go_wp2
    have z0 : w1.cell? ⟨W.heap.size, 0, none⟩ = some (.int .u64 now) := W1.out.cell 0
    have z1 : w1.cell? ⟨W.heap.size, 1, none⟩ = some (.int .u64 y.d) := W1.out.cell 1
    have z2 : w1.cell? ⟨W.heap.size, 2, none⟩ = some (.int .u64 y.u) := W1.out.cell 2
    have z3 : w1.cell? ⟨W.heap.size, 3, none⟩ = some (.int .u64 y.f) := W1.out.cell 3
    have z4 : w1.cell? ⟨W.heap.size, 4, none⟩ = some (.bool (y.m != 0)) := W1.out.cell 4
    refine bodyPost_ret (v := .agg #[.int .u64 now, .int .u64 y.d, .int .u64 y.u, .int .u64 y.f, .bool (y.m != 0)]) (by rw [results_cell1 rfl]; go_simp) rfl ?_
    exact ⟨by rw [HV.out], by rw [HS.out]; exact H1.out, K1.out⟩
  · obtain ⟨y, hy⟩ : ∃ y : Smp, y = x := ⟨_, rfl⟩
    obtain ⟨W, hW⟩ : ∃ W : World, W = w := ⟨_, rfl⟩
    have HV : Hid (sentV x now fl = ⟨now, y.d, y.u, y.f, y.m != 0⟩) := Lib.hid (hy ▸ if_neg hf)
    have HS : Hid (sentS x now fl = y) := Lib.hid (hy ▸ if_neg hf)
    have hf : (fl == 0) = false := by simp [hf]
    have H : Hid (SamAt W g y) := Lib.hid (hy ▸ hW ▸ h)
    have KW : Hid (Keep (fun k => k = g) w W) := Lib.hid (hW ▸ Keep.refl _ _)
    have H0 := Lib.hid (H.out.alloc (.cells #[.int .u64 0, .int .u64 0, .int .u64 0, .int .u64 0, .bool false] 32))
    have hlt := H.out.lt
    clear h hy
    go_enter Try.func15, Try.ntmps15
    go_wp2
    rw [← hW]
    clear hW
    refine wp_region_sch (fun W => W.cell? ⟨g, 0, none⟩ = some (.int .u64 y.d) ∧ W.cell? ⟨g, 1, none⟩ = some (.int .u64 y.u) ∧ W.cell? ⟨g, 2, none⟩ = some (.int .u64 y.f) ∧ W.cell? ⟨g, 3, none⟩ = some (.int .u64 y.m)) [(true, 0), (true, 1), (true, 2), (true, 3), (true, 4), (true, 5), (true, 6), (true, 7), (true, 8), (true, 9), (true, 10), (true, 11), (true, 12), (true, 13), (true, 14), (true, 15), (true, 16), (true, 17), (true, 18), (false, 19)] (by kernel_rfl) (by kernel_rfl) (by kernel_rfl) (by kernel_rfl) ⟨H0.out.whole.drew.cell 0, H0.out.whole.drew.cell 1, H0.out.whole.drew.cell 2, H0.out.whole.drew.cell 3⟩ ?_
    (repeat (refine wpSch_yes (v := ?_) rfl (fun _ _ _ h => h) (by rfl) ?_ ?_; rotate_left; (next => (intro w hSw; (try dsimp only at hSw); obtain ⟨hS1, hS2, hS3, hS4⟩ := hSw; go_simp; (try with_reducible rfl))); (try simp only [Act.put, List.setIfInBounds_toArray, List.set_cons_zero, List.set_cons_succ])))
    refine wpSch_call rfl (by rfl) (fun K hK => ?_)
    go_simp
    have H1 := Lib.hid ((H.out.alloc (.cells #[.int .u64 now, .int .u64 y.d, .int .u64 y.u, .int .u64 y.f, .bool (y.m != 0)] 32)).drew)
    have W1 := Lib.hid ((Whole.new W 32 #[.int .u64 now, .int .u64 y.d, .int .u64 y.u, .int .u64 y.f, .bool (y.m != 0)]).drew)
    have K1 := Lib.hid ((KW.out.alloc (.cells #[.int .u64 now, .int .u64 y.d, .int .u64 y.u, .int .u64 y.f, .bool (y.m != 0)] 32)).drew)
    refine hK.out _ _ ⟨H1.out.whole.cell 0, H1.out.whole.cell 1, H1.out.whole.cell 2, H1.out.whole.cell 3⟩ (fun hHeld => ?_)
    clear hK K hHeld H0
    (try simp only [Act.put, List.setIfInBounds_toArray, List.set_cons_zero, List.set_cons_succ])
    generalize hw1 : World.drew _ = w1 at *
    clear hw1
    refine wpSch_nil ?_
    go_wp2
    have z0 : w1.cell? ⟨W.heap.size, 0, none⟩ = some (.int .u64 now) := W1.out.cell 0
    have z1 : w1.cell? ⟨W.heap.size, 1, none⟩ = some (.int .u64 y.d) := W1.out.cell 1
    have z2 : w1.cell? ⟨W.heap.size, 2, none⟩ = some (.int .u64 y.u) := W1.out.cell 2
    have z3 : w1.cell? ⟨W.heap.size, 3, none⟩ = some (.int .u64 y.f) := W1.out.cell 3
    have z4 : w1.cell? ⟨W.heap.size, 4, none⟩ = some (.bool (y.m != 0)) := W1.out.cell 4
    refine bodyPost_ret (v := .agg #[.int .u64 now, .int .u64 y.d, .int .u64 y.u, .int .u64 y.f, .bool (y.m != 0)]) (by rw [results_cell1 rfl]; go_simp) rfl ?_
    exact ⟨by rw [HV.out], by rw [HS.out]; exact H1.out, K1.out⟩
end Go.Proofs.Ytiilbdmldonipaa
