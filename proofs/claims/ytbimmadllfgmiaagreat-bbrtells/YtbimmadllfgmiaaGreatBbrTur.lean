/-
  Package bbr's turn: what it leaves. Conditions: the Model lies in memory as New makes it, be it inside a block; numbers are of 64 bits.
-/
import Derived.Test.YtbimmadllfgmiaaGreatBbrSM
set_option linter.unusedVariables false
set_option linter.unusedSimpArgs false
namespace Go.Proofs.YtbimmadllfgmiaaGreat
open Go.RowKit
set_option maxRecDepth 100000
variable {Fm : Fr} {oo : Nat}
set_option maxHeartbeats 2000000 in
theorem turn_any (g : Nat) (x : Mdl) (s : Spl) (w : World) (h : MdlAt Fm oo w g x) (hf : x.Fit) (hs : s.Fit) : Calls Tryz.prog 32 #[.pointer (some ⟨g, oo, none⟩), s.v] w fun e w' => (∃ v, e = .returned v) ∧ MdlAt Fm oo w' g (turM x s) ∧ Keep (fun k => k = g) w w' := by
  have hlt := h.lt
  have c : w.cell? ⟨g, oo + 28, none⟩ = some (.int .i64 x.m) := Part.cell h 28
  have HM := Lib.hid (SM.begin (s := s) h)
  have HF := Lib.hid hf
  have HS := Lib.hid hs
  clear h hf hs
  by_cases h2 : x.m = 2
  · have e2 : (x.m == 2) = true := by simp [h2]
    obtain ⟨U, hU⟩ : ∃ U, x.o.u = U := ⟨_, rfl⟩
    have HU := Lib.hid hU
    cases U
    · have HE : Hid (turM x s = { x with c := updC x.c (lokM x s) }) := Lib.hid (by simp [turM, h2, hU])
      obtain ⟨A, hA⟩ : ∃ A, bdpM x 320 = A := ⟨_, rfl⟩
      obtain ⟨D, hD⟩ : ∃ D, bdpM x 256 = D := ⟨_, rfl⟩
      have HL : Hid (lokM x s = ⟨s.n, x.q.b, s.o, s.f, A, D⟩) := Lib.hid (by simp [lokM, hA, hD])
      have HA := Lib.hid hA
      have HD := Lib.hid hD
      clear h2 hU hA hD
      go_enter Tryz.func32, Tryz.ntmps32
      go_wp2_with fail
      refine (held_any _ _ _ HM.out.m HF.out).mono ?_
      rintro e w' ⟨rfl, rfl⟩
      rw [HU.out]
      go_upto_region 2 with fail
      generalize hw1 : World.alloc w _ = w1 at *
      have HM1 : Hid (SM Fm oo w g w.heap.size x s w1) := HM
      clear HM hw1
      generalize w.heap.size = B at *
      obtain ⟨a0, a1, a2, a3, a4, a5, a6, a7, a8⟩ := HM1.out.spl
      clear a0 a1 a2 a3 a4 a5 a6 a7 a8
      refine wp_region_late (SM Fm oo w g B x s) [17] (.yes 0 (.yes 1 (.yes 2 (.yes 3 (.yes 4 (.yes 5 (.yes 6 (.yes 7 (.yes 9 (.yes 10 (.yes 11 (.yes 12 (.yes 13 (.yes 15 (.one 8 (.one 14 (.one 16 (.one 17 .nil)))))))))))))))))) (by kernel_rfl) (by kernel_rfl) (by kernel_rfl) (by kernel_rfl) HM1.out.drew ?_
      (repeat (refine wpSchL_yes (v := ?_) rfl (fun _ _ _ h => h) (by rfl) ?_ ?_; rotate_left; (next => (intro w hSw; obtain ⟨a0, a1, a2, a3, a4, a5, a6, a7, a8⟩ := SM.spl hSw; obtain ⟨m0, m1, m2, m3, m4, m5, m6, m7⟩ := MdlAt.own (SM.m hSw); clear hSw; go_simp; (try with_reducible rfl))); (try simp only [Act.put, List.setIfInBounds_toArray, List.set_cons_zero, List.set_cons_succ])))
      refine wpSchL_one ?_
      refine wpOneL_call rfl (by rfl) (fun K hK => ?_)
      go_simp
      refine (prbest_any _ _ _ (HM1.out.drew.m.prb HF.out)).mono ?_
      rintro e w' ⟨rfl, rfl⟩
      refine hK.out _ _ (fun _ => HM1.out.drew) (fun hHeld => ?_)
      clear hK K hHeld
      (try simp only [Act.put, List.setIfInBounds_toArray, List.set_cons_zero, List.set_cons_succ])
      refine wpSchL_one ?_
      refine wpOneL_call rfl (by rfl) (fun K hK => ?_)
      go_simp
      refine (bdp_M _ _ 320 _ HM1.out.drew.m HF.out ⟨by decide, by decide⟩).mono ?_
      rintro e w2 ⟨rfl, k2⟩
      rw [HA.out]
      have HM2 := Lib.hid (HM1.out.drew.quiet k2); clear k2
      refine hK.out _ _ (fun _ => HM2.out) (fun hHeld => ?_)
      clear hK K hHeld
      (try simp only [Act.put, List.setIfInBounds_toArray, List.set_cons_zero, List.set_cons_succ])
      refine wpSchL_one ?_
      refine wpOneL_call rfl (by rfl) (fun K hK => ?_)
      go_simp
      refine (bdp_M _ _ 256 _ HM2.out.m HF.out ⟨by decide, by decide⟩).mono ?_
      rintro e w3 ⟨rfl, k3⟩
      rw [HD.out]
      have HM3 := Lib.hid (HM2.out.quiet k3); clear k3
      refine hK.out _ _ (fun _ => HM3.out) (fun hHeld => ?_)
      clear hK K hHeld
      (try simp only [Act.put, List.setIfInBounds_toArray, List.set_cons_zero, List.set_cons_succ])
      refine wpSchL_one ?_
      refine wpOneL_call rfl (by rfl) (fun K hK => ?_)
      go_simp
      refine (cyupd_any _ _ ⟨s.n, x.q.b, s.o, s.f, A, D⟩ _ (HM3.out.m.cyc HF.out) HS.out.n).mono ?_
      rintro e w4 ⟨rfl, h4, k4⟩
      have HM4 := Lib.hid (HM3.out.call (MdlAt.cyc' h4) k4); clear h4 k4
      refine hK.out _ _ (fun h => absurd h (by decide)) (fun hHeld => ?_)
      clear hK K hHeld
      (try simp only [Act.put, List.setIfInBounds_toArray, List.set_cons_zero, List.set_cons_succ])
      refine wpSchL_nil ?_
      go_wp2
      go_end0
      exact ⟨⟨_, rfl⟩, by rw [HE.out, HL.out]; exact HM4.out.m, HM4.out.k⟩
    · have HE : Hid (turM x s = x) := Lib.hid (by simp [turM, hU])
      clear h2 hU
      go_enter Tryz.func32, Tryz.ntmps32
      go_wp2_with fail
      refine (held_any _ _ _ HM.out.m HF.out).mono ?_
      rintro e w' ⟨rfl, rfl⟩
      rw [HU.out]
      go_wp2
      go_end0
      exact ⟨⟨_, rfl⟩, by rw [HE.out]; exact HM.out.m, HM.out.k⟩
  · have e2 : (x.m == 2) = false := by simp [h2]
    have HE : Hid (turM x s = x) := Lib.hid (by simp [turM, h2])
    clear h2
    go_enter Tryz.func32, Tryz.ntmps32
    go_wp2
    go_end0
    exact ⟨⟨_, rfl⟩, by rw [HE.out]; exact HM.out.m, HM.out.k⟩
end Go.Proofs.YtbimmadllfgmiaaGreat
