/-
  The document's own rounds (canterref08.Rounds): Update answers, and leaves, what package rounds does. Conditions: fewer than 2^64-1 rounds have begun.
-/
import Derived.Test.YtbimmadllfgmiaaGreatPart
import Derived.Test.YtbimmadllfgmiaaGreatRndI
namespace Go.Proofs.YtbimmadllfgmiaaGreat
open Go.RowKit
set_option maxRecDepth 100000
variable {Fm : Fr} {oo : Nat}

/-- Rounds of canterref08: how many have begun; next. -/
structure RRndAt (Fm : Fr) (oo : Nat) (w : World) (g : Nat) (x : Rst) : Prop where
  whole : Part Fm oo w g #[.int .u64 x.c, .int .u64 x.n].toList
  fit : x.Fit
section
variable {w w' : World} {g : Nat} {x : Rst} {R : Nat → Prop}
theorem RRndAt.keep (h : RRndAt Fm oo w g x) (hk : Keep R w w') (hg : ¬ R g) : RRndAt Fm oo w' g x := ⟨h.whole.keep hk hg, h.fit⟩
theorem RRndAt.drewN (h : RRndAt Fm oo w g x) (m : Nat) : RRndAt Fm oo (w.drewN m) g x := ⟨h.whole.drewN m, h.fit⟩
theorem RRndAt.alloc (h : RRndAt Fm oo w g x) (o : Obj) : RRndAt Fm oo (w.alloc o) g x := ⟨h.whole.alloc o, h.fit⟩
theorem RRndAt.lt (h : RRndAt Fm oo w g x) : g < w.heap.size := h.whole.lt
end
set_option maxHeartbeats 1000000 in
theorem rrupd_any (g : Nat) (x : Rst) (s : Spl) (w : World) (h : RRndAt Fm oo w g x) (hd : Num s.d) (hc : x.c < 18446744073709551615) :
    Calls Tryz.prog 40 #[.pointer (some ⟨g, oo, none⟩), s.v] w fun e w' => e = .returned (.bool (begR x s)) ∧ RRndAt Fm oo w' g (updR x s) ∧ Keep (fun k => k = g) w w' := by
  by_cases ha : s.a = 0
  · have hbeg : begR x s = false ∧ updR x s = x := by simp [updR, begR, ha]
    have HE := Lib.hid hbeg
    have ha' : (s.a == 0) = true := by simp [ha]
    clear ha hbeg
    have hlt := h.lt
    have HN := Lib.hid (Whole.new w 34 s.c)
    have HG1 := Lib.hid (h.alloc (.cells s.c 34))
    have HK := Lib.hid ((Keep.refl (fun k => k = g) w).alloc (.cells s.c 34))
    clear h
    go_enter Tryz.func40, Tryz.ntmps40
    go_wp2
    generalize hw1 : w.alloc _ = w1 at *
    generalize w.heap.size = B at *
    have d1 : w1.cell? ⟨B, 1, none⟩ = some (.int .u64 s.d) := HN.out.cell 1
    have d2 : w1.cell? ⟨B, 2, none⟩ = some (.int .u64 s.p) := HN.out.cell 2
    have d5 : w1.cell? ⟨B, 5, none⟩ = some (.int .u64 s.a) := HN.out.cell 5
    have e1 : w1.cell? ⟨g, oo + 1, none⟩ = some (.int .u64 x.n) := HG1.out.whole.cell 1
    clear hw1
    go_quiet (fail)
    have HG2 := Lib.hid (HG1.out.drewN nq)
    have HN2 := Lib.hid (HN.out.drewN nq)
    have HK2 := Lib.hid (HK.out.drewN nq)
    clear d1 d2 d5 e1 HN HG1 HK
    generalize w1.drewN nq = w2 at *
    go_wp2
    go_ret
    exact ⟨ret_b HE.out.1.symm, (by rw [HE.out.2]; exact HG2.out), HK2.out⟩
  · have ha' : (s.a == 0) = false := by simp [ha]
    by_cases hp : s.p < x.n
    · have hbeg : begR x s = false ∧ updR x s = x := by simp [updR, begR, hp]
      have HE := Lib.hid hbeg
      clear ha hbeg
      have hlt := h.lt
      have HN := Lib.hid (Whole.new w 34 s.c)
      have HG1 := Lib.hid (h.alloc (.cells s.c 34))
      have HK := Lib.hid ((Keep.refl (fun k => k = g) w).alloc (.cells s.c 34))
      clear h
      go_enter Tryz.func40, Tryz.ntmps40
      go_wp2
      generalize hw1 : w.alloc _ = w1 at *
      generalize w.heap.size = B at *
      have d1 : w1.cell? ⟨B, 1, none⟩ = some (.int .u64 s.d) := HN.out.cell 1
      have d2 : w1.cell? ⟨B, 2, none⟩ = some (.int .u64 s.p) := HN.out.cell 2
      have d5 : w1.cell? ⟨B, 5, none⟩ = some (.int .u64 s.a) := HN.out.cell 5
      have e1 : w1.cell? ⟨g, oo + 1, none⟩ = some (.int .u64 x.n) := HG1.out.whole.cell 1
      clear hw1
      go_quiet (fail)
      have HG2 := Lib.hid (HG1.out.drewN nq)
      have HN2 := Lib.hid (HN.out.drewN nq)
      have HK2 := Lib.hid (HK.out.drewN nq)
      clear d1 d2 d5 e1 HN HG1 HK
      generalize w1.drewN nq = w2 at *
      go_wp2
      go_ret
      exact ⟨ret_b HE.out.1.symm, (by rw [HE.out.2]; exact HG2.out), HK2.out⟩
    · have hbeg : begR x s = true ∧ updR x s = ⟨s.d, x.c + 1⟩ := by simp [updR, begR, hp, ha]
      have HE := Lib.hid hbeg
      clear ha hbeg
      have hwr : IntKind.u64.wrap (x.c + 1) = x.c + 1 := by have := h.fit.c.1; rw [IntKind.wrap_u64]; omega
      have HF := Lib.hid (h.fit.upd (s := s) hd hc)
      clear hc hd
      have hlt := h.lt
      have HN := Lib.hid (Whole.new w 34 s.c)
      have HG1 := Lib.hid (h.alloc (.cells s.c 34))
      have HK := Lib.hid ((Keep.refl (fun k => k = g) w).alloc (.cells s.c 34))
      clear h
      go_enter Tryz.func40, Tryz.ntmps40
      go_wp2
      generalize hw1 : w.alloc _ = w1 at *
      generalize w.heap.size = B at *
      have d1 : w1.cell? ⟨B, 1, none⟩ = some (.int .u64 s.d) := HN.out.cell 1
      have d2 : w1.cell? ⟨B, 2, none⟩ = some (.int .u64 s.p) := HN.out.cell 2
      have d5 : w1.cell? ⟨B, 5, none⟩ = some (.int .u64 s.a) := HN.out.cell 5
      have e1 : w1.cell? ⟨g, oo + 1, none⟩ = some (.int .u64 x.n) := HG1.out.whole.cell 1
      clear hw1
      go_quiet (fail)
      have HG2 := Lib.hid (HG1.out.drewN nq)
      have HN2 := Lib.hid (HN.out.drewN nq)
      have HK2 := Lib.hid (HK.out.drewN nq)
      clear d1 d2 d5 e1 HN HG1 HK
      generalize w1.drewN nq = w2 at *
      have d1 : w2.cell? ⟨B, 1, none⟩ = some (.int .u64 s.d) := HN2.out.cell 1
      have e1 : w2.cell? ⟨g, oo + 1, none⟩ = some (.int .u64 x.n) := HG2.out.whole.cell 1
      have f1 : w2.frozen? ⟨g, oo + 1, none⟩ = false := HG2.out.whole.free 1
      have HP0 := Lib.hid (HG2.out.whole.put 1 (.int .u64 s.d))
      have e0 : (w2.setCell ⟨g, oo + 1, none⟩ (.int .u64 s.d)).cell? ⟨g, oo, none⟩ = some (.int .u64 x.c) := HP0.out.cell0
      have f0 : (w2.setCell ⟨g, oo + 1, none⟩ (.int .u64 s.d)).frozen? ⟨g, oo, none⟩ = false := HP0.out.free0
      have HP1 := Lib.hid (HP0.out.put0 (.int .u64 (x.c + 1)))
      have HK3 := Lib.hid ((HK2.out.setCell (p := ⟨g, oo + 1, none⟩) (.inl rfl) (.int .u64 s.d)).setCell (p := ⟨g, oo, none⟩) (.inl rfl) (.int .u64 (x.c + 1)))
      go_wp2
      go_ret
      refine ⟨ret_b HE.out.1.symm, ⟨?_, HF.out⟩, HK3.out⟩
      rw [HE.out.2]
      exact HP1.out
end Go.Proofs.YtbimmadllfgmiaaGreat
