/-
  The document's own rounds (canterref08.Rounds): Update answers, and leaves, what package rounds does. Conditions: fewer than 2^64-1 rounds have begun.
-/
import Derived.Test.YtgngeaccddbinaaAwakeO
namespace Go.Proofs.Ytgngeaccddbinaa
open Go.RowKit

/-- Rounds of canterref08: how many have begun; next. -/
structure RRndAt (w : World) (g : Nat) (x : Rst) : Prop where
  whole : Whole w g 28 #[.int .u64 x.c, .int .u64 x.n]
  fit : x.Fit
section
variable {w w' : World} {g : Nat} {x : Rst} {R : Nat → Prop}
theorem RRndAt.keep (h : RRndAt w g x) (hk : Keep R w w') (hg : ¬ R g) : RRndAt w' g x := ⟨h.whole.keep hk hg, h.fit⟩
theorem RRndAt.drewN (h : RRndAt w g x) (m : Nat) : RRndAt (w.drewN m) g x := ⟨h.whole.drewN m, h.fit⟩
theorem RRndAt.alloc (h : RRndAt w g x) (o : Obj) : RRndAt (w.alloc o) g x := ⟨h.whole.alloc o, h.fit⟩
theorem RRndAt.lt (h : RRndAt w g x) : g < w.heap.size := h.whole.lt
end
set_option maxHeartbeats 1000000 in
theorem rrupd_any (g : Nat) (x : Rst) (s : Spl) (w : World) (h : RRndAt w g x) (hd : Num s.d) (hc : x.c < 18446744073709551615) :
    Calls Try.prog 9 #[.pointer (some ⟨g, 0, none⟩), s.v] w fun e w' => e = .returned (.bool (begR x s)) ∧ RRndAt w' g (updR x s) ∧ Keep (fun k => k = g) w w' := by
  by_cases ha : s.a = 0
  · have hbeg : begR x s = false ∧ updR x s = x := by simp [updR, begR, ha]
    have HE := Lib.hid hbeg
    have ha' : (s.a == 0) = true := by simp [ha]
    clear ha hbeg
    have hlt := h.lt
    have HN := Lib.hid (Whole.new w 32 s.c)
    have HG1 := Lib.hid (h.alloc (.cells s.c 32))
    have HK := Lib.hid ((Keep.refl (fun k => k = g) w).alloc (.cells s.c 32))
    clear h
    go_enter Try.func9, Try.ntmps9
    go_wp2
    generalize hw1 : w.alloc _ = w1 at *
    generalize w.heap.size = B at *
    have d1 : w1.cell? ⟨B, 1, none⟩ = some (.int .u64 s.d) := HN.out.cell 1
    have d2 : w1.cell? ⟨B, 2, none⟩ = some (.int .u64 s.p) := HN.out.cell 2
    have d5 : w1.cell? ⟨B, 5, none⟩ = some (.int .u64 s.a) := HN.out.cell 5
    have e1 : w1.cell? ⟨g, 1, none⟩ = some (.int .u64 x.n) := HG1.out.whole.cell 1
    clear hw1
    go_quiet (fail)
    have HG2 := Lib.hid (HG1.out.drewN nq)
    have HN2 := Lib.hid (HN.out.drewN nq)
    have HK2 := Lib.hid (HK.out.drewN nq)
    clear d1 d2 d5 e1 HN HG1 HK
    generalize w1.drewN nq = w2 at *
    go_wp2
    go_ret
    exact ⟨ret_b HE.out.1.symm, (by rw [HE.out.2]; exact HG2.out), HK2.out⟩
  · have ha' : (s.a == 0) = false := by simp [ha]
    by_cases hp : s.p < x.n
    · have hbeg : begR x s = false ∧ updR x s = x := by simp [updR, begR, hp]
      have HE := Lib.hid hbeg
      clear ha hbeg
      have hlt := h.lt
      have HN := Lib.hid (Whole.new w 32 s.c)
      have HG1 := Lib.hid (h.alloc (.cells s.c 32))
      have HK := Lib.hid ((Keep.refl (fun k => k = g) w).alloc (.cells s.c 32))
      clear h
      go_enter Try.func9, Try.ntmps9
      go_wp2
      generalize hw1 : w.alloc _ = w1 at *
      generalize w.heap.size = B at *
      have d1 : w1.cell? ⟨B, 1, none⟩ = some (.int .u64 s.d) := HN.out.cell 1
      have d2 : w1.cell? ⟨B, 2, none⟩ = some (.int .u64 s.p) := HN.out.cell 2
      have d5 : w1.cell? ⟨B, 5, none⟩ = some (.int .u64 s.a) := HN.out.cell 5
      have e1 : w1.cell? ⟨g, 1, none⟩ = some (.int .u64 x.n) := HG1.out.whole.cell 1
      clear hw1
      go_quiet (fail)
      have HG2 := Lib.hid (HG1.out.drewN nq)
      have HN2 := Lib.hid (HN.out.drewN nq)
      have HK2 := Lib.hid (HK.out.drewN nq)
      clear d1 d2 d5 e1 HN HG1 HK
      generalize w1.drewN nq = w2 at *
      go_wp2
      go_ret
      exact ⟨ret_b HE.out.1.symm, (by rw [HE.out.2]; exact HG2.out), HK2.out⟩
    · have hbeg : begR x s = true ∧ updR x s = ⟨s.d, x.c + 1⟩ := by simp [updR, begR, hp, ha]
      have HE := Lib.hid hbeg
      clear ha hbeg
      have hwr : IntKind.u64.wrap (x.c + 1) = x.c + 1 := by have := h.fit.c.1; rw [IntKind.wrap_u64]; omega
      have HF := Lib.hid (h.fit.upd (s := s) hd hc)
      clear hc hd
      have hlt := h.lt
      have HN := Lib.hid (Whole.new w 32 s.c)
      have HG1 := Lib.hid (h.alloc (.cells s.c 32))
      have HK := Lib.hid ((Keep.refl (fun k => k = g) w).alloc (.cells s.c 32))
      clear h
      go_enter Try.func9, Try.ntmps9
      go_wp2
      generalize hw1 : w.alloc _ = w1 at *
      generalize w.heap.size = B at *
      have d1 : w1.cell? ⟨B, 1, none⟩ = some (.int .u64 s.d) := HN.out.cell 1
      have d2 : w1.cell? ⟨B, 2, none⟩ = some (.int .u64 s.p) := HN.out.cell 2
      have d5 : w1.cell? ⟨B, 5, none⟩ = some (.int .u64 s.a) := HN.out.cell 5
      have e1 : w1.cell? ⟨g, 1, none⟩ = some (.int .u64 x.n) := HG1.out.whole.cell 1
      clear hw1
      go_quiet (fail)
      have HG2 := Lib.hid (HG1.out.drewN nq)
      have HN2 := Lib.hid (HN.out.drewN nq)
      have HK2 := Lib.hid (HK.out.drewN nq)
      clear d1 d2 d5 e1 HN HG1 HK
      generalize w1.drewN nq = w2 at *
      have d1 : w2.cell? ⟨B, 1, none⟩ = some (.int .u64 s.d) := HN2.out.cell 1
      have e1 : w2.cell? ⟨g, 1, none⟩ = some (.int .u64 x.n) := HG2.out.whole.cell 1
      have f1 : w2.frozen? ⟨g, 1, none⟩ = false := HG2.out.whole.free 1
      have HP0 := Lib.hid (HG2.out.whole.put 1 (.int .u64 s.d))
      have e0 : (w2.setCell ⟨g, 1, none⟩ (.int .u64 s.d)).cell? ⟨g, 0, none⟩ = some (.int .u64 x.c) := HP0.out.cell 0
      have f0 : (w2.setCell ⟨g, 1, none⟩ (.int .u64 s.d)).frozen? ⟨g, 0, none⟩ = false := HP0.out.free 0
      have HP1 := Lib.hid (HP0.out.put 0 (.int .u64 (x.c + 1)))
      have HK3 := Lib.hid ((HK2.out.setCell (p := ⟨g, 1, none⟩) (.inl rfl) (.int .u64 s.d)).setCell (p := ⟨g, 0, none⟩) (.inl rfl) (.int .u64 (x.c + 1)))
      go_wp2
      go_ret
      refine ⟨ret_b HE.out.1.symm, ⟨?_, HF.out⟩, HK3.out⟩
      rw [HE.out.2]
      exact HP1.out
def rrndT (g : Nat) (x : Rst) : Thing := ⟨fun w => RRndAt w g x, fun k => k = g, fun h hk hs => h.keep hk (hs g rfl), fun h e => e ▸ h.lt⟩
theorem Room.rrupd {wB w : World} {L : List Thing} {t : Thing} {g : Nat} {x y : Rst} {s : Spl} {b : Bool} (h : Room wB w (t :: rrndT g x :: L)) (e : begR x s = b ∧ updR x s = y) (hd : Num s.d) (hc : x.c < 18446744073709551615) :
    Calls Try.prog 9 #[.pointer (some ⟨g, 0, none⟩), s.v] w fun e w' => e = .returned (.bool b) ∧ Room wB w' (t :: rrndT g y :: L) :=
  (rrupd_any g x s w h.get1 hd hc).mono fun _ _ ⟨he, h1, k1⟩ => ⟨e.1 ▸ he, h.step1 (t' := rrndT g y) (e.2 ▸ h1) k1 own_same⟩
end Go.Proofs.Ytgngeaccddbinaa
