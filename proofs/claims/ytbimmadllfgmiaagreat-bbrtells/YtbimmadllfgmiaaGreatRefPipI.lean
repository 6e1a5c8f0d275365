/-
  The document's own pipe (canterref08.Pipe): Update answers, and leaves, what package pipe does. Conditions: the bandwidth is a number of 64 bits.
-/
import Derived.Test.YtbimmadllfgmiaaGreatPart
import Derived.Test.YtbimmadllfgmiaaGreatPipI
import Derived.Test.YtbimmadllfgmiaaGreatWideRef
namespace Go.Proofs.YtbimmadllfgmiaaGreat
open Go.RowKit
set_option maxRecDepth 100000
variable {Fm : Fr} {oo : Nat}

/-- A Pipe of canterref08: best; how often it did not grow; whether it is full. -/
structure RPipAt (Fm : Fr) (oo : Nat) (w : World) (g : Nat) (x : Pst) : Prop where
  whole : Part Fm oo w g #[.int .u64 x.b, .int .i64 x.c, .bool (fullP x)].toList
  fit : x.Fit
section
variable {w w' : World} {g : Nat} {x : Pst} {R : Nat → Prop}
theorem RPipAt.keep (h : RPipAt Fm oo w g x) (hk : Keep R w w') (hg : ¬ R g) : RPipAt Fm oo w' g x := ⟨h.whole.keep hk hg, h.fit⟩
theorem RPipAt.drewN (h : RPipAt Fm oo w g x) (m : Nat) : RPipAt Fm oo (w.drewN m) g x := ⟨h.whole.drewN m, h.fit⟩
theorem RPipAt.alloc (h : RPipAt Fm oo w g x) (o : Obj) : RPipAt Fm oo (w.alloc o) g x := ⟨h.whole.alloc o, h.fit⟩
theorem RPipAt.lt (h : RPipAt Fm oo w g x) : g < w.heap.size := h.whole.lt
end
set_option maxHeartbeats 1000000 in
set_option maxRecDepth 100000 in
theorem rpiupd_any (g : Nat) (x : Pst) (st lim : Bool) (bw : Int) (w : World) (h : RPipAt Fm oo w g x) (hn : Num bw) :
    Calls Tryz.prog 79 #[.pointer (some ⟨g, oo, none⟩), .bool st, .bool lim, .int .u64 bw] w fun e w' => e = .returned (.bool (fullP (updP x st lim bw))) ∧ RPipAt Fm oo w' g (updP x st lim bw) ∧ Keep (fun k => k = g) w w' := by
  have HG := Lib.hid h
  have HF := Lib.hid (h.fit.upd (st := st) (lim := lim) hn)
  have c0 : w.cell? ⟨g, oo, none⟩ = some (.int .u64 x.b) := h.whole.cell0
  have c1 : w.cell? ⟨g, oo + 1, none⟩ = some (.int .i64 x.c) := h.whole.cell 1
  have c2 : w.cell? ⟨g, oo + 2, none⟩ = some (.bool (fullP x)) := h.whole.cell 2
  have f0 : w.frozen? ⟨g, oo, none⟩ = false := h.whole.free0
  have f1 : w.frozen? ⟨g, oo + 1, none⟩ = false := h.whole.free 1
  have f2 : w.frozen? ⟨g, oo + 2, none⟩ = false := h.whole.free 2
  have NB := Lib.hid h.fit.b
  by_cases hs : (st && !lim) = true
  · obtain ⟨rfl, rfl⟩ : st = true ∧ lim = false := by simpa using hs
    clear hs
    by_cases hf : fullP x = true
    · have HE : Hid (updP x true false bw = x) := Lib.hid (by simp [updP, stepP, hf])
      rw [HE.out, hf]
      rw [hf] at c2
      clear h hn hf HF HE
      go_enter Tryz.func79, Tryz.ntmps79
      go_wp2
      go_ret
      refine ⟨rfl, HG.out, Keep.refl _ _⟩
    · have hf' : fullP x = false := by simpa using hf
      by_cases hg : edgeP x.b ≤ bw
      · have HE : Hid (updP x true false bw = ⟨bw, 0⟩) := Lib.hid (by simp [updP, stepP, hf', hg])
        rw [HE.out] at HF ⊢
        rw [hf'] at c2
        have HP0 := Lib.hid (h.whole.put0 (.int .u64 bw))
        have g1 : (w.setCell ⟨g, oo, none⟩ (.int .u64 bw)).cell? ⟨g, oo + 1, none⟩ = some (.int .i64 x.c) := HP0.out.cell 1
        have k1 : (w.setCell ⟨g, oo, none⟩ (.int .u64 bw)).frozen? ⟨g, oo + 1, none⟩ = false := HP0.out.free 1
        have HP1 := Lib.hid (HP0.out.put 1 (.int .i64 0))
        rw [hf'] at HP1
        have HK := Lib.hid (((Keep.refl (fun k => k = g) w).setCell (p := ⟨g, oo, none⟩) (.inl rfl) (.int .u64 bw)).setCell (p := ⟨g, oo + 1, none⟩) (.inl rfl) (.int .i64 0))
        clear h hn hf hf' HP0
        go_enter Tryz.func79, Tryz.ntmps79
        go_wp2_with fail
        refine (rmuldiv_any _ _ _ NB.out.1 NB.out.2 (by decide) (by decide) (by decide) (by decide) _).mono ?_
        rintro e w' ⟨rfl, rfl⟩
        rw [show mulDivV x.b 320 256 = edgeP x.b from rfl]
        go_wp2
        go_ret
        exact ⟨rfl, ⟨HP1.out, HF.out⟩, HK.out⟩
      · have HE : Hid (updP x true false bw = ⟨x.b, x.c + 1⟩) := Lib.hid (by simp [updP, stepP, hf', hg])
        rw [HE.out] at HF ⊢
        rw [hf'] at c2
        have hwr : IntKind.i64.wrap (x.c + 1) = x.c + 1 := by have := h.fit.c0; have := h.fit.c3; rw [IntKind.wrap_i64]; omega
        obtain ⟨B, hB⟩ : ∃ B, fullP ⟨x.b, x.c + 1⟩ = B := ⟨_, rfl⟩
        have hB' : decide (3 ≤ x.c + 1) = B := by rw [← hB]; rfl
        rw [hB]
        have HP0 := Lib.hid (h.whole.put 1 (.int .i64 (x.c + 1)))
        have g1 : (w.setCell ⟨g, oo + 1, none⟩ (.int .i64 (x.c + 1))).cell? ⟨g, oo + 1, none⟩ = some (.int .i64 (x.c + 1)) := HP0.out.cell 1
        have g2 : (w.setCell ⟨g, oo + 1, none⟩ (.int .i64 (x.c + 1))).cell? ⟨g, oo + 2, none⟩ = some (.bool (fullP x)) := HP0.out.cell 2
        have k2 : (w.setCell ⟨g, oo + 1, none⟩ (.int .i64 (x.c + 1))).frozen? ⟨g, oo + 2, none⟩ = false := HP0.out.free 2
        have HP1 := Lib.hid (HP0.out.put 2 (.bool B))
        have l2 : ((w.setCell ⟨g, oo + 1, none⟩ (.int .i64 (x.c + 1))).setCell ⟨g, oo + 2, none⟩ (.bool B)).cell? ⟨g, oo + 2, none⟩ = some (.bool B) := HP1.out.cell 2
        have HK := Lib.hid (((Keep.refl (fun k => k = g) w).setCell (p := ⟨g, oo + 1, none⟩) (.inl rfl) (.int .i64 (x.c + 1))).setCell (p := ⟨g, oo + 2, none⟩) (.inl rfl) (.bool B))
        have HB := Lib.hid hB
        rw [hf'] at g2
        clear h hn hf hf' hB HP0
        go_enter Tryz.func79, Tryz.ntmps79
        go_wp2_with fail
        refine (rmuldiv_any _ _ _ NB.out.1 NB.out.2 (by decide) (by decide) (by decide) (by decide) _).mono ?_
        rintro e w' ⟨rfl, rfl⟩
        rw [show mulDivV x.b 320 256 = edgeP x.b from rfl]
        go_wp2
        go_ret
        refine ⟨rfl, ⟨?_, HF.out⟩, HK.out⟩
        have := HP1.out
        rw [← HB.out] at this ⊢
        exact this
  · have HE : Hid (updP x st lim bw = x) := Lib.hid (by simp only [updP, if_neg hs])
    rw [HE.out]
    clear HF HE
    cases st
    · clear h hn hs
      cases hf : fullP x <;> rw [hf] at c2
      · skip
        go_enter Tryz.func79, Tryz.ntmps79
        go_wp2
        go_ret
        refine ⟨rfl, HG.out, Keep.refl _ _⟩
      · skip
        go_enter Tryz.func79, Tryz.ntmps79
        go_wp2
        go_ret
        refine ⟨rfl, HG.out, Keep.refl _ _⟩
    · obtain rfl : lim = true := by simpa using hs
      clear h hn hs
      cases hf : fullP x <;> rw [hf] at c2
      · skip
        go_enter Tryz.func79, Tryz.ntmps79
        go_wp2
        go_ret
        refine ⟨rfl, HG.out, Keep.refl _ _⟩
      · skip
        go_enter Tryz.func79, Tryz.ntmps79
        go_wp2
        go_ret
        refine ⟨rfl, HG.out, Keep.refl _ _⟩
end Go.Proofs.YtbimmadllfgmiaaGreat
