/-
  The document's own model among other things in memory: NewModel, Update, State. Conditions: numbers are of 64 bits; fewer than 2^64-1 rounds have begun.
-/
import Derived.Test.YtbimmadllfgmiaaGreatRefUpd
import Derived.Test.YtbimmadllfgmiaaGreatRefNew
import Derived.Test.YtbimmadllfgmiaaGreatAwakeM
set_option linter.unusedVariables false
namespace Go.Proofs.YtbimmadllfgmiaaGreat
open Go.RowKit
set_option maxRecDepth 100000
/-- A model of the document's own, its window beside it. -/
structure RModAt (w : World) (g k : Nat) (x : Mdl) : Prop where
  m : RM w g k x (gainM x)
  fit : x.Fit
theorem RModAt.keep {w w' : World} {g k : Nat} {x : Mdl} {R : Nat → Prop} (h : RModAt w g k x) (hk : Keep R w w') (hg : ∀ i, own2 g k i → ¬ R i) : RModAt w' g k x := ⟨h.m.keep hk (hg g (.inl rfl)) (hg k (.inr rfl)), h.fit⟩
theorem RModAt.lt {w : World} {g k i : Nat} {x : Mdl} (h : RModAt w g k x) (e : own2 g k i) : i < w.heap.size := by
  rcases e with rfl | rfl
  · exact h.m.lt
  · exact h.m.m.whole.lt
def rmodT (g k : Nat) (x : Mdl) : Thing := ⟨fun w => RModAt w g k x, own2 g k, fun h hk hs => h.keep hk hs, fun h e => h.lt e⟩
theorem gain_newM {h : Int} : gainM (newM h) = 739 := by kernel_rfl
section
variable {wB w : World} {L : List Thing} {g k : Nat} {x y : Mdl} {s : Spl} {m tso : Int} {v : Array Value} {a : Thing}
theorem Room.rmodnew (h : Room wB w L) (hm : Num m) : Calls Tryz.prog 5 #[.int .u64 m] w fun e w' => ∃ g k, e = .returned (.pointer (some ⟨g, 0, none⟩)) ∧ Room wB w' (rmodT g k (newM (clampS m)) :: L) :=
  (rmnew_any m w hm).mono fun _ _ ⟨g, k, he, hg, hk, h1, k1⟩ => ⟨g, k, he, h.add (t := rmodT g k (newM (clampS m))) ⟨by rw [gain_newM]; exact h1, fit_newM clampS_bd.1 clampS_bd.2⟩ k1 (fun i e => by rcases e with rfl | rfl <;> assumption)⟩
theorem rmodupd_is (e : updM x s tso = y) (ev : staC y = v) (h : RModAt w g k x) (hs : s.Fit) (ht : Num tso) (hc : x.r.c < 18446744073709551615) :
    Calls Tryz.prog 11 #[.pointer (some ⟨g, 0, none⟩), s.v, .int .u64 tso] w fun e w' => e = .returned (.agg v) ∧ RModAt w' g k y ∧ Keep (own2 g k) w w' := by
  refine (rmupd_any g k x (gainM x) s tso w h.m h.fit hs ht hc).mono fun e w' ⟨he, h1, k1⟩ => ?_
  have hf := h.fit.upd hs ht.1 hc
  rw [‹updM x s tso = y›] at he h1 hf
  rw [ev] at he
  exact ⟨he, ⟨h1, hf⟩, k1⟩
theorem Room.rmodupd (h : Room wB w (rmodT g k x :: L)) (e : updM x s tso = y) (ev : staC y = v) (hs : s.Fit) (ht : Num tso) (hc : x.r.c < 18446744073709551615) :
    Calls Tryz.prog 11 #[.pointer (some ⟨g, 0, none⟩), s.v, .int .u64 tso] w fun e w' => e = .returned (.agg v) ∧ Room wB w' (rmodT g k y :: L) :=
  (rmodupd_is e ev h.get0 hs ht hc).mono fun _ _ ⟨he, h1, k1⟩ => ⟨he, h.step0 (t' := rmodT g k y) h1 k1 own_same⟩
theorem Room.rmodupd1 (h : Room wB w (a :: rmodT g k x :: L)) (e : updM x s tso = y) (ev : staC y = v) (hs : s.Fit) (ht : Num tso) (hc : x.r.c < 18446744073709551615) :
    Calls Tryz.prog 11 #[.pointer (some ⟨g, 0, none⟩), s.v, .int .u64 tso] w fun e w' => e = .returned (.agg v) ∧ Room wB w' (a :: rmodT g k y :: L) :=
  (rmodupd_is e ev h.get1 hs ht hc).mono fun _ _ ⟨he, h1, k1⟩ => ⟨he, h.step1 (t' := rmodT g k y) h1 k1 own_same⟩
theorem rmodsta_is (e : staC x = v) (h : RModAt w g k x) : Calls Tryz.prog 8 #[.pointer (some ⟨g, 0, none⟩)] w fun e w' => e = .returned (.agg v) ∧ Keep (fun _ => False) w w' := by
  have := rstate_any g k x w h.m
  rw [e] at this
  exact this
theorem Room.rmodsta (h : Room wB w (rmodT g k x :: L)) (e : staC x = v) : Calls Tryz.prog 8 #[.pointer (some ⟨g, 0, none⟩)] w fun e w' => e = .returned (.agg v) ∧ Room wB w' (rmodT g k x :: L) :=
  (rmodsta_is e h.get0).mono fun _ _ ⟨he, k1⟩ => ⟨he, h.kept k1⟩
theorem Room.rmodsta1 (h : Room wB w (a :: rmodT g k x :: L)) (e : staC x = v) : Calls Tryz.prog 8 #[.pointer (some ⟨g, 0, none⟩)] w fun e w' => e = .returned (.agg v) ∧ Room wB w' (a :: rmodT g k x :: L) :=
  (rmodsta_is e h.get1).mono fun _ _ ⟨he, k1⟩ => ⟨he, h.kept k1⟩
end
end Go.Proofs.YtbimmadllfgmiaaGreat
