/-
  A range over a function whose own body ranges over another function, and whose rounds turn what they have laid themselves (an append): what it asks of a round, and the law for the caller. No program is spoken of. Conditions: none.
  A region that draws its order, within a round of a range over a function: walked in one order (Sched), as outside of it. No program is spoken of. Conditions: those of each theorem.
-/
import Derived.Test.YtnljjdfajmjdjaaGreatJ04
import Derived.Test.YtnljjdfajmjdjaaGreatJ07
import Derived.OrdersIn
import Derived.TacticsIn
import Derived.RangeFuncCalls
namespace Go.Proofs.YtnljjdfajmjdjaaGreat
open Go.RowKit Go.Shelf
set_option maxRecDepth 100000
variable {F : Fence} {n : Nat} {P : Program}

/-- No block of cells has turned but those of R. -/
def KeepC (R : Nat → Prop) (W W' : World) : Prop := ∀ k o, W.heap[k]? = some o → o.isCells = true → ¬ R k → W'.heap[k]? = some o
theorem Keep.c {R : Nat → Prop} {W W' : World} (h : Keep R W W') : KeepC R W W' := fun k _ hk _ hr => (h.block k (Array.getElem?_eq_some_iff.1 hk).1 hr).trans hk
theorem KeepC.whole {R : Nat → Prop} {W W' : World} (h : KeepC R W W') {g : Nat} {t : TypeId} {cs : Array Value} (hw : Whole W g t cs) (hr : ¬ R g) : Whole W' g t cs := h g _ hw rfl hr
/-- What a round says to such an iterator, which began where the heap had B blocks. -/
def RoundsC {α : Type} (c : Nat) (F : Fence) (m : Nat) (P : Program) (l : Nat) (encs : α → Array Value) (R : Nat → Prop) (N B : Nat) (J Jx : List α → World → Prop) : Prop :=
  ∀ pre x W, J pre W → pre.length < N → B + c ≤ W.heap.size → YieldAt F m P l (encs x) W fun e W' => KeepsFrom B W W' ∧ KeepC R W W' ∧
    ((e = .returned (.bool true) ∧ J (pre ++ [x]) W' ∧ Keep R W W') ∨ (e = .returned (.bool false) ∧ Jx (pre ++ [x]) W'))
/-- What such an iterator does: all of S, in order, or a part, of Sp; the first c blocks that it lays are its own. -/
def GivesC {α : Type} (c : Nat) (F : Fence) (m : Nat) (P : Program) (g : Nat) (lb : Array Value) (encs : α → Array Value) (R : Nat → Prop) (S Sp : List α → Prop) (N : Nat) (w : World) : Prop :=
  ∀ (l : Nat) (J Jx : List α → World → Prop) (W : World), Below w.heap.size w W → OwnFrom W.heap.size J → OwnFrom W.heap.size Jx → RoundsC c F (m - 1) P l encs (fun k => R k ∨ W.heap.size + c ≤ k) N W.heap.size J Jx → J [] W →
    CallsIn F m P g (#[.func (.yield l) #[] #[]] ++ lb) W fun e W' => (∃ v, e = .returned v) ∧ ((∃ xs, S xs ∧ J xs W') ∨ (∃ pre, Sp pre ∧ Jx pre W'))
/-- What a round's body leaves. -/
def ownPostC {α : Type} (B : Nat) (Kp : World → World → Prop) (I : List α → World → Prop) (Ix : Code → List α → World → Prop) (xs : List α) (W : World) : Exit → Act → World → Prop
  | .normal, _, W' => KeepsFrom B W W' ∧ Kp W W' ∧ I xs W'
  | .ret, _, W' => KeepsFrom B W W' ∧ Kp W W' ∧ Ix .ret xs W'
  | .exit id, _, W' => KeepsFrom B W W' ∧ Kp W W' ∧ Ix (.exit id) xs W'
  | .goto t, _, W' => KeepsFrom B W W' ∧ Kp W W' ∧ Ix (.goto t) xs W'
  | .panic _, _, _ => False
  | .outgrown, _, _ => False

theorem range_lawC {α : Type} {c : Nat} {g : Operand} {ps : Array Tmp} {assign body : Code} {Q : Exit → Act → World → Prop} {a : Act} {w : World}
    (hro : F.round = none) (h1 : 1 ≤ n) {gf : Nat} {lb : Array Value} (hg : a.eval g = .func (.func gf) #[] lb) (hFg : F.fn gf) (eg : ∀ args w, (callFunc gf args).run P w = .ok (.enter gf args) w)
    {encs : α → Array Value} {R : Nat → Prop} {S Sp : List α → Prop} {N : Nat} {w0 : World} (hseq : GivesC c F (n - 1) P gf lb encs R S Sp N w0) (hb0 : Below w0.heap.size w0 w) (hps : ∀ x, (encs x).size = ps.size)
    (I : List α → World → Prop) (Ix : Code → List α → World → Prop) (hI : OwnFrom w.heap.size I) (hIx : ∀ co, OwnFrom w.heap.size (Ix co)) (h0 : I [] w) (a₁ : α → Act)
    (hassign : ∀ (l : Nat) (x : α) (W : World) (K : Act → World → Prop), K (a₁ x) W →
      assign.wpIn (F.inRound l) (n - 1 - 1) P (Exit.then K (fun _ _ _ => False)) { tmps := (ps.zip (encs x)).foldl (fun t (p, v) => t.setIfInBounds p v) a.tmps, defers := [] } W)
    (hbody : ∀ (l : Nat) (pre : List α) (x : α) (W : World), I pre W → pre.length < N → w.heap.size + 2 + c ≤ W.heap.size → body.wpIn (F.inRound l) (n - 1 - 1) P (ownPostC w.heap.size (Keep (fun k => R k ∨ w.heap.size + 2 + c ≤ k)) I Ix (pre ++ [x]) W) (a₁ x) W)
    (hdone : ∀ (D : Nat) (xs : List α) (W : World), w.heap.size ≤ D → S xs → I xs W → W.heap[D]? = some (.deferred (some [])) → Q .normal { a with defers := { target := .collected D, args := #[] } :: a.defers } W)
    (hstop : ∀ (D : Nat) (co : Code) (pre : List α) (W : World), w.heap.size ≤ D → Sp pre → Ix co pre W → W.heap[D]? = some (.deferred (some [])) → co.wpIn F n P Q { a with defers := { target := .collected D, args := #[] } :: a.defers } W) :
    (Code.rangeFunc g ps assign body).wpIn F n P Q a w := by
  refine wpIn_rangeFunc fun fn hfn => ?_
  rw [hro]
  obtain ⟨rc, hrc⟩ : ∃ rc : LoopState → Option Code → Obj, rc = fun st pe => .loop { state := st, pending := pe, fn, tmps := a.tmps, params := ps, assign, body, defers := w.heap.size } := ⟨_, rfl⟩
  obtain ⟨d, hd⟩ : ∃ d, d = w.heap.size := ⟨_, rfl⟩
  obtain ⟨l, hl⟩ : ∃ l, l = d + 1 := ⟨_, rfl⟩
  obtain ⟨W1, hW1⟩ : ∃ W1, W1 = (w.alloc (.deferred (some []))).alloc (rc .ready none) := ⟨_, rfl⟩
  have hs1 : W1.heap.size = d + 2 := by rw [hW1, hd]; simp
  have hL1 : W1.heap[l]? = some (rc .ready none) := by
    have := World.alloc_heap_new (w.alloc (.deferred (some []))) (rc .ready none)
    rw [World.size_alloc] at this
    rw [hW1, hl, hd]; exact this
  have hD1 : W1.heap[d]? = some (.deferred (some [])) := by
    rw [hW1, hd]; exact (Below.heap_alloc _ _ _ (by simp)).trans (World.alloc_heap_new w _)
  have hI1 : I [] W1 := by rw [hW1]; exact hI.alloc _ (hI.alloc _ h0)
  have hb1 : Below w0.heap.size w0 W1 := by
    rw [hW1]; exact hb0.trans ((((Below.refl _ w).alloc (Nat.le_refl _) _).alloc (by simp) _).mono hb0.size)
  have hcall := hseq l
    (fun pre W => I pre W ∧ W.heap[l]? = some (rc .ready none) ∧ W.heap[d]? = some (.deferred (some [])))
    (fun pre W => ∃ co, Ix co pre W ∧ W.heap[l]? = some (rc .done (some co)) ∧ W.heap[d]? = some (.deferred (some [])))
    W1 hb1
    (fun s A B row hs hgr hr => ⟨hI s A B row hs.1 hgr (fun r e => ⟨by have := (hr r e).1; omega, (hr r e).2⟩), grown_far hgr hr (by omega) hs.2.1, grown_far hgr hr (by omega) hs.2.2⟩)
    (fun s A B row hs hgr hr => by
      obtain ⟨co, hc, hcl, hcd⟩ := hs
      exact ⟨co, hIx co s A B row hc hgr (fun r e => ⟨by have := (hr r e).1; omega, (hr r e).2⟩), grown_far hgr hr (by omega) hcl, grown_far hgr hr (by omega) hcd⟩)
    (by
      rintro pre x W ⟨hi, hlp, hdf⟩ hlen hroom
      have hlt : l < W.heap.size := (Array.getElem?_eq_some_iff.1 hlp).1
      have hlp' := hlp
      rw [hrc] at hlp'
      obtain ⟨ob, hob⟩ : ∃ ob : Obj, ob = rc .busy none := ⟨_, rfl⟩
      have hob' := hob
      rw [hrc] at hob'
      have hbr : (Instr.beginRound l).run P W = .ok () (W.putObj l ob) := by rw [hob']; exact run_beginRound hlp' rfl
      refine ⟨fn, _, assign, body, run_yield (P := P) (args := encs x) hlp' (hps x), roundIn_of_wpIn hfn (hassign _ x W _ ⟨_, hbr, ?_⟩)⟩
      have hbz : (W.putObj l ob).heap[l]? = some ob := World.putObj_heap_same hlt
      have hbd : (W.putObj l ob).heap[d]? = some (.deferred (some [])) := (World.putObj_heap_other (by omega)).trans hdf
      have hnc : ob.isCells = false := by rw [hob']; rfl
      refine wpIn_mono (hbody _ pre x _ (hI.putObj _ hi (by omega) hlp (by rw [hrc]; rfl)) hlen (by simp [World.putObj]; omega)) ?_
      have fin : ∀ (jump : Option Code) (W3 : World), KeepsFrom w.heap.size (W.putObj l ob) W3 → ∃ o3 : Obj, o3 = rc (if jump.isNone then .ready else .done) jump ∧
          (Instr.endRound l jump).run P W3 = .ok (.bool jump.isNone) (W3.putObj l o3) ∧ W3.heap[l]? = some ob ∧ (W3.putObj l o3).heap[l]? = some o3 ∧ (W3.putObj l o3).heap[d]? = some (.deferred (some [])) ∧ KeepsFrom W1.heap.size W (W3.putObj l o3) := fun jump W3 hk3 => by
        have hl3 := hk3.same l ob (by omega) hbz hnc
        have hd3 := hk3.same d _ (by omega) hbd rfl
        have hl3' := hl3
        rw [hob'] at hl3'
        refine ⟨_, rfl, ?_, hl3, World.putObj_heap_same (Array.getElem?_eq_some_iff.1 hl3).1, (World.putObj_heap_other (by omega)).trans hd3, ?_, fun k o hk hko ho => ?_⟩
        · rw [hrc]; exact run_endRound (P := P) jump hl3'
        · have := hk3.size
          simpa [World.putObj] using this
        · exact (World.putObj_heap_other (by omega)).trans (hk3.same k o (by omega) ((World.putObj_heap_other (by omega)).trans hko) ho)
      have hmono : ∀ k, (fun k => R k ∨ w.heap.size + 2 + c ≤ k) k → (fun k => R k ∨ W1.heap.size + c ≤ k) k := fun k h => h.imp id (fun h => by omega)
      have hkc : ∀ (o3 : Obj) (W3 : World), Keep (fun k => R k ∨ w.heap.size + 2 + c ≤ k) (W.putObj l ob) W3 → KeepC (fun k => R k ∨ W1.heap.size + c ≤ k) W (W3.putObj l o3) := fun o3 W3 h k o hk hko hr => by
        have hkl : k ≠ l := fun e => by subst e; rw [hlp] at hk; cases hk; rw [hrc] at hko; cases hko
        rw [World.putObj_heap_other hkl, h.block k (by have := (Array.getElem?_eq_some_iff.1 hk).1; simpa [World.putObj] using this) (fun h => hr (hmono k h)), World.putObj_heap_other hkl]
        exact hk
      rintro e a3 W3 hp
      cases e with
      | normal =>
        obtain ⟨hk3, hkp3, hi3⟩ := hp
        obtain ⟨o3, ho3, hr3, hl3, hl4, hd4, hk4⟩ := fin none W3 hk3
        refine ⟨_, _, hr3, hk4, hkc _ _ hkp3, .inl ⟨rfl, ⟨hI.putObj _ hi3 (by omega) hl3 hnc, by rw [hl4, ho3]; rfl, hd4⟩, ?_⟩⟩
        rw [show o3 = rc .ready none from ho3]
        exact (keep_back hlp hkp3).mono hmono
      | ret =>
        obtain ⟨hk3, hkp3, hi3⟩ := hp
        obtain ⟨o3, ho3, hr3, hl3, hl4, hd4, hk4⟩ := fin (some .ret) W3 hk3
        exact ⟨_, _, hr3, hk4, hkc _ _ hkp3, .inr ⟨rfl, .ret, (hIx _).putObj _ hi3 (by omega) hl3 hnc, by rw [hl4, ho3]; rfl, hd4⟩⟩
      | exit id =>
        obtain ⟨hk3, hkp3, hi3⟩ := hp
        obtain ⟨o3, ho3, hr3, hl3, hl4, hd4, hk4⟩ := fin (some (.exit id)) W3 hk3
        exact ⟨_, _, hr3, hk4, hkc _ _ hkp3, .inr ⟨rfl, .exit id, (hIx _).putObj _ hi3 (by omega) hl3 hnc, by rw [hl4, ho3]; rfl, hd4⟩⟩
      | goto t =>
        obtain ⟨hk3, hkp3, hi3⟩ := hp
        obtain ⟨o3, ho3, hr3, hl3, hl4, hd4, hk4⟩ := fin (some (.goto t)) W3 hk3
        exact ⟨_, _, hr3, hk4, hkc _ _ hkp3, .inr ⟨rfl, .goto t, (hIx _).putObj _ hi3 (by omega) hl3 hnc, by rw [hl4, ho3]; rfl, hd4⟩⟩
      | panic ch => exact hp.elim
      | outgrown => exact hp.elim)
    ⟨hI1, hL1, hD1⟩
  have hend : ∀ (st : LoopState) (pe : Option Code) (W2 : World), st ≠ .busy → W2.heap[l]? = some (rc st pe) → ∃ o4 : Obj, (Instr.endLoop l).run P W2 = .ok pe (W2.putObj l o4) := fun st pe W2 hst h => by
    rw [hrc] at h
    exact ⟨_, run_endLoop (P := P) h hst⟩
  have hent : (Instr.enterLoop fn a.tmps ps assign body none).run P w = .ok (l, [{ target := .collected d, args := #[] }]) W1 := by
    rw [hW1, hl, hd, hrc]; exact run_enterLoop_outer _ _ _ _ _
  refine ⟨l, [{ target := .collected d, args := #[] }], W1, { target := .fn (.func gf) lb, args := #[.func (.yield l) #[] #[]] }, W1, gf, #[.func (.yield l) #[] #[]] ++ lb, W1, hent, ?_, ?_, ?_, fun _ => h1, ?_⟩
  · clear hcall hend hseq
    simp only [resolve, hg]
    simp [go_sem]
  · intro f' hf'; simp [Target.leads] at hf'; subst hf'; exact hFg
  · clear hcall hend hseq
    simp [invoke, go_sem, eg]
  · refine CallsIn.mono hcall ?_
    rintro e W2 ⟨⟨v, rfl⟩, (⟨xs, hS, hi, hlp, hdf⟩ | ⟨pre, hSp, co, hi, hlp, hdf⟩)⟩
    · obtain ⟨o4, h4⟩ := hend .ready none W2 (by simp) hlp
      exact ⟨none, _, h4, hdone d xs _ (by omega) hS (hI.putObj _ hi (by omega) hlp (by rw [hrc]; rfl)) ((World.putObj_heap_other (by omega)).trans hdf)⟩
    · obtain ⟨o4, h4⟩ := hend .done (some co) W2 (by simp) hlp
      exact ⟨some co, _, h4, hstop d co pre _ (by omega) hSp ((hIx co).putObj _ hi (by omega) hlp (by rw [hrc]; rfl)) ((World.putObj_heap_other (by omega)).trans hdf)⟩
theorem range_lawB {α : Type} {c : Nat} {g : Operand} {ps : Array Tmp} {assign body : Code} {Q : Exit → Act → World → Prop} {a : Act} {w : World}
    (hro : F.round = none) (h1 : 1 ≤ n) {gf : Nat} {lb : Array Value} (hg : a.eval g = .func (.func gf) #[] lb) (hFg : F.fn gf) (eg : ∀ args w, (callFunc gf args).run P w = .ok (.enter gf args) w)
    {encs : α → Array Value} {R : Nat → Prop} {S Sp : List α → Prop} {N : Nat} {w0 : World} (hseq : GivesC c F (n - 1) P gf lb encs R S Sp N w0) (hb0 : Below w0.heap.size w0 w) (hps : ∀ x, (encs x).size = ps.size)
    (I : List α → World → Prop) (Ix : Code → List α → World → Prop) (hI : OwnFrom w.heap.size I) (hIx : ∀ co, OwnFrom w.heap.size (Ix co)) (h0 : I [] w) (a₁ : α → Nat → Act) (mk : α → Obj)
    (hassign : ∀ (l : Nat) (x : α) (W : World) (K : Act → World → Prop), K (a₁ x W.heap.size) (W.alloc (mk x)) →
      assign.wpIn (F.inRound l) (n - 1 - 1) P (Exit.then K (fun _ _ _ => False)) { tmps := (ps.zip (encs x)).foldl (fun t (p, v) => t.setIfInBounds p v) a.tmps, defers := [] } W)
    (hbody : ∀ (l : Nat) (pre : List α) (x : α) (W : World) (B : Nat), I pre W → W.heap[B]? = some (mk x) → w.heap.size ≤ B → pre.length < N → w.heap.size + 2 + c ≤ W.heap.size → body.wpIn (F.inRound l) (n - 1 - 1) P (ownPostC w.heap.size (Keep (fun k => R k ∨ w.heap.size + 2 + c ≤ k)) I Ix (pre ++ [x]) W) (a₁ x B) W)
    (hdone : ∀ (D : Nat) (xs : List α) (W : World), w.heap.size ≤ D → S xs → I xs W → W.heap[D]? = some (.deferred (some [])) → Q .normal { a with defers := { target := .collected D, args := #[] } :: a.defers } W)
    (hstop : ∀ (D : Nat) (co : Code) (pre : List α) (W : World), w.heap.size ≤ D → Sp pre → Ix co pre W → W.heap[D]? = some (.deferred (some [])) → co.wpIn F n P Q { a with defers := { target := .collected D, args := #[] } :: a.defers } W) :
    (Code.rangeFunc g ps assign body).wpIn F n P Q a w := by
  refine wpIn_rangeFunc fun fn hfn => ?_
  rw [hro]
  obtain ⟨rc, hrc⟩ : ∃ rc : LoopState → Option Code → Obj, rc = fun st pe => .loop { state := st, pending := pe, fn, tmps := a.tmps, params := ps, assign, body, defers := w.heap.size } := ⟨_, rfl⟩
  obtain ⟨d, hd⟩ : ∃ d, d = w.heap.size := ⟨_, rfl⟩
  obtain ⟨l, hl⟩ : ∃ l, l = d + 1 := ⟨_, rfl⟩
  obtain ⟨W1, hW1⟩ : ∃ W1, W1 = (w.alloc (.deferred (some []))).alloc (rc .ready none) := ⟨_, rfl⟩
  have hs1 : W1.heap.size = d + 2 := by rw [hW1, hd]; simp
  have hL1 : W1.heap[l]? = some (rc .ready none) := by
    have := World.alloc_heap_new (w.alloc (.deferred (some []))) (rc .ready none)
    rw [World.size_alloc] at this
    rw [hW1, hl, hd]; exact this
  have hD1 : W1.heap[d]? = some (.deferred (some [])) := by
    rw [hW1, hd]; exact (Below.heap_alloc _ _ _ (by simp)).trans (World.alloc_heap_new w _)
  have hI1 : I [] W1 := by rw [hW1]; exact hI.alloc _ (hI.alloc _ h0)
  have hb1 : Below w0.heap.size w0 W1 := by
    rw [hW1]; exact hb0.trans ((((Below.refl _ w).alloc (Nat.le_refl _) _).alloc (by simp) _).mono hb0.size)
  have hcall := hseq l
    (fun pre W => I pre W ∧ W.heap[l]? = some (rc .ready none) ∧ W.heap[d]? = some (.deferred (some [])))
    (fun pre W => ∃ co, Ix co pre W ∧ W.heap[l]? = some (rc .done (some co)) ∧ W.heap[d]? = some (.deferred (some [])))
    W1 hb1
    (fun s A B row hs hgr hr => ⟨hI s A B row hs.1 hgr (fun r e => ⟨by have := (hr r e).1; omega, (hr r e).2⟩), grown_far hgr hr (by omega) hs.2.1, grown_far hgr hr (by omega) hs.2.2⟩)
    (fun s A B row hs hgr hr => by
      obtain ⟨co, hc, hcl, hcd⟩ := hs
      exact ⟨co, hIx co s A B row hc hgr (fun r e => ⟨by have := (hr r e).1; omega, (hr r e).2⟩), grown_far hgr hr (by omega) hcl, grown_far hgr hr (by omega) hcd⟩)
    (by
      rintro pre x W0 ⟨hi0, hlp0, hdf0⟩ hlen hroom0
      have hlt0 : l < W0.heap.size := (Array.getElem?_eq_some_iff.1 hlp0).1
      have hlp0' := hlp0
      rw [hrc] at hlp0'
      obtain ⟨W, hW⟩ : ∃ W, W = W0.alloc (mk x) := ⟨_, rfl⟩
      have kW : Keep (fun _ => False) W0 W := by rw [hW]; exact (Keep.refl _ _).alloc _
      have hi : I pre W := by rw [hW]; exact hI.alloc _ hi0
      have hlp : W.heap[l]? = some (rc .ready none) := (kW.block l hlt0 id).trans hlp0
      have hdf : W.heap[d]? = some (.deferred (some [])) := (kW.block d (by omega) id).trans hdf0
      have hB : W.heap[W0.heap.size]? = some (mk x) := by rw [hW]; exact World.alloc_heap_new _ _
      have hlt : l < W.heap.size := (Array.getElem?_eq_some_iff.1 hlp).1
      have hroom : W1.heap.size + c ≤ W.heap.size := Nat.le_trans hroom0 kW.size
      have hlp' := hlp
      rw [hrc] at hlp'
      obtain ⟨ob, hob⟩ : ∃ ob : Obj, ob = rc .busy none := ⟨_, rfl⟩
      have hob' := hob
      rw [hrc] at hob'
      have hbr : (Instr.beginRound l).run P W = .ok () (W.putObj l ob) := by rw [hob']; exact run_beginRound hlp' rfl
      refine ⟨fn, _, assign, body, run_yield (P := P) (args := encs x) hlp0' (hps x), roundIn_of_wpIn hfn (hassign _ x W0 _ ?_)⟩
      rw [← hW]
      refine ⟨_, hbr, ?_⟩
      have hbz : (W.putObj l ob).heap[l]? = some ob := World.putObj_heap_same hlt
      have hbd : (W.putObj l ob).heap[d]? = some (.deferred (some [])) := (World.putObj_heap_other (by omega)).trans hdf
      have hnc : ob.isCells = false := by rw [hob']; rfl
      refine wpIn_mono (hbody _ pre x _ W0.heap.size (hI.putObj _ hi (by omega) hlp (by rw [hrc]; rfl)) ((World.putObj_heap_other (by omega)).trans hB) (by omega) hlen (by simp [World.putObj]; omega)) ?_
      have fin : ∀ (jump : Option Code) (W3 : World), KeepsFrom w.heap.size (W.putObj l ob) W3 → ∃ o3 : Obj, o3 = rc (if jump.isNone then .ready else .done) jump ∧
          (Instr.endRound l jump).run P W3 = .ok (.bool jump.isNone) (W3.putObj l o3) ∧ W3.heap[l]? = some ob ∧ (W3.putObj l o3).heap[l]? = some o3 ∧ (W3.putObj l o3).heap[d]? = some (.deferred (some [])) ∧ KeepsFrom W1.heap.size W0 (W3.putObj l o3) := fun jump W3 hk3 => by
        have hl3 := hk3.same l ob (by omega) hbz hnc
        have hd3 := hk3.same d _ (by omega) hbd rfl
        have hl3' := hl3
        rw [hob'] at hl3'
        refine ⟨_, rfl, ?_, hl3, World.putObj_heap_same (Array.getElem?_eq_some_iff.1 hl3).1, (World.putObj_heap_other (by omega)).trans hd3, ?_, fun k o hk hko ho => ?_⟩
        · rw [hrc]; exact run_endRound (P := P) jump hl3'
        · have := hk3.size
          have := kW.size
          simp [World.putObj] at *
          omega
        · have hko' : W.heap[k]? = some o := (kW.block k (Array.getElem?_eq_some_iff.1 hko).1 id).trans hko
          exact (World.putObj_heap_other (by omega)).trans (hk3.same k o (by omega) ((World.putObj_heap_other (by omega)).trans hko') ho)
      have hmono : ∀ k, (fun k => R k ∨ w.heap.size + 2 + c ≤ k) k → (fun k => R k ∨ W1.heap.size + c ≤ k) k := fun k h => h.imp id (fun h => by omega)
      have hkc : ∀ (o3 : Obj) (W3 : World), Keep (fun k => R k ∨ w.heap.size + 2 + c ≤ k) (W.putObj l ob) W3 → KeepC (fun k => R k ∨ W1.heap.size + c ≤ k) W0 (W3.putObj l o3) := fun o3 W3 h k o hk0 hko hr => by
        have hk : W.heap[k]? = some o := (kW.block k (Array.getElem?_eq_some_iff.1 hk0).1 id).trans hk0
        have hkl : k ≠ l := fun e => by subst e; rw [hlp] at hk; cases hk; rw [hrc] at hko; cases hko
        rw [World.putObj_heap_other hkl, h.block k (by have := (Array.getElem?_eq_some_iff.1 hk).1; simpa [World.putObj] using this) (fun h => hr (hmono k h)), World.putObj_heap_other hkl]
        exact hk
      rintro e a3 W3 hp
      cases e with
      | normal =>
        obtain ⟨hk3, hkp3, hi3⟩ := hp
        obtain ⟨o3, ho3, hr3, hl3, hl4, hd4, hk4⟩ := fin none W3 hk3
        refine ⟨_, _, hr3, hk4, hkc _ _ hkp3, .inl ⟨rfl, ⟨hI.putObj _ hi3 (by omega) hl3 hnc, by rw [hl4, ho3]; rfl, hd4⟩, ?_⟩⟩
        rw [show o3 = rc .ready none from ho3]
        exact (kW.mono (fun _ h => h.elim)).trans ((keep_back hlp hkp3).mono hmono)
      | ret =>
        obtain ⟨hk3, hkp3, hi3⟩ := hp
        obtain ⟨o3, ho3, hr3, hl3, hl4, hd4, hk4⟩ := fin (some .ret) W3 hk3
        exact ⟨_, _, hr3, hk4, hkc _ _ hkp3, .inr ⟨rfl, .ret, (hIx _).putObj _ hi3 (by omega) hl3 hnc, by rw [hl4, ho3]; rfl, hd4⟩⟩
      | exit id =>
        obtain ⟨hk3, hkp3, hi3⟩ := hp
        obtain ⟨o3, ho3, hr3, hl3, hl4, hd4, hk4⟩ := fin (some (.exit id)) W3 hk3
        exact ⟨_, _, hr3, hk4, hkc _ _ hkp3, .inr ⟨rfl, .exit id, (hIx _).putObj _ hi3 (by omega) hl3 hnc, by rw [hl4, ho3]; rfl, hd4⟩⟩
      | goto t =>
        obtain ⟨hk3, hkp3, hi3⟩ := hp
        obtain ⟨o3, ho3, hr3, hl3, hl4, hd4, hk4⟩ := fin (some (.goto t)) W3 hk3
        exact ⟨_, _, hr3, hk4, hkc _ _ hkp3, .inr ⟨rfl, .goto t, (hIx _).putObj _ hi3 (by omega) hl3 hnc, by rw [hl4, ho3]; rfl, hd4⟩⟩
      | panic ch => exact hp.elim
      | outgrown => exact hp.elim)
    ⟨hI1, hL1, hD1⟩
  have hend : ∀ (st : LoopState) (pe : Option Code) (W2 : World), st ≠ .busy → W2.heap[l]? = some (rc st pe) → ∃ o4 : Obj, (Instr.endLoop l).run P W2 = .ok pe (W2.putObj l o4) := fun st pe W2 hst h => by
    rw [hrc] at h
    exact ⟨_, run_endLoop (P := P) h hst⟩
  have hent : (Instr.enterLoop fn a.tmps ps assign body none).run P w = .ok (l, [{ target := .collected d, args := #[] }]) W1 := by
    rw [hW1, hl, hd, hrc]; exact run_enterLoop_outer _ _ _ _ _
  refine ⟨l, [{ target := .collected d, args := #[] }], W1, { target := .fn (.func gf) lb, args := #[.func (.yield l) #[] #[]] }, W1, gf, #[.func (.yield l) #[] #[]] ++ lb, W1, hent, ?_, ?_, ?_, fun _ => h1, ?_⟩
  · clear hcall hend hseq
    simp only [resolve, hg]
    simp [go_sem]
  · intro f' hf'; simp [Target.leads] at hf'; subst hf'; exact hFg
  · clear hcall hend hseq
    simp [invoke, go_sem, eg]
  · refine CallsIn.mono hcall ?_
    rintro e W2 ⟨⟨v, rfl⟩, (⟨xs, hS, hi, hlp, hdf⟩ | ⟨pre, hSp, co, hi, hlp, hdf⟩)⟩
    · obtain ⟨o4, h4⟩ := hend .ready none W2 (by simp) hlp
      exact ⟨none, _, h4, hdone d xs _ (by omega) hS (hI.putObj _ hi (by omega) hlp (by rw [hrc]; rfl)) ((World.putObj_heap_other (by omega)).trans hdf)⟩
    · obtain ⟨o4, h4⟩ := hend .done (some co) W2 (by simp) hlp
      exact ⟨some co, _, h4, hstop d co pre _ (by omega) hSp ((hIx co).putObj _ hi (by omega) hlp (by rw [hrc]; rfl)) ((World.putObj_heap_other (by omega)).trans hdf)⟩
end Go.Proofs.YtnljjdfajmjdjaaGreat
namespace Go.Proofs.YtnljjdfajmjdjaaGreat

section
variable {P : Program} {Q : Exit → Act → World → Prop} {l n : Nat}
theorem rowsIn_round {row : String} {args : Array Value} {w : World} {R : Value → World → Prop} (h : Rows P row args w R) : RowsIn (Fence.wide.inRound l) n P row args w R :=
  fun c cs _ => let ⟨v, w', r, s⟩ := h c cs; ⟨v, w', r, stepsIn_wide.2 s⟩
theorem uponIn_round {o : Oper} {a : Act} {K : Act → World → Prop} {r : Result Next} (h : o.upon P a K Q r) : o.uponIn (Fence.wide.inRound l) n P a K Q r := by
  cases r with
  | ok x w' =>
    cases x <;> simp only [Oper.upon, Oper.uponIn] at h ⊢ <;> first
      | exact h
      | exact ⟨fun e => by simp [Fence.wide] at e, CallsIn.inRound l (callsIn_wide.2 h)⟩
      | exact ⟨fun e => by simp [Fence.wide] at e, rowsIn_round h⟩
  | halt x w' => cases x <;> simp only [Oper.upon, Oper.uponIn] at h ⊢ <;> exact h
theorem wpOpIn_round {ops : Array Oper} (hL : ¬ LetsOut Q) (hd : ∀ (i : Nat) (o : Oper), ops[i]? = some o → ∀ c, o.op ≠ .defer c) {i : Nat} {K : Act → World → Prop} {a : Act} {w : World} (h : wpOp P ops Q i K a w) : wpOpIn (Fence.wide.inRound l) n P ops Q i K a w := by
  unfold wpOp at h
  unfold wpOpIn
  cases ho : ops[i]? with
  | none => simpa [ho] using h
  | some o =>
    simp only [ho] at h ⊢
    split
    · next hw =>
      simp only [hw, if_true] at h
      rcases h with h | h
      · refine ⟨fun _ _ => trivial, ?_⟩
        rw [show (Fence.wide.inRound l).round = some l from rfl, Oper.semAt_some l _ _ (hd i o ho)]
        exact uponIn_round h
      · exact absurd h.2 hL
    · next hw =>
      simp only [hw, if_false, Bool.false_eq_true] at h
      exact ⟨fun _ _ => trivial, h⟩
theorem wpAnyIn_round {ops : Array Oper} {md : Region.Mode} (hL : ¬ LetsOut Q) (hd : ∀ (i : Nat) (o : Oper), ops[i]? = some o → ∀ c, o.op ≠ .defer c) : ∀ (fuel : Nat) (listed : Array Bool) (a : Act) (w : World), wpAny P md ops Q fuel listed a w → wpAnyIn (Fence.wide.inRound l) n P md ops Q fuel listed a w
  | 0, _, _, _, h => h
  | fuel + 1, _, _, _, h => ⟨h.1, fun i hi => wpOpIn_round hL hd (wpOp_mono (fun a' w' h' => wpAnyIn_round hL hd fuel _ a' w' h') (h.2 i hi))⟩
def noDefer (ops : List Oper) : Bool := ops.all fun o => match o.op with | .defer _ => false | _ => true
theorem noDefer_of {ops : List Oper} (h : noDefer ops = true) (i : Nat) (o : Oper) (ho : ops.toArray[i]? = some o) (c : Call) : o.op ≠ .defer c := fun e => by
  have hm : o ∈ ops := by
    have : ops[i]? = some o := by simpa using ho
    exact List.mem_of_getElem? this
  have := List.all_eq_true.1 h o hm
  rw [e] at this
  cases this
/-- The beginning. -/
theorem wpIn_region_sch {ops : List Oper} (S : World → Prop) (sch : List (Bool × Nat)) {id : Nat} {a : Act} {w : World} (hm : P.follows .mixedOrders = true) (hs : Region.noSelect ops.toArray = true) (hl : Nat.ble sch.length ops.toArray.size = true)
    (hc : schOK ops sch (Array.replicate ops.toArray.size false) = true) (hnd : noDefer ops = true) (hL : ¬ LetsOut Q) (hS : S w.drew) (h : wpSch P ops Q S sch a w.drew) : (Code.region id ops.toArray true).wpIn (Fence.wide.inRound l) n P Q a w :=
  wpIn_region_any hm (wpAnyIn_round hL (noDefer_of hnd) _ _ _ _ (wpAny_of_held _ _ _ _ (wpAnyH_of_sch hs sch _ _ _ _ (Nat.le_of_ble_eq_true hl) hc hS h)))
end
end Go.Proofs.YtnljjdfajmjdjaaGreat
