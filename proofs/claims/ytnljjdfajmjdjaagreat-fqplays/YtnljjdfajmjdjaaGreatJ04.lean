/-
  A range over a function whose own body ranges over another function: the iterator lays and turns records of its own. What it asks of a round, and the law for the caller. No program is spoken of. Conditions: none.
  (*lists.Lists).All hands back a function that tells the new ones, then the old ones, as they are, till it is told to stop: ranged over by a loop. Conditions: the lists lie in memory as two lines, or are nil.
-/
import Derived.Test.YtnljjdfajmjdjaaGreatJ01
import Derived.Test.YtnljjdfajmjdjaaGreatJ03
import Derived.RangeFuncNested
import Derived.RangeFuncBound
import Derived.RangeFuncLeaves
import Derived.Shelf.Abstract
import Derived.RangeFuncCalls
import Derived.RangeFuncBox
import Derived.Shelf.RegionOpen
import Derived.OwnWalkIn
import Derived.TacticsInMore
import Derived.LoopNIn
import Derived.LoopIn
import Derived.Deep.MidRow
namespace Go.Proofs.YtnljjdfajmjdjaaGreat
open Go.RowKit Go.Shelf
set_option maxRecDepth 100000
variable {F : Fence} {n : Nat} {P : Program}

theorem RoundIn.anyRoom {F : Fence} (hd : F.depth = none) {m m' : Nat} {P : Program} {l : Nat} {f : FuncId} {tmps : Array Value} {assign body : Code} {w : World} {R : Ending → World → Prop}
    (h : RoundIn F m P l f tmps assign body w R) : RoundIn F m' P l f tmps assign body w R := ⟨h.1, fun c cs _ => h.2 c cs (fun _ e => by rw [hd] at e; cases e)⟩
theorem YieldAt.anyRoom {F : Fence} (hd : F.depth = none) {m : Nat} (m' : Nat) {P : Program} {l : Nat} {args : Array Value} {W : World} {R : Ending → World → Prop} (h : YieldAt F m P l args W R) : YieldAt F m' P l args W R := by
  obtain ⟨fn, tmps, assign, body, hy, hR⟩ := h
  exact ⟨fn, tmps, assign, body, hy, RoundIn.anyRoom hd hR⟩

/-- What a round says to such an iterator, which began where the heap had B blocks: it goes on (and has turned no block that was there but those of R), or it ends; no record from B on has turned. -/
def Rounds {α : Type} (F : Fence) (m : Nat) (P : Program) (l : Nat) (encs : α → Array Value) (R : Nat → Prop) (N B : Nat) (J Jx : List α → World → Prop) : Prop :=
  ∀ pre x W, J pre W → pre.length < N → YieldAt F m P l (encs x) W fun e W' => KeepsFrom B W W' ∧
    ((e = .returned (.bool true) ∧ J (pre ++ [x]) W' ∧ Keep R W W') ∨ (e = .returned (.bool false) ∧ Jx (pre ++ [x]) W'))
/-- What such an iterator does: all of S, in order, or a part, of Sp. -/
def Gives {α : Type} (F : Fence) (m : Nat) (P : Program) (g : Nat) (lb : Array Value) (encs : α → Array Value) (R : Nat → Prop) (S Sp : List α → Prop) (N : Nat) (w : World) : Prop :=
  ∀ (l : Nat) (J Jx : List α → World → Prop) (W : World), Below w.heap.size w W → OwnFrom W.heap.size J → OwnFrom W.heap.size Jx → Rounds F (m - 1) P l encs R N W.heap.size J Jx → J [] W →
    CallsIn F m P g (#[.func (.yield l) #[] #[]] ++ lb) W fun e W' => (∃ v, e = .returned v) ∧ ((∃ xs, S xs ∧ J xs W') ∨ (∃ pre, Sp pre ∧ Jx pre W'))

theorem grown_far {W W' : World} {row : Option Nat} {B k : Nat} {o : Obj} (hg : W.grownBy W' row) (hr : ∀ r, row = some r → B ≤ r ∧ ∃ o : Obj, W.heap[r]? = some o ∧ o.isCells = false) (hk : k < B) (h : W.heap[k]? = some o) : W'.heap[k]? = some o :=
  (hg.block k (Array.getElem?_eq_some_iff.1 h).1 (fun e => by have := (hr k e.symm).1; omega)).trans h

/-- Turned, and turned back. -/
theorem keep_back {R : Nat → Prop} {W W3 : World} {l : Nat} {o o' : Obj} (hl : W.heap[l]? = some o) (h : Keep R (W.putObj l o') W3) : Keep R W (W3.putObj l o) := by
  have hs : W.heap.size ≤ W3.heap.size := by have := h.size; simpa [World.putObj] using this
  refine ⟨h.os, h.tape, h.output, by simpa [World.putObj] using hs, fun k hk hR => ?_⟩
  have hlt := (Array.getElem?_eq_some_iff.1 hl).1
  by_cases e : k = l
  · subst e
    rw [World.putObj_heap_same (Nat.lt_of_lt_of_le hlt hs), hl]
  · rw [World.putObj_heap_other e, h.block k (by simpa [World.putObj] using hk) hR, World.putObj_heap_other e]

theorem range_law {α : Type} {g : Operand} {ps : Array Tmp} {assign body : Code} {Q : Exit → Act → World → Prop} {a : Act} {w : World}
    (hro : F.round = none) (h1 : 1 ≤ n) {gf : Nat} {lb : Array Value} (hg : a.eval g = .func (.func gf) #[] lb) (hFg : F.fn gf) (eg : ∀ args w, (callFunc gf args).run P w = .ok (.enter gf args) w)
    {encs : α → Array Value} {R : Nat → Prop} {S Sp : List α → Prop} {N : Nat} {w0 : World} (hseq : Gives F (n - 1) P gf lb encs R S Sp N w0) (hb0 : Below w0.heap.size w0 w) (hps : ∀ x, (encs x).size = ps.size)
    (I : List α → World → Prop) (Ix : Code → List α → World → Prop) (hI : OwnFrom w.heap.size I) (hIx : ∀ c, OwnFrom w.heap.size (Ix c)) (h0 : I [] w) (a₁ : α → Act)
    (hassign : ∀ (l : Nat) (x : α) (W : World) (K : Act → World → Prop), K (a₁ x) W →
      assign.wpIn (F.inRound l) (n - 1 - 1) P (Exit.then K (fun _ _ _ => False)) { tmps := (ps.zip (encs x)).foldl (fun t (p, v) => t.setIfInBounds p v) a.tmps, defers := [] } W)
    (hbody : ∀ (l : Nat) (pre : List α) (x : α) (W : World), I pre W → pre.length < N → body.wpIn (F.inRound l) (n - 1 - 1) P (ownPostG w.heap.size (Keep R) I Ix (pre ++ [x]) W) (a₁ x) W)
    (hdone : ∀ (D : Nat) (xs : List α) (W : World), w.heap.size ≤ D → S xs → I xs W → W.heap[D]? = some (.deferred (some [])) → Q .normal { a with defers := { target := .collected D, args := #[] } :: a.defers } W)
    (hstop : ∀ (D : Nat) (c : Code) (pre : List α) (W : World), w.heap.size ≤ D → Sp pre → Ix c pre W → W.heap[D]? = some (.deferred (some [])) → c.wpIn F n P Q { a with defers := { target := .collected D, args := #[] } :: a.defers } W) :
    (Code.rangeFunc g ps assign body).wpIn F n P Q a w := by
  refine wpIn_rangeFunc fun fn hfn => ?_
  rw [hro]
  obtain ⟨rc, hrc⟩ : ∃ rc : LoopState → Option Code → Obj, rc = fun st pe => .loop { state := st, pending := pe, fn, tmps := a.tmps, params := ps, assign, body, defers := w.heap.size } := ⟨_, rfl⟩
  obtain ⟨d, hd⟩ : ∃ d, d = w.heap.size := ⟨_, rfl⟩
  obtain ⟨l, hl⟩ : ∃ l, l = d + 1 := ⟨_, rfl⟩
  obtain ⟨W1, hW1⟩ : ∃ W1, W1 = (w.alloc (.deferred (some []))).alloc (rc .ready none) := ⟨_, rfl⟩
  have hs1 : W1.heap.size = d + 2 := by rw [hW1, hd]; simp
  have hL1 : W1.heap[l]? = some (rc .ready none) := by
    have := World.alloc_heap_new (w.alloc (.deferred (some []))) (rc .ready none)
    rw [World.size_alloc] at this
    rw [hW1, hl, hd]; exact this
  have hD1 : W1.heap[d]? = some (.deferred (some [])) := by
    rw [hW1, hd]; exact (Below.heap_alloc _ _ _ (by simp)).trans (World.alloc_heap_new w _)
  have hI1 : I [] W1 := by rw [hW1]; exact hI.alloc _ (hI.alloc _ h0)
  have hb1 : Below w0.heap.size w0 W1 := by
    rw [hW1]; exact hb0.trans ((((Below.refl _ w).alloc (Nat.le_refl _) _).alloc (by simp) _).mono hb0.size)
  have hcall := hseq l
    (fun pre W => I pre W ∧ W.heap[l]? = some (rc .ready none) ∧ W.heap[d]? = some (.deferred (some [])))
    (fun pre W => ∃ c, Ix c pre W ∧ W.heap[l]? = some (rc .done (some c)) ∧ W.heap[d]? = some (.deferred (some [])))
    W1 hb1
    (fun s A B row hs hgr hr => ⟨hI s A B row hs.1 hgr (fun r e => ⟨by have := (hr r e).1; omega, (hr r e).2⟩), grown_far hgr hr (by omega) hs.2.1, grown_far hgr hr (by omega) hs.2.2⟩)
    (fun s A B row hs hgr hr => by
      obtain ⟨c, hc, hcl, hcd⟩ := hs
      exact ⟨c, hIx c s A B row hc hgr (fun r e => ⟨by have := (hr r e).1; omega, (hr r e).2⟩), grown_far hgr hr (by omega) hcl, grown_far hgr hr (by omega) hcd⟩)
    (by
      rintro pre x W ⟨hi, hlp, hdf⟩ hlen
      have hlt : l < W.heap.size := (Array.getElem?_eq_some_iff.1 hlp).1
      have hlp' := hlp
      rw [hrc] at hlp'
      obtain ⟨ob, hob⟩ : ∃ ob : Obj, ob = rc .busy none := ⟨_, rfl⟩
      have hob' := hob
      rw [hrc] at hob'
      have hbr : (Instr.beginRound l).run P W = .ok () (W.putObj l ob) := by rw [hob']; exact run_beginRound hlp' rfl
      refine ⟨fn, _, assign, body, run_yield (P := P) (args := encs x) hlp' (hps x), roundIn_of_wpIn hfn (hassign _ x W _ ⟨_, hbr, ?_⟩)⟩
      have hbz : (W.putObj l ob).heap[l]? = some ob := World.putObj_heap_same hlt
      have hbd : (W.putObj l ob).heap[d]? = some (.deferred (some [])) := (World.putObj_heap_other (by omega)).trans hdf
      have hnc : ob.isCells = false := by rw [hob']; rfl
      refine wpIn_mono (hbody _ pre x _ (hI.putObj _ hi (by omega) hlp (by rw [hrc]; rfl)) hlen) ?_
      have fin : ∀ (jump : Option Code) (W3 : World), KeepsFrom w.heap.size (W.putObj l ob) W3 → ∃ o3 : Obj, o3 = rc (if jump.isNone then .ready else .done) jump ∧
          (Instr.endRound l jump).run P W3 = .ok (.bool jump.isNone) (W3.putObj l o3) ∧ W3.heap[l]? = some ob ∧ (W3.putObj l o3).heap[l]? = some o3 ∧ (W3.putObj l o3).heap[d]? = some (.deferred (some [])) ∧ KeepsFrom W1.heap.size W (W3.putObj l o3) := fun jump W3 hk3 => by
        have hl3 := hk3.same l ob (by omega) hbz hnc
        have hd3 := hk3.same d _ (by omega) hbd rfl
        have hl3' := hl3
        rw [hob'] at hl3'
        refine ⟨_, rfl, ?_, hl3, World.putObj_heap_same (Array.getElem?_eq_some_iff.1 hl3).1, (World.putObj_heap_other (by omega)).trans hd3, ?_, fun k o hk hko ho => ?_⟩
        · rw [hrc]; exact run_endRound (P := P) jump hl3'
        · have := hk3.size
          simpa [World.putObj] using this
        · exact (World.putObj_heap_other (by omega)).trans (hk3.same k o (by omega) ((World.putObj_heap_other (by omega)).trans hko) ho)
      rintro e a3 W3 hp
      cases e with
      | normal =>
        obtain ⟨hk3, hkp3, hi3⟩ := hp
        obtain ⟨o3, ho3, hr3, hl3, hl4, hd4, hk4⟩ := fin none W3 hk3
        refine ⟨_, _, hr3, hk4, .inl ⟨rfl, ⟨hI.putObj _ hi3 (by omega) hl3 hnc, by rw [hl4, ho3]; rfl, hd4⟩, ?_⟩⟩
        rw [show o3 = rc .ready none from ho3]
        exact keep_back hlp hkp3
      | ret =>
        obtain ⟨hk3, hi3⟩ := hp
        obtain ⟨o3, ho3, hr3, hl3, hl4, hd4, hk4⟩ := fin (some .ret) W3 hk3
        exact ⟨_, _, hr3, hk4, .inr ⟨rfl, .ret, (hIx _).putObj _ hi3 (by omega) hl3 hnc, by rw [hl4, ho3]; rfl, hd4⟩⟩
      | exit id =>
        obtain ⟨hk3, hi3⟩ := hp
        obtain ⟨o3, ho3, hr3, hl3, hl4, hd4, hk4⟩ := fin (some (.exit id)) W3 hk3
        exact ⟨_, _, hr3, hk4, .inr ⟨rfl, .exit id, (hIx _).putObj _ hi3 (by omega) hl3 hnc, by rw [hl4, ho3]; rfl, hd4⟩⟩
      | goto t =>
        obtain ⟨hk3, hi3⟩ := hp
        obtain ⟨o3, ho3, hr3, hl3, hl4, hd4, hk4⟩ := fin (some (.goto t)) W3 hk3
        exact ⟨_, _, hr3, hk4, .inr ⟨rfl, .goto t, (hIx _).putObj _ hi3 (by omega) hl3 hnc, by rw [hl4, ho3]; rfl, hd4⟩⟩
      | panic ch => exact hp.elim
      | outgrown => exact hp.elim)
    ⟨hI1, hL1, hD1⟩
  have hend : ∀ (st : LoopState) (pe : Option Code) (W2 : World), st ≠ .busy → W2.heap[l]? = some (rc st pe) → ∃ o4 : Obj, (Instr.endLoop l).run P W2 = .ok pe (W2.putObj l o4) := fun st pe W2 hst h => by
    rw [hrc] at h
    exact ⟨_, run_endLoop (P := P) h hst⟩
  have hent : (Instr.enterLoop fn a.tmps ps assign body none).run P w = .ok (l, [{ target := .collected d, args := #[] }]) W1 := by
    rw [hW1, hl, hd, hrc]; exact run_enterLoop_outer _ _ _ _ _
  refine ⟨l, [{ target := .collected d, args := #[] }], W1, { target := .fn (.func gf) lb, args := #[.func (.yield l) #[] #[]] }, W1, gf, #[.func (.yield l) #[] #[]] ++ lb, W1, hent, ?_, ?_, ?_, fun _ => h1, ?_⟩
  · clear hcall hend hseq
    simp only [resolve, hg]
    simp [go_sem]
  · intro f' hf'; simp [Target.leads] at hf'; subst hf'; exact hFg
  · clear hcall hend hseq
    simp [invoke, go_sem, eg]
  · refine CallsIn.mono hcall ?_
    rintro e W2 ⟨⟨v, rfl⟩, (⟨xs, hS, hi, hlp, hdf⟩ | ⟨pre, hSp, c, hi, hlp, hdf⟩)⟩
    · obtain ⟨o4, h4⟩ := hend .ready none W2 (by simp) hlp
      exact ⟨none, _, h4, hdone d xs _ (by omega) hS (hI.putObj _ hi (by omega) hlp (by rw [hrc]; rfl)) ((World.putObj_heap_other (by omega)).trans hdf)⟩
    · obtain ⟨o4, h4⟩ := hend .done (some c) W2 (by simp) hlp
      exact ⟨some c, _, h4, hstop d c pre _ (by omega) hSp ((hIx c).putObj _ hi (by omega) hlp (by rw [hrc]; rfl)) ((World.putObj_heap_other (by omega)).trans hdf)⟩
end Go.Proofs.YtnljjdfajmjdjaaGreat
namespace Go.Proofs.YtnljjdfajmjdjaaGreat
open Go.RowKit Go.Shelf
set_option maxRecDepth 100000

attribute [local go_sem] Oper.semAt_some

theorem Tryz.hmf (fn : Fn) (first cap : Array Value) (w : World) : (Instr.makeFunc fn first cap).run Tryz.prog w = .ok (.func fn first cap) w := rfl
theorem Tryz.hnf (fn : Fn) (first cap : Array Value) (w : World) : (binOp .eql 140 (.func fn first cap) .nilFunc).run Tryz.prog w = .ok (.bool false) w := by kernel_rfl
theorem Tryz.hnf' (fn : Fn) (first cap : Array Value) (w : World) : (binOp .eql 109 (.func fn first cap) .nilFunc).run Tryz.prog w = .ok (.bool false) w := by kernel_rfl

/-! ### What All hands back -/
set_option maxHeartbeats 400000 in
theorem lall_nil (w : World) :
    Calls Tryz.prog 63 #[.pointer none] w fun e w' => e = .returned (.func (.func 89) #[] #[.pointer (some ⟨w.heap.size, 0, none⟩)]) ∧ LsAt w' w.heap.size [] [] ∧ Keep (fun _ => False) w w' := by
  have hmf := Tryz.hmf
  go_enter Tryz.func63, Tryz.ntmps63
  go_wp2
  go_ret
  exact ⟨rfl, ⟨zero18, Whole.new w 70 zero18, zero18_ls⟩, (Keep.refl _ w).alloc _⟩

theorem Tryz.size18 : (Tryz.prog.info? 70).map (·.size) = some 18 := by kernel_rfl
theorem LsC.one {cs : Array Value} {N O : List Int} (h : LsC cs N O) : cs.all (·.oneCell') = true := by
  refine Array.all_eq_true_iff_forall_mem.2 fun v hv => ?_
  obtain ⟨i, hi, rfl⟩ := Array.mem_iff_getElem.1 hv
  have hsz := h.size
  by_cases e : i < 9
  · have := h.new i e
    rw [Nat.zero_add, Array.getElem?_eq_getElem hi] at this
    rw [Option.some.inj this]; unfold lineV; split <;> rfl
  · have := h.old (i - 9) (by omega)
    rw [show 9 + (i - 9) = i by omega, Array.getElem?_eq_getElem hi] at this
    rw [Option.some.inj this]; unfold lineV; split <;> rfl

theorem lay_full (d cs : Array Value) (h : cs.size = d.size) : Lib.lay d 0 cs.toList = cs := by
  apply Array.ext_getElem?
  intro j
  rw [lay_at _ _ _ _ (by rw [Array.length_toList]; omega), Array.length_toList]
  by_cases e : j < cs.size
  · rw [if_pos (by omega), Nat.sub_zero, Array.getElem?_toList]
  · rw [if_neg (by omega), Array.getElem?_eq_none (by omega), Array.getElem?_eq_none (by omega)]

set_option maxHeartbeats 1000000 in
set_option maxRecDepth 100000 in
theorem lall_at {Tb : TypeId} (g off : Nat) (ds : Array Value) (N O : List Int) (w : World) (h : Whole w g Tb ds) (hn : LineC ds off N) (ho : LineC ds (off + 9) O) :
    Calls Tryz.prog 63 #[.pointer (some ⟨g, off, none⟩)] w fun e w' => e = .returned (.func (.func 89) #[] #[.pointer (some ⟨w.heap.size, 0, none⟩)]) ∧ LsAt w' w.heap.size N O ∧ Keep (fun _ => False) w w' := by
  have hmf := Tryz.hmf
  obtain ⟨cs, hcs⟩ : ∃ cs, cs = ds.extract off (off + 18) := ⟨_, rfl⟩
  have hrm := ho.room
  have hget : ∀ j, j < 18 → cs[j]? = ds[off + j]? := fun j hj => by
    rw [hcs, Array.getElem?_extract, if_pos (by omega)]
  have hsz : cs.size = 18 := by rw [hcs, Array.size_extract]; omega
  have hc : LsC cs N O := ⟨hsz, fun j hj => by rw [hget _ (by omega), Nat.zero_add]; exact hn j hj, fun j hj => by rw [hget _ (by omega), ← Nat.add_assoc]; exact ho j hj⟩
  have hz := Whole.new w 70 zero18
  have HR : Hid ((w.alloc (.cells zero18 70)).rangeAt g off cs.toList) := Lib.hid fun j v hv => by
    rw [(h.alloc _).cell (off + j)]
    have hv' : cs[j]? = some v := by simpa using hv
    rw [← hget j (by have := (Array.getElem?_eq_some_iff.1 hv').1; omega)]
    exact hv'
  have HT : Hid ((w.alloc (.cells zero18 70)).there w.heap.size 0 cs.size) := Lib.hid fun j hj => by
    rw [hc.size] at hj
    rw [Nat.zero_add]
    exact ⟨by rw [hz.cell, Array.getElem?_eq_getElem (by simpa [zero18] using hj)]; rfl, hz.free j⟩
  have HS : Hid ((Tryz.prog.info? 70).map (·.size) = some cs.size) := Lib.hid (by rw [hc.size]; exact Tryz.size18)
  have HS' : Hid ((Tryz.prog.info? 70).map (·.size) = some cs.toList.length) := Lib.hid (by rw [Array.length_toList, hc.size]; exact Tryz.size18)
  have H1 := Lib.hid hc.one
  have HW := Lib.hid (hz.puts cs.toList 0); have HC := Lib.hid hc
  clear h hc hz hn ho hrm hget hsz hcs
  unfold zero18 at HR HT HW
  go_enter Tryz.func63, Tryz.ntmps63
  go_wp2_with (first
    | (refine wpList_load_mid rfl 70 (.tmp 7) rfl g off rfl cs.toList _ HR.out Tryz.underlying70 rfl HS'.out ?_)
    | (refine wpList_store_mid rfl 70 (.tmp 3) (.tmp 8) rfl w.heap.size 0 cs rfl rfl HT.out HS.out H1.out ?_))
  go_ret
  refine ⟨rfl, ⟨_, HW.out, ?_⟩, Keep.of_below ((((Keep.refl (fun k => w.heap.size ≤ k) w).alloc _).below (Nat.le_refl _) (fun _ h => h)).trans (Keep.below (Keep.setCells (S := fun k => w.heap.size ≤ k) (Nat.le_refl _) _ 0 (Keep.refl _ _)) (by simp) (fun _ h => h)))⟩
  rw [show Lib.lay _ 0 cs.toList = cs from lay_full _ _ (by rw [HC.out.size]; rfl)]
  exact HC.out
theorem lall_any (g : Nat) (N O : List Int) (w : World) (h : LsAt w g N O) :
    Calls Tryz.prog 63 #[.pointer (some ⟨g, 0, none⟩)] w fun e w' => e = .returned (.func (.func 89) #[] #[.pointer (some ⟨w.heap.size, 0, none⟩)]) ∧ LsAt w' w.heap.size N O ∧ Keep (fun _ => False) w w' := by
  obtain ⟨cs, h, hc⟩ := h
  exact lall_at g 0 cs N O w h hc.new hc.old

/-! ### slices.Values of a row of numbers -/
theorem take_more (l : List Int) {k : Nat} (h : k < l.length) : l.take (k + 1) = l.take k ++ [l.getD k 0] := by
  rw [List.take_succ_eq_append_getElem h]; simp [h]

set_option maxRecDepth 100000 in
set_option maxHeartbeats 2000000 in
theorem sval1_in (F : Fence) (n : Nat) (h8 : F.fn 108) (hro : F.round = none) (hn : 1 ≤ n) (R : Nat → Prop) (l Bs b off cap len : Nat) (zs : List Int) (hlen : len = zs.length) (hreach : len ≤ 4096) (hRb : ¬ R b) (J Jx : List Int → World → Prop)
    (hY : ∀ pre x W, J pre W → pre.length < len → YieldAt F (n - 1) Tryz.prog l #[.int .i64 x] W fun e W' =>
      (e = .returned (.bool true) ∧ J (pre ++ [x]) W' ∧ Keep R W W') ∨ (e = .returned (.bool false) ∧ Jx (pre ++ [x]) W'))
    (W : World) (hb : b < W.heap.size) (hBs : W.cell? ⟨Bs, 0, none⟩ = some (.slice (some ⟨b, off, none⟩) len cap)) (hc : ∀ j, j < len → W.cell? ⟨b, off + j, none⟩ = some (.int .i64 (zs.getD j 0))) (h0 : J [] W) :
    CallsIn F n Tryz.prog 108 #[.func (.yield l) #[] #[], .pointer (some ⟨Bs, 0, none⟩)] W fun e W' => (∃ v, e = .returned v) ∧
      ((∃ ys, ys = zs ∧ J ys W') ∨ (∃ pre, (∃ k, k ≤ len ∧ pre = zs.take k) ∧ Jx pre W')) := by
  refine callsIn_of_wp Tryz.func108 rfl h8 ?_ hro
  simp only [Tryz.ntmps108, List.size_toArray, List.length_cons, List.length_nil, Nat.reduceAdd, Nat.reduceSub, Array.replicate_succ, Array.replicate_zero, List.push_toArray, List.append_toArray, List.nil_append, List.cons_append]
  gi_wp2
  gi_loopw [7] (fun i wr => ∃ k : Nat, k ≤ len ∧ i = .int .i64 k ∧ J (zs.take k) wr ∧ Keep R W wr)
    (fun i _ => len - (intOf i).toNat)
  case atStart => exact ⟨0, Nat.zero_le _, rfl, by simpa using h0, Keep.refl _ _⟩
  case round =>
    obtain ⟨k, hk, rfl, hJs, hnx⟩ := hrel
    by_cases hlt : k < len
    · have hcx : wr.cell? ⟨b, off + k, none⟩ = some (.int .i64 (zs.getD k 0)) := (hnx.cell (p := ⟨b, off + k, none⟩) hb hRb).trans (hc k hlt)
      obtain ⟨fn, tmps, assign, body, hy, hR⟩ := hY _ (zs.getD k 0) wr hJs (by rw [List.length_take]; omega)
      have HTK := Lib.hid (take_more zs (k := k) (by omega))
      rw [← HTK.out] at hR
      generalize zs.getD k 0 = x at *
      gi_wp2
      refine hR.mono ?_
      rintro e W3 (⟨rfl, hJ3, hk3⟩ | ⟨rfl, hJx3⟩)
      · gi_wp2
        go_roundw
        case rel => exact ⟨k + 1, by omega, by go_num, hJ3, hnx.trans hk3⟩
        case measure => simp [intOf]; omega
      · gi_wp2
        refine bodyPost_ret (results_none rfl _ _ _) rfl ?_
        exact ⟨⟨_, rfl⟩, .inr ⟨_, ⟨k + 1, by omega, rfl⟩, hJx3⟩⟩
    · obtain rfl : k = len := by omega
      have hall : zs.take k = zs := List.take_of_length_le (by omega)
      rw [hall] at hJs
      gi_wp2
      go_end0
      exact ⟨⟨_, rfl⟩, .inl ⟨_, rfl, hJs⟩⟩

set_option maxHeartbeats 1000000 in
theorem sval_in (F : Fence) (n : Nat) (h6 : F.fn 90) (hro : F.round = none) (a : Option Addr) (len cap : Nat) (w : World) :
    CallsIn F n Tryz.prog 90 #[.slice a len cap] w fun e w' => e = .returned (.func (.func 108) #[] #[.pointer (some ⟨w.heap.size, 0, none⟩)]) ∧ w' = w.alloc (.cells #[.slice a len cap] 37) := by
  refine callsIn_of_wp Tryz.func90 rfl h6 ?_ hro
  simp only [Tryz.ntmps90, List.size_toArray, List.length_cons, List.length_nil, Nat.reduceAdd, Nat.reduceSub, Array.replicate_succ, Array.replicate_zero, List.push_toArray, List.append_toArray, List.nil_append, List.cons_append]
  have hmf := Tryz.hmf
  gi_wp2
  go_ret
  exact ⟨rfl, rfl⟩

theorem sval_stops (F : Fence) (n : Nat) (h8 : F.fn 108) (hro : F.round = none) (hn : 1 ≤ n) (Bs b off cap len : Nat) (zs : List Int) (hlen : len = zs.length) (hreach : len ≤ 4096) (w : World) (hb : b < w.heap.size)
    (hBs : w.cell? ⟨Bs, 0, none⟩ = some (.slice (some ⟨b, off, none⟩) len cap)) (hc : ∀ j, j < len → w.cell? ⟨b, off + j, none⟩ = some (.int .i64 (zs.getD j 0))) :
    SeqStopsK F n Tryz.prog 108 #[.pointer (some ⟨Bs, 0, none⟩)] (fun x : Int => #[Value.int .i64 x]) (Keep fun k => k ≠ b) (fun ys => ys = zs)
      (fun pre => ∃ k, k ≤ len ∧ pre = zs.take k) len w := fun l J Jx W hW _ _ hY h0 =>
  sval1_in F n h8 hro hn (fun k => k ≠ b) l Bs b off cap len zs hlen hreach (fun h => h rfl) J Jx hY W (Nat.lt_of_lt_of_le hb hW.size)
    ((hW.cell (p := ⟨Bs, 0, none⟩) (lt_of_cell hBs)).trans hBs) (fun j hj => (hW.cell (p := ⟨b, off + j, none⟩) hb).trans (hc j hj)) h0
end Go.Proofs.YtnljjdfajmjdjaaGreat
