/-
  canterlaw19.told collects what All tells, as two slices of its own. Conditions: the lists lie in memory as two lines, or are nil.
-/
import Derived.Test.YtcllgfkmjleckaaLst
import Derived.Test.YtcllgfkmjleckaaLstCall
import Derived.Test.YtcllgfkmjleckaaSchedL
import Derived.Test.YtcllgfkmjleckaaOperApp
namespace Go.Proofs.Ytcllgfkmjleckaa
open Go.RowKit Go.Shelf

attribute [local go_sem] Oper.semAt_some

theorem Try.infoLb : (Try.prog.info? 4).map (fun i => (i.zero, i.size, i.bytes)) = some (some (.bool false), 1, 1) := by kernel_rfl
def iv (l : List Int) : List Value := l.map fun z => .int .i64 z
@[simp] theorem len_iv (l : List Int) : (iv l).length = l.length := List.length_map _
theorem get_iv (l : List Int) (i : Nat) : (iv l)[i]? = l[i]?.map (fun z => .int .i64 z) := List.getElem?_map
theorem app_iv (l : List Int) (z : Int) : iv l ++ [.int .i64 z] = iv (l ++ [z]) := by simp [iv]
theorem cat_iv (l m : List Int) : iv l ++ iv m = iv (l ++ m) := by simp [iv]
theorem one_iv (l : List Int) : ∀ u ∈ iv l, u.oneCell' = true := fun u hu => by simp only [iv, List.mem_map] at hu; obtain ⟨b, _, rfl⟩ := hu; rfl
def bv (l : List Bool) : List Value := l.map .bool
@[simp] theorem len_bv (l : List Bool) : (bv l).length = l.length := List.length_map _
theorem get_bv (l : List Bool) (i : Nat) : (bv l)[i]? = l[i]?.map .bool := List.getElem?_map
theorem app_bv (l : List Bool) (z : Bool) : bv l ++ [.bool z] = bv (l ++ [z]) := by simp [bv]
theorem one_bv (l : List Bool) : ∀ u ∈ bv l, u.oneCell' = true := fun u hu => by simp only [bv, List.mem_map] at hu; obtain ⟨b, _, rfl⟩ := hu; rfl

/-! ### TwoL boxed slices, each with a row of its own -/
theorem boxedL_far {w : World} {B : Nat} {t : TypeId} {v : Value} (h : Boxed w B t v) {p : Addr} (hp : B ≠ p.block) (u : Value) : Boxed (w.setCell p u) B t v := (Below.heap_setCell w p u B hp).trans h
theorem wholeL_news {w : World} {g : Nat} {t : TypeId} {x : Value} (h : Whole w g t #[x]) : ∀ a, (some ⟨g, 0, none⟩ : Option Addr) = some a → ∀ j u, [x][j]? = some u → w.cell? (a.add j) = some u := fun a e j u hj => by
  cases e
  cases j with
  | zero => simp at hj; subst hj; exact h.cell 0
  | succ j => simp at hj
def TwoL (n₀ B1 B2 : Nat) (W : World) (l1 : List Int) (l2 : List Bool) : Prop := ∃ v1 v2, Boxed W B1 26 v1 ∧ Boxed W B2 37 v2 ∧ Owns W 3 v1 (iv l1) ∧ Owns W 4 v2 (bv l2) ∧ (∀ k, v1.ownBlock = some k → n₀ ≤ k ∧ v2.ownBlock ≠ some k) ∧ (∀ k, v2.ownBlock = some k → n₀ ≤ k)
theorem TwoL.by {n₀ B1 B2 : Nat} {W W' : World} {l1 : List Int} {l2 : List Bool} (h : TwoL n₀ B1 B2 W l1 l2) (hb : ∀ (k : Nat) cs t z, W.heap[k]? = some (Obj.cells cs t z) → W'.heap[k]? = W.heap[k]?) : TwoL n₀ B1 B2 W' l1 l2 := by
  obtain ⟨v1, v2, h1, h2, o1, o2, a1, a2⟩ := h
  refine ⟨v1, v2, (hb _ _ _ _ h1).trans h1, (hb _ _ _ _ h2).trans h2, o1.by fun k e _ => ?_, o2.by fun k e _ => ?_, a1, a2⟩
  · rcases o1.2 with ⟨rfl, _⟩ | ⟨g, cap, cur, rfl, _, hgb, _⟩
    · simp [Value.ownBlock] at e
    · obtain rfl : g = k := by simpa [Value.ownBlock] using e
      exact hb _ _ _ _ hgb
  · rcases o2.2 with ⟨rfl, _⟩ | ⟨g, cap, cur, rfl, _, hgb, _⟩
    · simp [Value.ownBlock] at e
    · obtain rfl : g = k := by simpa [Value.ownBlock] using e
      exact hb _ _ _ _ hgb
theorem twoL_own {β : Type} (n₀ B1 B2 : Nat) (f1 : β → List Int) (f2 : β → List Bool) (G : β → Prop) : Own (fun s W => TwoL n₀ B1 B2 W (f1 s) (f2 s) ∧ G s) := by
  rintro s X Y row ⟨h, hG⟩ hg hrow
  refine ⟨h.by fun k cs t z hk => hg.block k (Array.getElem?_eq_some_iff.1 hk).1 (fun e => ?_), hG⟩
  obtain ⟨o, ho, hc⟩ := hrow k e.symm
  rw [hk] at ho; cases ho; cases hc
theorem ownFromL_keep {β : Type} {B : Nat} {R : Nat → Prop} {w₀ : World} (hR : ∀ k, B ≤ k → R k) : OwnFrom B (fun (_ : β) W => Keep R w₀ W) := fun _ _ _ _ hs hg hr =>
  ⟨hg.os.trans hs.os, hg.tape.trans hs.tape, hg.output.trans hs.output, Nat.le_trans hs.size hg.size, fun k hk hn => (hg.block k (Nat.lt_of_lt_of_le hk hs.size) (fun e => hn (hR k (hr k e.symm).1))).trans (hs.block k hk hn)⟩
theorem keepL_putObj {R : Nat → Prop} (W : World) (l : Nat) (o' : Obj) (hR : R l) : Keep R W (W.putObj l o') := by
  have hg := grownBy_putObj' W l o'
  exact ⟨hg.os, hg.tape, hg.output, hg.size, fun k hk hn => hg.block k hk (fun e => by cases e; exact hn hR)⟩
theorem keepsOthersL_of {R : Nat → Prop} {W W' : World} (h : Keep R W W') (hR : ∀ k, R k → ∀ o, W.heap[k]? = some o → o.isCells = true) : KeepsOthers W W' :=
  ⟨h.size, fun k o hk ho => (h.block k (Array.getElem?_eq_some_iff.1 hk).1 (fun hr => by rw [hR k hr o hk] at ho; cases ho)).trans hk⟩

/-- What is behind both appends. -/
def BothL (W W4 : World) (v1 v2 v1' v2' : Value) (l1 : List Int) (l2 : List Bool) : Prop := Owns W4 3 v1' (iv l1) ∧ Owns W4 4 v2' (bv l2) ∧ (∀ k, v1'.ownBlock = some k → v2'.ownBlock ≠ some k) ∧ (∀ k, v1'.ownBlock = some k → v1.ownBlock = some k ∨ W.heap.size ≤ k) ∧ (∀ k, v2'.ownBlock = some k → v2.ownBlock = some k ∨ W.heap.size ≤ k) ∧ Keep (fun k => v1.ownBlock = some k ∨ v2.ownBlock = some k) W W4
/-- The first append at A, the second at C, behind it. -/
theorem bothL_of {W A B C D : World} {v1 v2 v1' v2' : Value} {m1 : List Int} {l2 m2 : List Bool} (ho2 : Owns A 4 v2 (bv l2)) (hap : ∀ k, v1.ownBlock = some k → v2.ownBlock ≠ some k)
    (kA : Keep (fun _ => False) W A) (a1 : Owns B 3 v1' (iv m1)) (a2 : Keep (fun k => v1.ownBlock = some k) A B) (a3 : ∀ k, v1'.ownBlock = some k → v1.ownBlock = some k ∨ A.heap.size ≤ k)
    (kC : Keep (fun _ => False) B C) (b1 : Owns D 4 v2' (bv m2)) (b2 : Keep (fun k => v2.ownBlock = some k) C D) (b3 : ∀ k, v2'.ownBlock = some k → v2.ownBlock = some k ∨ C.heap.size ≤ k) : BothL W D v1 v2 v1' v2' m1 m2 := by
  have h12 : ∀ k, v1'.ownBlock = some k → v2.ownBlock ≠ some k := fun k e e' => by
    rcases a3 k e with h | h
    · exact hap k h e'
    · have := ho2.lt e'; omega
  refine ⟨(a1.keep kC (fun _ _ h => h)).keep b2 h12, b1, fun k e e' => ?_, fun k e => ?_, fun k e => ?_, ?_⟩
  · rcases b3 k e' with h | h
    · exact h12 k e h
    · have := a1.lt e; have := kC.size; omega
  · rcases a3 k e with h | h
    · exact .inl h
    · exact .inr (Nat.le_trans kA.size h)
  · rcases b3 k e with h | h
    · exact .inl h
    · exact .inr (Nat.le_trans kA.size (Nat.le_trans a2.size (Nat.le_trans kC.size h)))
  · exact ((kA.mono (fun _ h => h.elim)).trans (a2.mono (fun _ h => .inl h))).trans ((kC.mono (fun _ h => h.elim)).trans (b2.mono (fun _ h => .inr h)))

/-! ### What pairs hands over as yield -/
/-- What one call of it leaves. -/
def AfterL (n₀ B1 B2 : Nat) (W W' : World) (l1 : List Int) (l2 : List Bool) (x : Int) (y : Bool) : Prop := TwoL n₀ B1 B2 W' (l1 ++ [x]) (l2 ++ [y]) ∧ Keep (fun k => k = B1 ∨ k = B2 ∨ n₀ ≤ k) W W' ∧ KeepsOthers W W'
theorem ownL_cells {w : World} {e : TypeId} {v : Value} {xs : List Value} (h : Owns w e v xs) {k : Nat} (hk : v.ownBlock = some k) {o : Obj} (ho : w.heap[k]? = some o) : o.isCells = true := by
  rcases h.2 with ⟨rfl, _⟩ | ⟨g, cap, cur, rfl, _, hgb, _⟩
  · simp [Value.ownBlock] at hk
  · obtain rfl : g = k := by simpa [Value.ownBlock] using hk
    rw [hgb] at ho; cases ho; rfl
theorem boxL_cells {w : World} {t : TypeId} {v : Value} {k : Nat} (h : Boxed w k t v) {o : Obj} (ho : w.heap[k]? = some o) : o.isCells = true := by
  rw [show w.heap[k]? = _ from h] at ho; cases ho; rfl
theorem afterL_of {n₀ B1 B2 : Nat} {W w4 : World} {v1 v2 v1' v2' : Value} {l1 : List Int} {l2 : List Bool} {x : Int} {y : Bool} (hB1 : Boxed W B1 26 v1) (hB2 : Boxed W B2 37 v2) (x1 : Boxed w4 B1 26 v1) (x2 : Boxed w4 B2 37 v2) (o1 : Owns W 3 v1 (iv l1)) (o2 : Owns W 4 v2 (bv l2))
    (n1 : ∀ k, v1.ownBlock = some k → n₀ ≤ k) (n2 : ∀ k, v2.ownBlock = some k → n₀ ≤ k) (h12 : B1 ≠ B2) (hn : n₀ ≤ W.heap.size) (hb : BothL W w4 v1 v2 v1' v2' (l1 ++ [x]) (l2 ++ [y])) :
    AfterL n₀ B1 B2 W ((w4.setCell ⟨B1, 0, none⟩ v1').setCell ⟨B2, 0, none⟩ v2') l1 l2 x y := by
  obtain ⟨b1, b2, bap, bn1, bn2, bk⟩ := hb
  have y1 := Boxed.set v1' x1
  have y2 : Boxed (w4.setCell ⟨B1, 0, none⟩ v1') B2 37 v2 := boxedL_far (p := ⟨B1, 0, none⟩) x2 (fun e => h12 e.symm) _
  have kk : Keep (fun k => (k = B1 ∨ k = B2) ∨ (v1.ownBlock = some k ∨ v2.ownBlock = some k)) W ((w4.setCell ⟨B1, 0, none⟩ v1').setCell ⟨B2, 0, none⟩ v2') := ((bk.mono (fun _ h => .inr h)).setCell (.inl (.inl (.inl rfl))) _).setCell (.inl (.inl (.inr rfl))) _
  refine ⟨⟨v1', v2', boxedL_far (p := ⟨B2, 0, none⟩) y1 h12 _, Boxed.set _ y2, ?_, ?_, fun k e => ⟨?_, bap k e⟩, fun k e => ?_⟩, kk.mono ?_, keepsOthersL_of kk ?_⟩
  · exact (b1.far (p := ⟨B1, 0, none⟩) (b1.ne x1 (by decide)) _).far (p := ⟨B2, 0, none⟩) (b1.ne x2 (by decide)) _
  · exact (b2.far (p := ⟨B1, 0, none⟩) (b2.ne x1 (by decide)) _).far (p := ⟨B2, 0, none⟩) (b2.ne x2 (by decide)) _
  · rcases bn1 k e with h | h
    · exact n1 k h
    · omega
  · rcases bn2 k e with h | h
    · exact n2 k h
    · omega
  · rintro k ((h | h) | (h | h))
    · exact .inl h
    · exact .inr (.inl h)
    · exact .inr (.inr (n1 k h))
    · exact .inr (.inr (n2 k h))
  · rintro k ((rfl | rfl) | (h | h)) o ho
    · exact boxL_cells hB1 ho
    · exact boxL_cells hB2 ho
    · exact ownL_cells o1 h ho
    · exact ownL_cells o2 h ho

set_option maxHeartbeats 4000000 in
set_option maxRecDepth 100000 in
theorem told1_any (n₀ B1 B2 Bm : Nat) (m x : Int) (y : Bool) (l1 : List Int) (l2 : List Bool) (W : World) (h : TwoL n₀ B1 B2 W l1 l2) (h12 : B1 ≠ B2) (hn : n₀ ≤ W.heap.size) (hBm : Bm ≠ B1 ∧ Bm ≠ B2 ∧ Bm < n₀) (hm : W.cell? ⟨Bm, 0, none⟩ = some (.int .i64 m)) (hl1 : l1.length ≤ 4096) (hl2 : l2.length ≤ 4096) :
    Calls Try.prog 27 #[.int .i64 x, .bool y, .pointer (some ⟨B1, 0, none⟩), .pointer (some ⟨B2, 0, none⟩), .pointer (some ⟨Bm, 0, none⟩)] W fun e W' => e = .returned (.bool (decide (((l1.length + 1 : Nat) : Int) < m))) ∧ AfterL n₀ B1 B2 W W' l1 l2 x y := by
  obtain ⟨v1, v2, b1, b2, o1, o2, a1, a2⟩ := h
  obtain ⟨q1, c1, hv1, _⟩ := o1.shape
  obtain ⟨q2, c2, hv2, _⟩ := o2.shape
  rw [len_iv] at hv1; rw [len_bv] at hv2
  subst hv1 hv2
  obtain ⟨i0, hi, hz0, hz1, hz2⟩ := info_parts Try.infoLs
  obtain ⟨j0, gi, gz0, gz1, gz2⟩ := info_parts Try.infoLb
  have GI := Lib.hid gi; have GZ0 := Lib.hid gz0; have GZ1 := Lib.hid gz1; have GZ2 := Lib.hid gz2; clear gi gz0 gz1 gz2
  have HI := Lib.hid hi; have HZ0 := Lib.hid hz0; have HZ1 := Lib.hid hz1; have HZ2 := Lib.hid hz2; clear hi hz0 hz1 hz2
  have d1 := b1.cell
  have d2 := b2.cell
  have HB1 := Lib.hid b1; have HB2 := Lib.hid b2; have HO1 := Lib.hid o1; have HO2 := Lib.hid o2
  have HAP : Hid (∀ k, (Value.slice q1 l1.length c1).ownBlock = some k → (Value.slice q2 l2.length c2).ownBlock ≠ some k) := Lib.hid (fun k e => (a1 k e).2)
  have HN1 : Hid (∀ k, (Value.slice q1 l1.length c1).ownBlock = some k → n₀ ≤ k) := Lib.hid (fun k e => (a1 k e).1)
  have HN2 := Lib.hid a2
  have HNE : Hid ((¬ (Value.slice q1 l1.length c1).ownBlock = some B1) ∧ (¬ (Value.slice q1 l1.length c1).ownBlock = some B2) ∧ (¬ (Value.slice q2 l2.length c2).ownBlock = some B1) ∧ (¬ (Value.slice q2 l2.length c2).ownBlock = some B2)) := Lib.hid ⟨o1.ne b1 (by decide), o1.ne b2 (by decide), o2.ne b1 (by decide), o2.ne b2 (by decide)⟩
  have HNE12 := Lib.hid h12; have HBM : Hid (Bm ≠ B1 ∧ Bm ≠ B2 ∧ ¬ n₀ ≤ Bm) := Lib.hid ⟨hBm.1, hBm.2.1, by omega⟩
  have HM := Lib.hid hm
  have hlt1 := b1.lt
  have hlt2 := b2.lt
  clear b1 b2 o1 o2 a1 a2 h12
  -- what S asks, behind a step that turns no more than the two rows
  have HS : Hid (∀ W', Keep (fun k => (Value.slice q1 l1.length c1).ownBlock = some k ∨ (Value.slice q2 l2.length c2).ownBlock = some k) W W' → W'.cell? ⟨B1, 0, none⟩ = some (.slice q1 l1.length c1) ∧ W'.cell? ⟨B2, 0, none⟩ = some (.slice q2 l2.length c2)) := Lib.hid (fun W' hk => ⟨(boxed_kept HB1.out hk (fun h => h.elim HNE.out.1 HNE.out.2.2.1)).cell, (boxed_kept HB2.out hk (fun h => h.elim HNE.out.2.1 HNE.out.2.2.2)).cell⟩)
  go_enter Try.func27, Try.ntmps27
  go_wp2
  refine wp_region_late (fun W => W.cell? ⟨B1, 0, none⟩ = some (.slice q1 l1.length c1) ∧ W.cell? ⟨B2, 0, none⟩ = some (.slice q2 l2.length c2)) [8, 9] (.yes 0 (.yes 1 (.yes 4 (.yes 5 (.two 2 (.two 3 (.one 6 (.one 7 (.one 8 (.one 9 .nil)))) 6 (.one 3 (.one 7 (.one 8 (.one 9 .nil))))) 6 (.one 2 (.one 3 (.one 7 (.one 8 (.one 9 .nil)))))))))) (by kernel_rfl) (by kernel_rfl) (by kernel_rfl) (by kernel_rfl) ⟨d1, d2⟩ ?_
  (repeat (refine wpSchL_yes (v := ?_) rfl (fun _ _ _ h => h) (by rfl) ?_ ?_; rotate_left; (next => (intro w hSw; (try dsimp only at hSw); obtain ⟨hS1, hS2⟩ := hSw; go_simp; (try with_reducible rfl))); (try simp only [Act.put, List.setIfInBounds_toArray, List.set_cons_zero, List.set_cons_succ])))
  have K1 : Hid (Keep (fun _ => False) W W.drew) := Lib.hid (Keep.refl _ W).drew
  have KC1 : Hid (Keep (fun k => (Value.slice q1 l1.length c1).ownBlock = some k ∨ (Value.slice q2 l2.length c2).ownBlock = some k) W W.drew) := Lib.hid (Keep.refl _ W).drew
  have O11 : Hid (Owns W.drew 3 (.slice q1 l1.length c1) (iv l1)) := Lib.hid HO1.out
  have O21 : Hid (Owns W.drew 4 (.slice q2 l2.length c2) (bv l2)) := Lib.hid HO2.out
  generalize W.drew = w1 at *
  refine wpSchL_two ?_ ?_
  · skip
    refine wpOneL_call rfl (by rfl) (fun K hK => ?_)
    go_simp
    have kz : Keep (fun _ => False) w1 (w1.alloc (.cells #[.int .i64 x] 3)) := (Keep.refl _ _).alloc _
    have wz := Whole.new w1 3 #[.int .i64 x]
    have gz : Hid (W.heap.size ≤ w1.heap.size) := Lib.hid KC1.out.size
    have kc : Keep (fun k => (Value.slice q1 l1.length c1).ownBlock = some k ∨ (Value.slice q2 l2.length c2).ownBlock = some k) W (w1.alloc (.cells #[.int .i64 x] 3)) := KC1.out.trans (kz.mono (fun _ h => h.elim))
    have sc := HS.out _ kc
    refine hK.out _ _ ?_ (fun hHeld => ?_)
    · exact fun _ => sc
    clear hK K hHeld sc
    (try simp only [Act.put, List.setIfInBounds_toArray, List.set_cons_zero, List.set_cons_succ])
    generalize hbx : w1.heap.size = sx at *
    generalize w1.alloc (.cells #[.int .i64 x] 3) = w2 at *
    clear hbx
    have KZ2 := Lib.hid kz; have Wx := Lib.hid wz; have Gx := gz; have KC2 := Lib.hid kc
    clear kz wz gz kc
    refine wpSchL_two ?_ ?_
    · skip
      refine wpOneL_call rfl (by rfl) (fun K hK => ?_)
      refine oper_append_owns (.tmp 8) (.tmp 10) 26 rfl 3 i0 (.int .i64 0) 8 Try.underlying26 HI.out HZ0.out HZ1.out HZ2.out rfl (.slice q1 l1.length c1) (iv l1) rfl (O11.out.keep KZ2.out (fun _ _ h => h)) (some ⟨sx, 0, none⟩) 1 1 [.int .i64 x] rfl rfl (fun h => (by cases h)) (wholeL_news Wx.out) (one_iv [x]) (by unfold maxLen; rw [len_iv]; omega) (by rw [len_iv]; omega) ?_
      intro v1' w3 ow kw nw _
      rw [app_iv] at ow
      obtain ⟨g1, d1', hv'⟩ := ow.pos (by simp)
      rw [len_iv, List.length_append, List.length_singleton] at hv'
      subst hv'
      have kc : Keep (fun k => (Value.slice q1 l1.length c1).ownBlock = some k ∨ (Value.slice q2 l2.length c2).ownBlock = some k) W w3 := KC2.out.trans (kw.mono (fun _ h => .inl h))
      have sc := HS.out _ kc
      have OW1 := Lib.hid ow; have KW1 := Lib.hid kw; have NW1 := Lib.hid nw; have KC3 := Lib.hid kc
      clear ow kw nw kc
      refine hK.out _ _ ?_ (fun hHeld => ?_)
      · exact fun _ => sc
      clear hK K hHeld sc
      (try simp only [Act.put, List.setIfInBounds_toArray, List.set_cons_zero, List.set_cons_succ])
      refine wpSchL_one ?_
      refine wpOneL_call rfl (by rfl) (fun K hK => ?_)
      go_simp
      have kz : Keep (fun _ => False) w3 (w3.alloc (.cells #[.bool y] 4)) := (Keep.refl _ _).alloc _
      have wz := Whole.new w3 4 #[.bool y]
      have gz : Hid (W.heap.size ≤ w3.heap.size) := Lib.hid KC3.out.size
      have kc : Keep (fun k => (Value.slice q1 l1.length c1).ownBlock = some k ∨ (Value.slice q2 l2.length c2).ownBlock = some k) W (w3.alloc (.cells #[.bool y] 4)) := KC3.out.trans (kz.mono (fun _ h => h.elim))
      have sc := HS.out _ kc
      refine hK.out _ _ ?_ (fun hHeld => ?_)
      · exact fun _ => sc
      clear hK K hHeld sc
      (try simp only [Act.put, List.setIfInBounds_toArray, List.set_cons_zero, List.set_cons_succ])
      generalize hby : w3.heap.size = sy at *
      generalize w3.alloc (.cells #[.bool y] 4) = w4 at *
      clear hby
      have KZ4 := Lib.hid kz; have Wy := Lib.hid wz; have Gy := gz; have KC4 := Lib.hid kc
      clear kz wz gz kc
      refine wpSchL_one ?_
      refine wpOneL_call rfl (by rfl) (fun K hK => ?_)
      refine oper_append_owns (.tmp 12) (.tmp 14) 37 rfl 4 j0 (.bool false) 1 Try.underlying37 GI.out GZ0.out GZ1.out GZ2.out rfl (.slice q2 l2.length c2) (bv l2) rfl (((O21.out.keep KZ2.out (fun _ _ h => h)).keep KW1.out (fun k e e' => HAP.out k e' e)).keep KZ4.out (fun _ _ h => h)) (some ⟨sy, 0, none⟩) 1 1 [.bool y] rfl rfl (fun h => (by cases h)) (wholeL_news Wy.out) (one_bv [y]) (by unfold maxLen; rw [len_bv]; omega) (by rw [len_bv]; omega) ?_
      intro v2' w5 ow kw nw _
      rw [app_bv] at ow
      obtain ⟨g2, d2', hv'⟩ := ow.pos (by simp)
      rw [len_bv, List.length_append, List.length_singleton] at hv'
      subst hv'
      have kc : Keep (fun k => (Value.slice q1 l1.length c1).ownBlock = some k ∨ (Value.slice q2 l2.length c2).ownBlock = some k) W w5 := KC4.out.trans (kw.mono (fun _ h => .inr h))
      have sc := HS.out _ kc
      have OW2 := Lib.hid ow; have KW2 := Lib.hid kw; have NW2 := Lib.hid nw; have KC5 := Lib.hid kc
      clear ow kw nw kc
      refine hK.out _ _ ?_ (fun hHeld => ?_)
      · exact fun _ => sc
      clear hK K hHeld sc
      (try simp only [Act.put, List.setIfInBounds_toArray, List.set_cons_zero, List.set_cons_succ])
      have HBOTH : Hid (BothL W w5 (Value.slice q1 l1.length c1) (Value.slice q2 l2.length c2) (.slice (some ⟨g1, 0, none⟩) (l1.length + 1) d1') (.slice (some ⟨g2, 0, none⟩) (l2.length + 1) d2') (l1 ++ [x]) (l2 ++ [y])) := Lib.hid (bothL_of (O21.out.keep KZ2.out (fun _ _ h => h)) HAP.out (K1.out.trans KZ2.out) OW1.out KW1.out NW1.out ((Keep.refl (fun _ => False) _).trans KZ4.out) OW2.out KW2.out NW2.out)
      generalize w5 = w9 at *
      obtain ⟨bo1, bo2, bap, bn1, bn2, bk⟩ := HBOTH.out
      have x1 : Boxed w9 B1 26 (.slice q1 l1.length c1) := boxed_kept HB1.out bk (fun h => h.elim HNE.out.1 HNE.out.2.2.1)
      have x2 : Boxed w9 B2 37 (.slice q2 l2.length c2) := boxed_kept HB2.out bk (fun h => h.elim HNE.out.2.1 HNE.out.2.2.2)
      have xc1 := x1.cell
      have xf1 := x1.frozen
      have x3 : Boxed (w9.setCell ⟨B1, 0, none⟩ (.slice (some ⟨g1, 0, none⟩) (l1.length + 1) d1')) B2 37 (.slice q2 l2.length c2) := boxedL_far (p := ⟨B1, 0, none⟩) x2 (fun e => HNE12.out e.symm) _
      have xc2 := x3.cell
      have xf2 := x3.frozen
      have X1 := Lib.hid x1; have X2 := Lib.hid x2
      clear x1 x2 x3 bo1 bo2 bap bn1 bn2 bk
      refine wpSchL_one ?_
      refine wpOneL_call rfl (by rfl) (fun K hK => ?_)
      go_simp
      refine hK.out _ _ ?_ (fun hHeld => ?_)
      · exact fun h => absurd h (by decide)
      clear hK K hHeld
      (try simp only [Act.put, List.setIfInBounds_toArray, List.set_cons_zero, List.set_cons_succ])
      refine wpSchL_one ?_
      refine wpOneL_call rfl (by rfl) (fun K hK => ?_)
      go_simp
      refine hK.out _ _ ?_ (fun hHeld => ?_)
      · exact fun h => absurd h (by decide)
      clear hK K hHeld
      (try simp only [Act.put, List.setIfInBounds_toArray, List.set_cons_zero, List.set_cons_succ])
      refine wpSchL_nil ?_
      obtain ⟨W5, hW5⟩ : ∃ W5, W5 = (w9.setCell ⟨B1, 0, none⟩ (.slice (some ⟨g1, 0, none⟩) (l1.length + 1) d1')).setCell ⟨B2, 0, none⟩ (.slice (some ⟨g2, 0, none⟩) (l2.length + 1) d2') := ⟨_, rfl⟩
      have HT : Hid (AfterL n₀ B1 B2 W W5 l1 l2 x y) := Lib.hid (hW5 ▸ afterL_of HB1.out HB2.out X1.out X2.out HO1.out HO2.out HN1.out HN2.out HNE12.out hn HBOTH.out)
      have e2 : W5.cell? ⟨B1, 0, none⟩ = some (.slice (some ⟨g1, 0, none⟩) (l1.length + 1) d1') := by rw [hW5]; exact (boxedL_far (p := ⟨B2, 0, none⟩) (Boxed.set _ X1.out) HNE12.out _).cell
      have em : W5.cell? ⟨Bm, 0, none⟩ = some (.int .i64 m) := HT.out.2.1.cell (p := ⟨Bm, 0, none⟩) (lt_of_cell HM.out) (by rintro (h | h | h); exact HBM.out.1 h; exact HBM.out.2.1 h; exact HBM.out.2.2 h) |>.trans HM.out
      rw [← hW5]
      clear hW5 xc1 xf1 xc2 xf2
      go_wp2
      go_ret
      exact ⟨by simp, HT.out⟩
    · skip
      refine wpOneL_call rfl (by rfl) (fun K hK => ?_)
      go_simp
      have kz : Keep (fun _ => False) w2 (w2.alloc (.cells #[.bool y] 4)) := (Keep.refl _ _).alloc _
      have wz := Whole.new w2 4 #[.bool y]
      have gz : Hid (W.heap.size ≤ w2.heap.size) := Lib.hid KC2.out.size
      have kc : Keep (fun k => (Value.slice q1 l1.length c1).ownBlock = some k ∨ (Value.slice q2 l2.length c2).ownBlock = some k) W (w2.alloc (.cells #[.bool y] 4)) := KC2.out.trans (kz.mono (fun _ h => h.elim))
      have sc := HS.out _ kc
      refine hK.out _ _ ?_ (fun hHeld => ?_)
      · exact fun _ => sc
      clear hK K hHeld sc
      (try simp only [Act.put, List.setIfInBounds_toArray, List.set_cons_zero, List.set_cons_succ])
      generalize hby : w2.heap.size = sy at *
      generalize w2.alloc (.cells #[.bool y] 4) = w3 at *
      clear hby
      have KZ3 := Lib.hid kz; have Wy := Lib.hid wz; have Gy := gz; have KC3 := Lib.hid kc
      clear kz wz gz kc
      refine wpSchL_one ?_
      refine wpOneL_call rfl (by rfl) (fun K hK => ?_)
      refine oper_append_owns (.tmp 8) (.tmp 10) 26 rfl 3 i0 (.int .i64 0) 8 Try.underlying26 HI.out HZ0.out HZ1.out HZ2.out rfl (.slice q1 l1.length c1) (iv l1) rfl ((O11.out.keep KZ2.out (fun _ _ h => h)).keep KZ3.out (fun _ _ h => h)) (some ⟨sx, 0, none⟩) 1 1 [.int .i64 x] rfl rfl (fun h => (by cases h)) (wholeL_news (Wx.out.keep KZ3.out id)) (one_iv [x]) (by unfold maxLen; rw [len_iv]; omega) (by rw [len_iv]; omega) ?_
      intro v1' w4 ow kw nw _
      rw [app_iv] at ow
      obtain ⟨g1, d1', hv'⟩ := ow.pos (by simp)
      rw [len_iv, List.length_append, List.length_singleton] at hv'
      subst hv'
      have kc : Keep (fun k => (Value.slice q1 l1.length c1).ownBlock = some k ∨ (Value.slice q2 l2.length c2).ownBlock = some k) W w4 := KC3.out.trans (kw.mono (fun _ h => .inl h))
      have sc := HS.out _ kc
      have OW1 := Lib.hid ow; have KW1 := Lib.hid kw; have NW1 := Lib.hid nw; have KC4 := Lib.hid kc
      clear ow kw nw kc
      refine hK.out _ _ ?_ (fun hHeld => ?_)
      · exact fun _ => sc
      clear hK K hHeld sc
      (try simp only [Act.put, List.setIfInBounds_toArray, List.set_cons_zero, List.set_cons_succ])
      refine wpSchL_one ?_
      refine wpOneL_call rfl (by rfl) (fun K hK => ?_)
      refine oper_append_owns (.tmp 12) (.tmp 14) 37 rfl 4 j0 (.bool false) 1 Try.underlying37 GI.out GZ0.out GZ1.out GZ2.out rfl (.slice q2 l2.length c2) (bv l2) rfl (((O21.out.keep KZ2.out (fun _ _ h => h)).keep KZ3.out (fun _ _ h => h)).keep KW1.out (fun k e e' => HAP.out k e' e)) (some ⟨sy, 0, none⟩) 1 1 [.bool y] rfl rfl (fun h => (by cases h)) (wholeL_news (Wy.out.keep KW1.out (fun e => by have := HO1.out.lt e; have := Gy.out; omega))) (one_bv [y]) (by unfold maxLen; rw [len_bv]; omega) (by rw [len_bv]; omega) ?_
      intro v2' w5 ow kw nw _
      rw [app_bv] at ow
      obtain ⟨g2, d2', hv'⟩ := ow.pos (by simp)
      rw [len_bv, List.length_append, List.length_singleton] at hv'
      subst hv'
      have kc : Keep (fun k => (Value.slice q1 l1.length c1).ownBlock = some k ∨ (Value.slice q2 l2.length c2).ownBlock = some k) W w5 := KC4.out.trans (kw.mono (fun _ h => .inr h))
      have sc := HS.out _ kc
      have OW2 := Lib.hid ow; have KW2 := Lib.hid kw; have NW2 := Lib.hid nw; have KC5 := Lib.hid kc
      clear ow kw nw kc
      refine hK.out _ _ ?_ (fun hHeld => ?_)
      · exact fun _ => sc
      clear hK K hHeld sc
      (try simp only [Act.put, List.setIfInBounds_toArray, List.set_cons_zero, List.set_cons_succ])
      have HBOTH : Hid (BothL W w5 (Value.slice q1 l1.length c1) (Value.slice q2 l2.length c2) (.slice (some ⟨g1, 0, none⟩) (l1.length + 1) d1') (.slice (some ⟨g2, 0, none⟩) (l2.length + 1) d2') (l1 ++ [x]) (l2 ++ [y])) := Lib.hid (bothL_of ((O21.out.keep KZ2.out (fun _ _ h => h)).keep KZ3.out (fun _ _ h => h)) HAP.out ((K1.out.trans KZ2.out).trans KZ3.out) OW1.out KW1.out NW1.out (Keep.refl (fun _ => False) _) OW2.out KW2.out NW2.out)
      generalize w5 = w9 at *
      obtain ⟨bo1, bo2, bap, bn1, bn2, bk⟩ := HBOTH.out
      have x1 : Boxed w9 B1 26 (.slice q1 l1.length c1) := boxed_kept HB1.out bk (fun h => h.elim HNE.out.1 HNE.out.2.2.1)
      have x2 : Boxed w9 B2 37 (.slice q2 l2.length c2) := boxed_kept HB2.out bk (fun h => h.elim HNE.out.2.1 HNE.out.2.2.2)
      have xc1 := x1.cell
      have xf1 := x1.frozen
      have x3 : Boxed (w9.setCell ⟨B1, 0, none⟩ (.slice (some ⟨g1, 0, none⟩) (l1.length + 1) d1')) B2 37 (.slice q2 l2.length c2) := boxedL_far (p := ⟨B1, 0, none⟩) x2 (fun e => HNE12.out e.symm) _
      have xc2 := x3.cell
      have xf2 := x3.frozen
      have X1 := Lib.hid x1; have X2 := Lib.hid x2
      clear x1 x2 x3 bo1 bo2 bap bn1 bn2 bk
      refine wpSchL_one ?_
      refine wpOneL_call rfl (by rfl) (fun K hK => ?_)
      go_simp
      refine hK.out _ _ ?_ (fun hHeld => ?_)
      · exact fun h => absurd h (by decide)
      clear hK K hHeld
      (try simp only [Act.put, List.setIfInBounds_toArray, List.set_cons_zero, List.set_cons_succ])
      refine wpSchL_one ?_
      refine wpOneL_call rfl (by rfl) (fun K hK => ?_)
      go_simp
      refine hK.out _ _ ?_ (fun hHeld => ?_)
      · exact fun h => absurd h (by decide)
      clear hK K hHeld
      (try simp only [Act.put, List.setIfInBounds_toArray, List.set_cons_zero, List.set_cons_succ])
      refine wpSchL_nil ?_
      obtain ⟨W5, hW5⟩ : ∃ W5, W5 = (w9.setCell ⟨B1, 0, none⟩ (.slice (some ⟨g1, 0, none⟩) (l1.length + 1) d1')).setCell ⟨B2, 0, none⟩ (.slice (some ⟨g2, 0, none⟩) (l2.length + 1) d2') := ⟨_, rfl⟩
      have HT : Hid (AfterL n₀ B1 B2 W W5 l1 l2 x y) := Lib.hid (hW5 ▸ afterL_of HB1.out HB2.out X1.out X2.out HO1.out HO2.out HN1.out HN2.out HNE12.out hn HBOTH.out)
      have e2 : W5.cell? ⟨B1, 0, none⟩ = some (.slice (some ⟨g1, 0, none⟩) (l1.length + 1) d1') := by rw [hW5]; exact (boxedL_far (p := ⟨B2, 0, none⟩) (Boxed.set _ X1.out) HNE12.out _).cell
      have em : W5.cell? ⟨Bm, 0, none⟩ = some (.int .i64 m) := HT.out.2.1.cell (p := ⟨Bm, 0, none⟩) (lt_of_cell HM.out) (by rintro (h | h | h); exact HBM.out.1 h; exact HBM.out.2.1 h; exact HBM.out.2.2 h) |>.trans HM.out
      rw [← hW5]
      clear hW5 xc1 xf1 xc2 xf2
      go_wp2
      go_ret
      exact ⟨by simp, HT.out⟩
  · skip
    refine wpOneL_call rfl (by rfl) (fun K hK => ?_)
    go_simp
    have kz : Keep (fun _ => False) w1 (w1.alloc (.cells #[.bool y] 4)) := (Keep.refl _ _).alloc _
    have wz := Whole.new w1 4 #[.bool y]
    have gz : Hid (W.heap.size ≤ w1.heap.size) := Lib.hid KC1.out.size
    have kc : Keep (fun k => (Value.slice q1 l1.length c1).ownBlock = some k ∨ (Value.slice q2 l2.length c2).ownBlock = some k) W (w1.alloc (.cells #[.bool y] 4)) := KC1.out.trans (kz.mono (fun _ h => h.elim))
    have sc := HS.out _ kc
    refine hK.out _ _ ?_ (fun hHeld => ?_)
    · exact fun _ => sc
    clear hK K hHeld sc
    (try simp only [Act.put, List.setIfInBounds_toArray, List.set_cons_zero, List.set_cons_succ])
    generalize hby : w1.heap.size = sy at *
    generalize w1.alloc (.cells #[.bool y] 4) = w2 at *
    clear hby
    have KZ2 := Lib.hid kz; have Wy := Lib.hid wz; have Gy := gz; have KC2 := Lib.hid kc
    clear kz wz gz kc
    refine wpSchL_one ?_
    refine wpOneL_call rfl (by rfl) (fun K hK => ?_)
    go_simp
    have kz : Keep (fun _ => False) w2 (w2.alloc (.cells #[.int .i64 x] 3)) := (Keep.refl _ _).alloc _
    have wz := Whole.new w2 3 #[.int .i64 x]
    have gz : Hid (W.heap.size ≤ w2.heap.size) := Lib.hid KC2.out.size
    have kc : Keep (fun k => (Value.slice q1 l1.length c1).ownBlock = some k ∨ (Value.slice q2 l2.length c2).ownBlock = some k) W (w2.alloc (.cells #[.int .i64 x] 3)) := KC2.out.trans (kz.mono (fun _ h => h.elim))
    have sc := HS.out _ kc
    refine hK.out _ _ ?_ (fun hHeld => ?_)
    · exact fun _ => sc
    clear hK K hHeld sc
    (try simp only [Act.put, List.setIfInBounds_toArray, List.set_cons_zero, List.set_cons_succ])
    generalize hbx : w2.heap.size = sx at *
    generalize w2.alloc (.cells #[.int .i64 x] 3) = w3 at *
    clear hbx
    have KZ3 := Lib.hid kz; have Wx := Lib.hid wz; have Gx := gz; have KC3 := Lib.hid kc
    clear kz wz gz kc
    refine wpSchL_one ?_
    refine wpOneL_call rfl (by rfl) (fun K hK => ?_)
    refine oper_append_owns (.tmp 8) (.tmp 10) 26 rfl 3 i0 (.int .i64 0) 8 Try.underlying26 HI.out HZ0.out HZ1.out HZ2.out rfl (.slice q1 l1.length c1) (iv l1) rfl ((O11.out.keep KZ2.out (fun _ _ h => h)).keep KZ3.out (fun _ _ h => h)) (some ⟨sx, 0, none⟩) 1 1 [.int .i64 x] rfl rfl (fun h => (by cases h)) (wholeL_news Wx.out) (one_iv [x]) (by unfold maxLen; rw [len_iv]; omega) (by rw [len_iv]; omega) ?_
    intro v1' w4 ow kw nw _
    rw [app_iv] at ow
    obtain ⟨g1, d1', hv'⟩ := ow.pos (by simp)
    rw [len_iv, List.length_append, List.length_singleton] at hv'
    subst hv'
    have kc : Keep (fun k => (Value.slice q1 l1.length c1).ownBlock = some k ∨ (Value.slice q2 l2.length c2).ownBlock = some k) W w4 := KC3.out.trans (kw.mono (fun _ h => .inl h))
    have sc := HS.out _ kc
    have OW1 := Lib.hid ow; have KW1 := Lib.hid kw; have NW1 := Lib.hid nw; have KC4 := Lib.hid kc
    clear ow kw nw kc
    refine hK.out _ _ ?_ (fun hHeld => ?_)
    · exact fun _ => sc
    clear hK K hHeld sc
    (try simp only [Act.put, List.setIfInBounds_toArray, List.set_cons_zero, List.set_cons_succ])
    refine wpSchL_one ?_
    refine wpOneL_call rfl (by rfl) (fun K hK => ?_)
    refine oper_append_owns (.tmp 12) (.tmp 14) 37 rfl 4 j0 (.bool false) 1 Try.underlying37 GI.out GZ0.out GZ1.out GZ2.out rfl (.slice q2 l2.length c2) (bv l2) rfl (((O21.out.keep KZ2.out (fun _ _ h => h)).keep KZ3.out (fun _ _ h => h)).keep KW1.out (fun k e e' => HAP.out k e' e)) (some ⟨sy, 0, none⟩) 1 1 [.bool y] rfl rfl (fun h => (by cases h)) (wholeL_news ((Wy.out.keep KZ3.out id).keep KW1.out (fun e => by have := HO1.out.lt e; have := Gy.out; omega))) (one_bv [y]) (by unfold maxLen; rw [len_bv]; omega) (by rw [len_bv]; omega) ?_
    intro v2' w5 ow kw nw _
    rw [app_bv] at ow
    obtain ⟨g2, d2', hv'⟩ := ow.pos (by simp)
    rw [len_bv, List.length_append, List.length_singleton] at hv'
    subst hv'
    have kc : Keep (fun k => (Value.slice q1 l1.length c1).ownBlock = some k ∨ (Value.slice q2 l2.length c2).ownBlock = some k) W w5 := KC4.out.trans (kw.mono (fun _ h => .inr h))
    have sc := HS.out _ kc
    have OW2 := Lib.hid ow; have KW2 := Lib.hid kw; have NW2 := Lib.hid nw; have KC5 := Lib.hid kc
    clear ow kw nw kc
    refine hK.out _ _ ?_ (fun hHeld => ?_)
    · exact fun _ => sc
    clear hK K hHeld sc
    (try simp only [Act.put, List.setIfInBounds_toArray, List.set_cons_zero, List.set_cons_succ])
    have HBOTH : Hid (BothL W w5 (Value.slice q1 l1.length c1) (Value.slice q2 l2.length c2) (.slice (some ⟨g1, 0, none⟩) (l1.length + 1) d1') (.slice (some ⟨g2, 0, none⟩) (l2.length + 1) d2') (l1 ++ [x]) (l2 ++ [y])) := Lib.hid (bothL_of ((O21.out.keep KZ2.out (fun _ _ h => h)).keep KZ3.out (fun _ _ h => h)) HAP.out ((K1.out.trans KZ2.out).trans KZ3.out) OW1.out KW1.out NW1.out (Keep.refl (fun _ => False) _) OW2.out KW2.out NW2.out)
    generalize w5 = w9 at *
    obtain ⟨bo1, bo2, bap, bn1, bn2, bk⟩ := HBOTH.out
    have x1 : Boxed w9 B1 26 (.slice q1 l1.length c1) := boxed_kept HB1.out bk (fun h => h.elim HNE.out.1 HNE.out.2.2.1)
    have x2 : Boxed w9 B2 37 (.slice q2 l2.length c2) := boxed_kept HB2.out bk (fun h => h.elim HNE.out.2.1 HNE.out.2.2.2)
    have xc1 := x1.cell
    have xf1 := x1.frozen
    have x3 : Boxed (w9.setCell ⟨B1, 0, none⟩ (.slice (some ⟨g1, 0, none⟩) (l1.length + 1) d1')) B2 37 (.slice q2 l2.length c2) := boxedL_far (p := ⟨B1, 0, none⟩) x2 (fun e => HNE12.out e.symm) _
    have xc2 := x3.cell
    have xf2 := x3.frozen
    have X1 := Lib.hid x1; have X2 := Lib.hid x2
    clear x1 x2 x3 bo1 bo2 bap bn1 bn2 bk
    refine wpSchL_one ?_
    refine wpOneL_call rfl (by rfl) (fun K hK => ?_)
    go_simp
    refine hK.out _ _ ?_ (fun hHeld => ?_)
    · exact fun h => absurd h (by decide)
    clear hK K hHeld
    (try simp only [Act.put, List.setIfInBounds_toArray, List.set_cons_zero, List.set_cons_succ])
    refine wpSchL_one ?_
    refine wpOneL_call rfl (by rfl) (fun K hK => ?_)
    go_simp
    refine hK.out _ _ ?_ (fun hHeld => ?_)
    · exact fun h => absurd h (by decide)
    clear hK K hHeld
    (try simp only [Act.put, List.setIfInBounds_toArray, List.set_cons_zero, List.set_cons_succ])
    refine wpSchL_nil ?_
    obtain ⟨W5, hW5⟩ : ∃ W5, W5 = (w9.setCell ⟨B1, 0, none⟩ (.slice (some ⟨g1, 0, none⟩) (l1.length + 1) d1')).setCell ⟨B2, 0, none⟩ (.slice (some ⟨g2, 0, none⟩) (l2.length + 1) d2') := ⟨_, rfl⟩
    have HT : Hid (AfterL n₀ B1 B2 W W5 l1 l2 x y) := Lib.hid (hW5 ▸ afterL_of HB1.out HB2.out X1.out X2.out HO1.out HO2.out HN1.out HN2.out HNE12.out hn HBOTH.out)
    have e2 : W5.cell? ⟨B1, 0, none⟩ = some (.slice (some ⟨g1, 0, none⟩) (l1.length + 1) d1') := by rw [hW5]; exact (boxedL_far (p := ⟨B2, 0, none⟩) (Boxed.set _ X1.out) HNE12.out _).cell
    have em : W5.cell? ⟨Bm, 0, none⟩ = some (.int .i64 m) := HT.out.2.1.cell (p := ⟨Bm, 0, none⟩) (lt_of_cell HM.out) (by rintro (h | h | h); exact HBM.out.1 h; exact HBM.out.2.1 h; exact HBM.out.2.2 h) |>.trans HM.out
    rw [← hW5]
    clear hW5 xc1 xf1 xc2 xf2
    go_wp2
    go_ret
    exact ⟨by simp, HT.out⟩
/-! ### What All's function tells to it -/
def fstL (pre : List (Int × Bool)) : List Int := pre.map fun p => p.1
def sndL (pre : List (Int × Bool)) : List Bool := pre.map fun p => p.2
@[simp] theorem len_fstL (pre : List (Int × Bool)) : (fstL pre).length = pre.length := List.length_map _
@[simp] theorem len_sndL (pre : List (Int × Bool)) : (sndL pre).length = pre.length := List.length_map _
theorem fstL_app (pre : List (Int × Bool)) (x : Int × Bool) : fstL (pre ++ [x]) = fstL pre ++ [x.1] := by simp [fstL]
theorem sndL_app (pre : List (Int × Bool)) (x : Int × Bool) : sndL (pre ++ [x]) = sndL pre ++ [x.2] := by simp [sndL]
/-- What is told where m at most are asked for (one at the least). -/
def toldL (N O : List Int) (m : Int) : List (Int × Bool) := (tellL N O).take (max 1 m.toNat)
theorem tell_len (N O : List Int) : (tellL N O).length = N.length + O.length := by simp [tellL]

theorem size_own {β : Type} {B n : Nat} : OwnFrom B (fun (_ : β) W => n ≤ W.heap.size) := fun _ _ _ _ hs hg _ => Nat.le_trans hs hg.size

set_option maxHeartbeats 1000000 in
theorem tells_any (G1 G2 Gm B : Nat) (m : Int) (N O : List Int) (hN : N.length ≤ 8) (hO : O.length ≤ 8) (w : World) (h : LsAt w B N O) (hv1 : Boxed w G1 26 (.slice none 0 0)) (hv2 : Boxed w G2 37 (.slice none 0 0))
    (h12 : G1 ≠ G2) (hB : B ≠ G1 ∧ B ≠ G2) (hBm : Gm ≠ G1 ∧ Gm ≠ G2) (hm : w.cell? ⟨Gm, 0, none⟩ = some (.int .i64 m)) :
    Calls Try.prog 34 #[.func (.func 27) #[] #[.pointer (some ⟨G1, 0, none⟩), .pointer (some ⟨G2, 0, none⟩), .pointer (some ⟨Gm, 0, none⟩)], .pointer (some ⟨B, 0, none⟩)] w fun e W' => (∃ v, e = .returned v) ∧
      TwoL (w.heap.size + 1) G1 G2 W' (fstL (toldL N O m)) (sndL (toldL N O m)) ∧ Keep (fun k => k = G1 ∨ k = G2 ∨ w.heap.size ≤ k) w W' := by
  have hl1 := hv1.lt; have hl2 := hv2.lt; have hlB := h.lt; have hlm : Gm < w.heap.size := lt_of_cell hm
  obtain ⟨w0, hw0⟩ : ∃ w0, w0 = w.alloc (.cells #[.func (.func 27) #[] #[.pointer (some ⟨G1, 0, none⟩), .pointer (some ⟨G2, 0, none⟩), .pointer (some ⟨Gm, 0, none⟩)]] 56) := ⟨_, rfl⟩
  have hk0 : Keep (fun _ => False) w w0 := by rw [hw0]; exact (Keep.refl _ w).alloc _
  have hs0 : w0.heap.size = w.heap.size + 1 := by rw [hw0]; simp
  have hm0 : w0.cell? ⟨Gm, 0, none⟩ = some (.int .i64 m) := (hk0.cell (p := ⟨Gm, 0, none⟩) hlm id).trans hm
  refine (all1_calls (fun k => k = G1 ∨ k = G2 ∨ w.heap.size + 1 ≤ k) B G1 G2 Gm N O w h hN hO (by rintro (h | h | h) <;> omega) (by rintro (h | h | h) <;> omega)
    (fun pre W => (TwoL (w.heap.size + 1) G1 G2 W (fstL pre) (sndL pre) ∧ (pre = [] ∨ (pre.length : Int) < m)) ∧ (w.heap.size + 1 ≤ W.heap.size ∧ Keep (fun k => k = G1 ∨ k = G2 ∨ w.heap.size + 1 ≤ k) w0 W))
    (fun pre W => (TwoL (w.heap.size + 1) G1 G2 W (fstL pre) (sndL pre) ∧ pre.length = max 1 m.toNat) ∧ (w.heap.size + 1 ≤ W.heap.size ∧ Keep (fun k => k = G1 ∨ k = G2 ∨ w.heap.size + 1 ≤ k) w0 W))
    ?_ ?_ ?_ ?_).mono ?_
  · refine fun s A C row hs hg hr => ⟨twoL_own (w.heap.size + 1) G1 G2 fstL sndL (fun pre => pre = [] ∨ (pre.length : Int) < m) s A C row hs.1 hg (fun r e => (hr r e).2), Nat.le_trans hs.2.1 hg.size, ?_⟩
    have hk := hs.2.2
    exact ⟨hg.os.trans hk.os, hg.tape.trans hk.tape, hg.output.trans hk.output, Nat.le_trans hk.size hg.size, fun k hlt hn => (hg.block k (Nat.lt_of_lt_of_le hlt hk.size) (fun e => by
      obtain ⟨h1, o, ho, hoc⟩ := hr k e.symm
      by_cases e2 : k = w.heap.size
      · have hb := hk.block k hlt hn
        rw [ho] at hb
        rw [hw0, e2, heap_alloc_new w _] at hb
        cases hb; cases hoc
      · exact hn (.inr (.inr (by omega))))).trans (hk.block k hlt hn)⟩
  · refine fun s A C row hs hg hr => ⟨twoL_own (w.heap.size + 1) G1 G2 fstL sndL (fun pre => pre.length = max 1 m.toNat) s A C row hs.1 hg (fun r e => (hr r e).2), Nat.le_trans hs.2.1 hg.size, ?_⟩
    have hk := hs.2.2
    exact ⟨hg.os.trans hk.os, hg.tape.trans hk.tape, hg.output.trans hk.output, Nat.le_trans hk.size hg.size, fun k hlt hn => (hg.block k (Nat.lt_of_lt_of_le hlt hk.size) (fun e => by
      obtain ⟨h1, o, ho, hoc⟩ := hr k e.symm
      by_cases e2 : k = w.heap.size
      · have hb := hk.block k hlt hn
        rw [ho] at hb
        rw [hw0, e2, heap_alloc_new w _] at hb
        cases hb; cases hoc
      · exact hn (.inr (.inr (by omega))))).trans (hk.block k hlt hn)⟩
  · rintro pre ⟨x, b⟩ W1 ⟨⟨hT, hc⟩, hs, hk⟩ hlen
    have hmW := (hk.cell (p := ⟨Gm, 0, none⟩) (by show Gm < w0.heap.size; omega) (show ¬ (Gm = G1 ∨ Gm = G2 ∨ w.heap.size + 1 ≤ Gm) by omega)).trans hm0
    refine (told1_any (w.heap.size + 1) G1 G2 Gm m x b (fstL pre) (sndL pre) W1 hT h12 hs ⟨hBm.1, hBm.2, by omega⟩ hmW (by simp; omega) (by simp; omega)).mono ?_
    rintro e W' ⟨rfl, hT', hk', ho'⟩
    refine ⟨ho'.from _, ?_⟩
    have hk2 := hk.trans hk'
    have hs2 := Nat.le_trans hs hk'.size
    by_cases hgo : ((pre.length + 1 : Nat) : Int) < m
    · have hd : decide ((((fstL pre).length + 1 : Nat) : Int) < m) = true := by simpa using hgo
      rw [hd]
      exact .inl ⟨rfl, ⟨⟨by rw [fstL_app, sndL_app]; exact hT', .inr (by rw [List.length_append, List.length_singleton]; exact hgo)⟩, hs2, hk2⟩, hk'⟩
    · have hd : decide ((((fstL pre).length + 1 : Nat) : Int) < m) = false := by simpa using hgo
      rw [hd]
      refine .inr ⟨rfl, ⟨by rw [fstL_app, sndL_app]; exact hT', ?_⟩, hs2, hk2⟩
      rw [List.length_append, List.length_singleton]
      rcases hc with h | h
      · rw [h] at hgo ⊢; simp at hgo ⊢; omega
      · omega
  · rw [← hw0]
    exact ⟨⟨⟨_, _, boxed_kept hv1 hk0 id, boxed_kept hv2 hk0 id, Owns.nil _ _, Owns.nil _ _, fun k e => (by cases e), fun k e => (by cases e)⟩, .inl rfl⟩, by omega, Keep.refl _ _⟩
  · have up : ∀ {W : World}, Keep (fun k => k = G1 ∨ k = G2 ∨ w.heap.size + 1 ≤ k) w0 W → Keep (fun k => k = G1 ∨ k = G2 ∨ w.heap.size ≤ k) w W := fun hk => (hk0.mono (fun _ h => h.elim)).trans (hk.mono (fun k h => by rcases h with h | h | h; exact .inl h; exact .inr (.inl h); exact .inr (.inr (by omega))))
    rintro e W' ⟨hv, (⟨xs, rfl, ⟨hT, hc⟩, _, hk⟩ | ⟨pre, ⟨k, hk8, rfl⟩, ⟨hT, hc⟩, _, hk⟩)⟩
    · have ht : toldL N O m = tellL N O := by
        unfold toldL
        refine List.take_of_length_le ?_
        rcases hc with h | h
        · rw [h]; simp
        · omega
      rw [ht]
      exact ⟨hv, hT, up hk⟩
    · have ht : toldL N O m = (tellL N O).take k := by
        unfold toldL
        rw [← hc]
        exact (List.prefix_iff_eq_take.1 (List.take_prefix k _)).symm
      rw [ht]
      exact ⟨hv, hT, up hk⟩

/-- What told leaves. -/
def ToldS (w : World) (L : List (Int × Bool)) (e : Ending) (w' : World) : Prop := ∃ a1 c1 a2 c2, e = .returned (.tuple #[.slice a1 L.length c1, .slice a2 L.length c2]) ∧ Owns w' 3 (.slice a1 L.length c1) (iv (fstL L)) ∧ Owns w' 4 (.slice a2 L.length c2) (bv (sndL L)) ∧
  (∀ k, (Value.slice a1 L.length c1).ownBlock = some k → w.heap.size ≤ k) ∧ (∀ k, (Value.slice a2 L.length c2).ownBlock = some k → w.heap.size ≤ k) ∧ Keep (fun _ => False) w w'
set_option maxHeartbeats 1000000 in
set_option maxRecDepth 100000 in
theorem told_any (p : Option Addr) (N O : List Int) (m : Int) (L : List (Int × Bool)) (w : World) (h : LsIs w p N O) (hN : N.length ≤ 8) (hO : O.length ≤ 8) (hL : toldL N O m = L) :
    Calls Try.prog 19 #[.pointer p, .int .i64 m] w (ToldS w L) := by
  unfold ToldS
  have hmf := Try.hmf
  have hnf := Try.hnf'
  obtain ⟨w0, hw0⟩ : ∃ w0, w0 = ((w.alloc (.cells #[.int .i64 m] 3)).alloc (.cells #[.slice none 0 0] 26)).alloc (.cells #[.slice none 0 0] 37) := ⟨_, rfl⟩
  have hk0 : Keep (fun _ => False) w w0 := by rw [hw0]; exact (((Keep.refl _ w).alloc _).alloc _).alloc _
  have hs0 : w0.heap.size = w.heap.size + 1 + 1 + 1 := by rw [hw0]; simp
  have bM : Boxed w0 w.heap.size 3 (.int .i64 m) := by rw [hw0]; exact ((Boxed.new w 3 (.int .i64 m)).alloc _).alloc _
  have b1 : Boxed w0 (w.heap.size + 1) 26 (.slice none 0 0) := by
    rw [hw0]; have := (Boxed.new (w.alloc (.cells #[.int .i64 m] 3)) 26 (.slice none 0 0)).alloc (.cells #[.slice none 0 0] 37); rwa [World.size_alloc] at this
  have b2 : Boxed w0 (w.heap.size + 1 + 1) 37 (.slice none 0 0) := by
    rw [hw0]; have := Boxed.new ((w.alloc (.cells #[.int .i64 m] 3)).alloc (.cells #[.slice none 0 0] 26)) 37 (.slice none 0 0); rwa [World.size_alloc, World.size_alloc] at this
  have HR0 := Lib.hid (h.keep hk0)
  have HM := Lib.hid bM; have HB1 := Lib.hid b1; have HB2 := Lib.hid b2; have HK0 := Lib.hid hk0; have HL := Lib.hid hL
  clear h bM b1 b2 hk0 hL
  go_enter Try.func19, Try.ntmps19
  go_wp2_with fail
  rw [← hw0]
  refine (lall_is p N O w0 HR0.out).mono ?_
  rintro e w1 ⟨rfl, ht, hk1⟩
  rw [hs0] at ht ⊢
  have HT := Lib.hid ht; have HK1 := Lib.hid hk1; clear ht hk1
  go_wp2_with fail
  refine (tells_any (w.heap.size + 1) (w.heap.size + 1 + 1) w.heap.size (w.heap.size + 1 + 1 + 1) m N O hN hO w1 HT.out (boxed_kept HB1.out HK1.out id) (boxed_kept HB2.out HK1.out id) (by omega) (by omega) (by omega) (boxed_kept HM.out HK1.out id).cell).mono ?_
  rintro e w2 ⟨⟨v2, rfl⟩, h2, k2⟩
  rw [HL.out] at h2
  obtain ⟨v1, v2', x1, x2, o1, o2, n1, n2⟩ := h2
  obtain ⟨a1, c1, hv1, _⟩ := o1.shape
  obtain ⟨a2, c2, hv2, _⟩ := o2.shape
  rw [len_iv, len_fstL] at hv1
  rw [len_bv, len_sndL] at hv2
  subst hv1 hv2
  have y1 := x1.cell; have y2 := x2.cell
  have O1 := Lib.hid o1; have O2 := Lib.hid o2; have K2 := Lib.hid k2; have N1 := Lib.hid n1; have N2 := Lib.hid n2
  clear x1 x2 o1 o2 k2 n1 n2 hw0
  obtain ⟨q, hq⟩ : ∃ q, q = L.length := ⟨_, rfl⟩
  have HQ := Lib.hid hq
  rw [← hq] at y1 y2
  clear hq
  go_wp2_with fail
  go_quiet (fail)
  go_wp2
  go_ret2
  have hsz := (HK0.out.trans HK1.out).size
  refine ⟨a1, c1, a2, c2, by first | rfl | (rw [HQ.out]; rfl), O1.out, O2.out, fun k e => by have := (N1.out k e).1; omega, fun k e => by have := N2.out k e; omega, ((HK0.out.trans HK1.out).then K2.out (fun i h hlt => ?_)).drewN _⟩
  have := HK0.out.size
  have := HK1.out.size
  rcases h with h | h | h <;> omega
end Go.Proofs.Ytcllgfkmjleckaa
