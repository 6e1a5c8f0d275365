/-
  canterlaw06.pairs tells the places of a ring and what is there, as two slices of its own. Conditions: the ring lies in memory as New makes it.
-/
import Derived.Test.YtjdagojikhainaaRingAll
namespace Go.Proofs.Ytjdagojikhainaa
open Go.RowKit Go.Shelf

attribute [local go_sem] Oper.semAt_some

/-! ### slices.All -/
def upto {α : Type} (f : Nat → α) (k : Nat) : List α := (List.range k).map f
theorem upto_succ {α : Type} (f : Nat → α) (k : Nat) : upto f (k + 1) = upto f k ++ [f k] := by simp [upto, List.range_succ]
theorem upto_length {α : Type} (f : Nat → α) (k : Nat) : (upto f k).length = k := by simp [upto]
abbrev pairsZ (bs : List Int) (j : Nat) : Nat × Int := (j, bs[j]?.getD 0)

set_option maxRecDepth 100000 in
set_option maxHeartbeats 2000000 in
theorem sall1_inz (F : Fence) (n : Nat) (h8 : F.fn 22) (hro : F.round = none) (hn : 1 ≤ n) (R : Nat → Prop) (l Bs b len cap : Nat) (bs : List Int) (hreach : len ≤ 4096) (hRb : ¬ R b) (J Jx : List (Nat × Int) → World → Prop)
    (hY : ∀ pre x W, J pre W → pre.length < len → YieldAt F (n - 1) Try.prog l #[.int .i64 (x.1 : Int), .int .i64 x.2] W fun e W' =>
      (e = .returned (.bool true) ∧ J (pre ++ [x]) W' ∧ Keep R W W') ∨ (e = .returned (.bool false) ∧ Jx (pre ++ [x]) W'))
    (W : World) (hb : b < W.heap.size) (hBs : W.cell? ⟨Bs, 0, none⟩ = some (.slice (some ⟨b, 0, none⟩) len cap)) (hc : ∀ j, j < len → W.cell? ⟨b, 0 + j, none⟩ = some (.int .i64 (bs[j]?.getD 0))) (h0 : J [] W) :
    CallsIn F n Try.prog 22 #[.func (.yield l) #[] #[], .pointer (some ⟨Bs, 0, none⟩)] W fun e W' => (∃ v, e = .returned v) ∧
      ((∃ ys, ys = upto (pairsZ bs) len ∧ J ys W') ∨ (∃ pre, (∃ k, k ≤ len ∧ pre = upto (pairsZ bs) k) ∧ Jx pre W')) := by
  refine callsIn_of_wp Try.func22 rfl h8 ?_ hro
  simp only [Try.ntmps22, List.size_toArray, List.length_cons, List.length_nil, Nat.reduceAdd, Nat.reduceSub, Array.replicate_succ, Array.replicate_zero, List.push_toArray, List.append_toArray, List.nil_append, List.cons_append]
  gi_wp2
  gi_loopw [7] (fun i wr => ∃ k : Nat, k ≤ len ∧ i = .int .i64 k ∧ J (upto (pairsZ bs) k) wr ∧ Keep R W wr)
    (fun i _ => len - (intOf i).toNat)
  case atStart => exact ⟨0, Nat.zero_le _, rfl, h0, Keep.refl _ _⟩
  case round =>
    obtain ⟨k, hk, rfl, hJs, hnx⟩ := hrel
    have hcx : k < len → wr.cell? ⟨b, k, none⟩ = some (.int .i64 (bs[k]?.getD 0)) := fun h => (hnx.cell (p := ⟨b, k, none⟩) hb hRb).trans (by have := hc k h; rwa [Nat.zero_add] at this)
    by_cases hlt : k < len
    · obtain ⟨fn, tmps, assign, body, hy, hR⟩ := hY _ (k, bs[k]?.getD 0) wr hJs (by rw [upto_length]; exact hlt)
      dsimp only at hy
      have hcx' := hcx hlt
      gi_wp2
      refine hR.mono ?_
      rintro e W3 (⟨rfl, hJ3, hk3⟩ | ⟨rfl, hJx3⟩)
      · gi_wp2
        go_roundw
        case rel => exact ⟨k + 1, by omega, by go_num, by rw [upto_succ]; exact hJ3, hnx.trans hk3⟩
        case measure => simp [intOf]; omega
      · gi_wp2
        refine bodyPost_ret (results_none rfl _ _ _) rfl ?_
        exact ⟨⟨_, rfl⟩, .inr ⟨_, ⟨k + 1, by omega, (upto_succ _ _).symm⟩, hJx3⟩⟩
    · obtain rfl : k = len := by omega
      gi_wp2
      go_end0
      exact ⟨⟨_, rfl⟩, .inl ⟨_, rfl, hJs⟩⟩

set_option maxRecDepth 100000 in
set_option maxHeartbeats 1000000 in
theorem sall1_nil_inz (F : Fence) (n : Nat) (h8 : F.fn 22) (hro : F.round = none) (l Bs : Nat) (J : List (Nat × Int) → World → Prop) (W : World) (hBs : W.cell? ⟨Bs, 0, none⟩ = some (.slice none 0 0)) (h0 : J [] W) :
    CallsIn F n Try.prog 22 #[.func (.yield l) #[] #[], .pointer (some ⟨Bs, 0, none⟩)] W fun e W' => (∃ v, e = .returned v) ∧ J [] W' := by
  refine callsIn_of_wp Try.func22 rfl h8 ?_ hro
  simp only [Try.ntmps22, List.size_toArray, List.length_cons, List.length_nil, Nat.reduceAdd, Nat.reduceSub, Array.replicate_succ, Array.replicate_zero, List.push_toArray, List.append_toArray, List.nil_append, List.cons_append]
  gi_wp2
  gi_loopw [7] (fun i wr => i = .int .i64 0 ∧ J [] wr) (fun _ _ => 0)
  case atStart => exact ⟨rfl, h0⟩
  case round =>
    obtain ⟨rfl, hJs⟩ := hrel
    gi_wp2
    go_end0
    exact ⟨⟨_, rfl⟩, hJs⟩

set_option maxHeartbeats 1000000 in
theorem sall_inz (F : Fence) (n : Nat) (h6 : F.fn 21) (hro : F.round = none) (a : Option Addr) (len cap : Nat) (w : World) :
    CallsIn F n Try.prog 21 #[.slice a len cap] w fun e w' => e = .returned (.func (.func 22) #[] #[.pointer (some ⟨w.heap.size, 0, none⟩)]) ∧ w' = w.alloc (.cells #[.slice a len cap] 22) := by
  refine callsIn_of_wp Try.func21 rfl h6 ?_ hro
  simp only [Try.ntmps21, List.size_toArray, List.length_cons, List.length_nil, Nat.reduceAdd, Nat.reduceSub, Array.replicate_succ, Array.replicate_zero, List.push_toArray, List.append_toArray, List.nil_append, List.cons_append]
  gi_wp2
  go_ret
  exact ⟨rfl, rfl⟩

theorem sall_stopsz (F : Fence) (n : Nat) (h8 : F.fn 22) (hro : F.round = none) (hn : 1 ≤ n) (R : Nat → Prop) (Bs : Nat) (sv : Value) (bs : List Int) (hreach : bs.length ≤ 4096) (w : World) (hBs : Bs < w.heap.size)
    (hc : w.cell? ⟨Bs, 0, none⟩ = some sv) (hI : IntsAt w sv bs) (hR : ∀ k, sv.ownBlock = some k → ¬ R k) :
    SeqStopsK F n Try.prog 22 #[.pointer (some ⟨Bs, 0, none⟩)] (fun x : Nat × Int => #[Value.int .i64 (x.1 : Int), Value.int .i64 x.2]) (Keep R) (fun ys => ys = upto (pairsZ bs) bs.length)
      (fun pre => ∃ k, k ≤ bs.length ∧ pre = upto (pairsZ bs) k) bs.length w := fun l J Jx W hW _ _ hY h0 => by
  have hc' := (hW.cell (p := ⟨Bs, 0, none⟩) hBs).trans hc
  rcases hI.keep (Keep.of_below (S := fun _ => False) hW) (fun _ _ h => h) with ⟨rfl, rfl⟩ | ⟨b, cap, rfl, hb, hcs⟩
  · exact (sall1_nil_inz F n h8 hro l Bs J W hc' h0).mono fun e W' ⟨he, hj⟩ => ⟨he, .inl ⟨_, rfl, hj⟩⟩
  · exact sall1_inz F n h8 hro hn R l Bs b bs.length cap bs hreach (hR b rfl) J Jx hY W hb hc' hcs h0


/-! ### Two boxed slices, each with a row of its own -/
theorem boxed_far {w : World} {B : Nat} {t : TypeId} {v : Value} (h : Boxed w B t v) {p : Addr} (hp : B ≠ p.block) (u : Value) : Boxed (w.setCell p u) B t v := (Below.heap_setCell w p u B hp).trans h
theorem whole_news {w : World} {g : Nat} {t : TypeId} {x : Value} (h : Whole w g t #[x]) : ∀ a, (some ⟨g, 0, none⟩ : Option Addr) = some a → ∀ j u, [x][j]? = some u → w.cell? (a.add j) = some u := fun a e j u hj => by
  cases e
  cases j with
  | zero => simp at hj; subst hj; exact h.cell 0
  | succ j => simp at hj
def Two (n₀ B1 B2 : Nat) (W : World) (l1 l2 : List Int) : Prop := ∃ v1 v2, Boxed W B1 22 v1 ∧ Boxed W B2 22 v2 ∧ Owns W 3 v1 (zv l1) ∧ Owns W 3 v2 (zv l2) ∧ (∀ k, v1.ownBlock = some k → n₀ ≤ k ∧ v2.ownBlock ≠ some k) ∧ (∀ k, v2.ownBlock = some k → n₀ ≤ k)
theorem Two.by {n₀ B1 B2 : Nat} {W W' : World} {l1 l2 : List Int} (h : Two n₀ B1 B2 W l1 l2) (hb : ∀ (k : Nat) cs t z, W.heap[k]? = some (Obj.cells cs t z) → W'.heap[k]? = W.heap[k]?) : Two n₀ B1 B2 W' l1 l2 := by
  obtain ⟨v1, v2, h1, h2, o1, o2, a1, a2⟩ := h
  refine ⟨v1, v2, (hb _ _ _ _ h1).trans h1, (hb _ _ _ _ h2).trans h2, o1.by fun k e _ => ?_, o2.by fun k e _ => ?_, a1, a2⟩
  · rcases o1.2 with ⟨rfl, _⟩ | ⟨g, cap, cur, rfl, _, hgb, _⟩
    · simp [Value.ownBlock] at e
    · obtain rfl : g = k := by simpa [Value.ownBlock] using e
      exact hb _ _ _ _ hgb
  · rcases o2.2 with ⟨rfl, _⟩ | ⟨g, cap, cur, rfl, _, hgb, _⟩
    · simp [Value.ownBlock] at e
    · obtain rfl : g = k := by simpa [Value.ownBlock] using e
      exact hb _ _ _ _ hgb
theorem two_own {β : Type} (n₀ B1 B2 : Nat) (f1 f2 : β → List Int) (G : β → Prop) : Own (fun s W => Two n₀ B1 B2 W (f1 s) (f2 s) ∧ G s) := by
  rintro s X Y row ⟨h, hG⟩ hg hrow
  refine ⟨h.by fun k cs t z hk => hg.block k (Array.getElem?_eq_some_iff.1 hk).1 (fun e => ?_), hG⟩
  obtain ⟨o, ho, hc⟩ := hrow k e.symm
  rw [hk] at ho; cases ho; cases hc
theorem ownFrom_keep {β : Type} {B : Nat} {R : Nat → Prop} {w₀ : World} (hR : ∀ k, B ≤ k → R k) : OwnFrom B (fun (_ : β) W => Keep R w₀ W) := fun _ _ _ _ hs hg hr =>
  ⟨hg.os.trans hs.os, hg.tape.trans hs.tape, hg.output.trans hs.output, Nat.le_trans hs.size hg.size, fun k hk hn => (hg.block k (Nat.lt_of_lt_of_le hk hs.size) (fun e => hn (hR k (hr k e.symm).1))).trans (hs.block k hk hn)⟩
theorem keep_putObj {R : Nat → Prop} (W : World) (l : Nat) (o' : Obj) (hR : R l) : Keep R W (W.putObj l o') := by
  have hg := grownBy_putObj' W l o'
  exact ⟨hg.os, hg.tape, hg.output, hg.size, fun k hk hn => hg.block k hk (fun e => by cases e; exact hn hR)⟩
theorem keepsOthers_of {R : Nat → Prop} {W W' : World} (h : Keep R W W') (hR : ∀ k, R k → ∀ o, W.heap[k]? = some o → o.isCells = true) : KeepsOthers W W' :=
  ⟨h.size, fun k o hk ho => (h.block k (Array.getElem?_eq_some_iff.1 hk).1 (fun hr => by rw [hR k hr o hk] at ho; cases ho)).trans hk⟩

/-- What is behind both appends. -/
def Both (W W4 : World) (v1 v2 v1' v2' : Value) (l1 l2 : List Int) : Prop := Owns W4 3 v1' (zv l1) ∧ Owns W4 3 v2' (zv l2) ∧ (∀ k, v1'.ownBlock = some k → v2'.ownBlock ≠ some k) ∧ (∀ k, v1'.ownBlock = some k → v1.ownBlock = some k ∨ W.heap.size ≤ k) ∧ (∀ k, v2'.ownBlock = some k → v2.ownBlock = some k ∨ W.heap.size ≤ k) ∧ Keep (fun k => v1.ownBlock = some k ∨ v2.ownBlock = some k) W W4
/-- The first append at A, the second at C, behind it. -/
theorem both_of {W A B C D : World} {v1 v2 v1' v2' : Value} {l2 m1 m2 : List Int} (ho2 : Owns A 3 v2 (zv l2)) (hap : ∀ k, v1.ownBlock = some k → v2.ownBlock ≠ some k)
    (kA : Keep (fun _ => False) W A) (a1 : Owns B 3 v1' (zv m1)) (a2 : Keep (fun k => v1.ownBlock = some k) A B) (a3 : ∀ k, v1'.ownBlock = some k → v1.ownBlock = some k ∨ A.heap.size ≤ k)
    (kC : Keep (fun _ => False) B C) (b1 : Owns D 3 v2' (zv m2)) (b2 : Keep (fun k => v2.ownBlock = some k) C D) (b3 : ∀ k, v2'.ownBlock = some k → v2.ownBlock = some k ∨ C.heap.size ≤ k) : Both W D v1 v2 v1' v2' m1 m2 := by
  have h12 : ∀ k, v1'.ownBlock = some k → v2.ownBlock ≠ some k := fun k e e' => by
    rcases a3 k e with h | h
    · exact hap k h e'
    · have := ho2.lt e'; omega
  refine ⟨(a1.keep kC (fun _ _ h => h)).keep b2 h12, b1, fun k e e' => ?_, fun k e => ?_, fun k e => ?_, ?_⟩
  · rcases b3 k e' with h | h
    · exact h12 k e h
    · have := a1.lt e; have := kC.size; omega
  · rcases a3 k e with h | h
    · exact .inl h
    · exact .inr (Nat.le_trans kA.size h)
  · rcases b3 k e with h | h
    · exact .inl h
    · exact .inr (Nat.le_trans kA.size (Nat.le_trans a2.size (Nat.le_trans kC.size h)))
  · exact ((kA.mono (fun _ h => h.elim)).trans (a2.mono (fun _ h => .inl h))).trans ((kC.mono (fun _ h => h.elim)).trans (b2.mono (fun _ h => .inr h)))

/-! ### What pairs hands over as yield -/
/-- What one call of it leaves. -/
def After (n₀ B1 B2 : Nat) (W W' : World) (l1 l2 : List Int) (x y : Int) : Prop := Two n₀ B1 B2 W' (l1 ++ [x]) (l2 ++ [y]) ∧ Keep (fun k => k = B1 ∨ k = B2 ∨ n₀ ≤ k) W W' ∧ KeepsOthers W W'
theorem own_cells {w : World} {e : TypeId} {v : Value} {xs : List Value} (h : Owns w e v xs) {k : Nat} (hk : v.ownBlock = some k) {o : Obj} (ho : w.heap[k]? = some o) : o.isCells = true := by
  rcases h.2 with ⟨rfl, _⟩ | ⟨g, cap, cur, rfl, _, hgb, _⟩
  · simp [Value.ownBlock] at hk
  · obtain rfl : g = k := by simpa [Value.ownBlock] using hk
    rw [hgb] at ho; cases ho; rfl
theorem box_cells {w : World} {t : TypeId} {v : Value} {k : Nat} (h : Boxed w k t v) {o : Obj} (ho : w.heap[k]? = some o) : o.isCells = true := by
  rw [show w.heap[k]? = _ from h] at ho; cases ho; rfl
theorem after_of {n₀ B1 B2 : Nat} {W w4 : World} {v1 v2 v1' v2' : Value} {l1 l2 : List Int} {x y : Int} (hB1 : Boxed W B1 22 v1) (hB2 : Boxed W B2 22 v2) (x1 : Boxed w4 B1 22 v1) (x2 : Boxed w4 B2 22 v2) (o1 : Owns W 3 v1 (zv l1)) (o2 : Owns W 3 v2 (zv l2))
    (n1 : ∀ k, v1.ownBlock = some k → n₀ ≤ k) (n2 : ∀ k, v2.ownBlock = some k → n₀ ≤ k) (h12 : B1 ≠ B2) (hn : n₀ ≤ W.heap.size) (hb : Both W w4 v1 v2 v1' v2' (l1 ++ [x]) (l2 ++ [y])) :
    After n₀ B1 B2 W ((w4.setCell ⟨B1, 0, none⟩ v1').setCell ⟨B2, 0, none⟩ v2') l1 l2 x y := by
  obtain ⟨b1, b2, bap, bn1, bn2, bk⟩ := hb
  have y1 := Boxed.set v1' x1
  have y2 : Boxed (w4.setCell ⟨B1, 0, none⟩ v1') B2 22 v2 := boxed_far (p := ⟨B1, 0, none⟩) x2 (fun e => h12 e.symm) _
  have kk : Keep (fun k => (k = B1 ∨ k = B2) ∨ (v1.ownBlock = some k ∨ v2.ownBlock = some k)) W ((w4.setCell ⟨B1, 0, none⟩ v1').setCell ⟨B2, 0, none⟩ v2') := ((bk.mono (fun _ h => .inr h)).setCell (.inl (.inl (.inl rfl))) _).setCell (.inl (.inl (.inr rfl))) _
  refine ⟨⟨v1', v2', boxed_far (p := ⟨B2, 0, none⟩) y1 h12 _, Boxed.set _ y2, ?_, ?_, fun k e => ⟨?_, bap k e⟩, fun k e => ?_⟩, kk.mono ?_, keepsOthers_of kk ?_⟩
  · exact (b1.far (p := ⟨B1, 0, none⟩) (b1.notBox x1 (by decide)) _).far (p := ⟨B2, 0, none⟩) (b1.notBox x2 (by decide)) _
  · exact (b2.far (p := ⟨B1, 0, none⟩) (b2.notBox x1 (by decide)) _).far (p := ⟨B2, 0, none⟩) (b2.notBox x2 (by decide)) _
  · rcases bn1 k e with h | h
    · exact n1 k h
    · omega
  · rcases bn2 k e with h | h
    · exact n2 k h
    · omega
  · rintro k ((h | h) | (h | h))
    · exact .inl h
    · exact .inr (.inl h)
    · exact .inr (.inr (n1 k h))
    · exact .inr (.inr (n2 k h))
  · rintro k ((rfl | rfl) | (h | h)) o ho
    · exact box_cells hB1 ho
    · exact box_cells hB2 ho
    · exact own_cells o1 h ho
    · exact own_cells o2 h ho

set_option maxHeartbeats 4000000 in
set_option maxRecDepth 100000 in
theorem yield2_any (n₀ B1 B2 Bm : Nat) (m x y : Int) (l1 l2 : List Int) (W : World) (h : Two n₀ B1 B2 W l1 l2) (h12 : B1 ≠ B2) (hn : n₀ ≤ W.heap.size) (hBm : Bm ≠ B1 ∧ Bm ≠ B2 ∧ Bm < n₀) (hm : W.cell? ⟨Bm, 0, none⟩ = some (.int .i64 m)) (hl1 : l1.length ≤ 4096) (hl2 : l2.length ≤ 4096) :
    Calls Try.prog 17 #[.int .i64 x, .int .i64 y, .pointer (some ⟨B1, 0, none⟩), .pointer (some ⟨B2, 0, none⟩), .pointer (some ⟨Bm, 0, none⟩)] W fun e W' => e = .returned (.bool (decide (((l2.length + 1 : Nat) : Int) < m))) ∧ After n₀ B1 B2 W W' l1 l2 x y := by
  obtain ⟨v1, v2, b1, b2, o1, o2, a1, a2⟩ := h
  obtain ⟨q1, c1, hv1, _⟩ := o1.shape
  obtain ⟨q2, c2, hv2, _⟩ := o2.shape
  rw [len_zv] at hv1 hv2
  subst hv1 hv2
  obtain ⟨i0, hi, hz0, hz1, hz2⟩ := info_parts Try.infoInt
  have HI := Lib.hid hi; have HZ0 := Lib.hid hz0; have HZ1 := Lib.hid hz1; have HZ2 := Lib.hid hz2; clear hi hz0 hz1 hz2
  have d1 := b1.cell
  have d2 := b2.cell
  have HB1 := Lib.hid b1; have HB2 := Lib.hid b2; have HO1 := Lib.hid o1; have HO2 := Lib.hid o2
  have HAP : Hid (∀ k, (Value.slice q1 l1.length c1).ownBlock = some k → (Value.slice q2 l2.length c2).ownBlock ≠ some k) := Lib.hid (fun k e => (a1 k e).2)
  have HN1 : Hid (∀ k, (Value.slice q1 l1.length c1).ownBlock = some k → n₀ ≤ k) := Lib.hid (fun k e => (a1 k e).1)
  have HN2 := Lib.hid a2
  have HNE : Hid ((¬ (Value.slice q1 l1.length c1).ownBlock = some B1) ∧ (¬ (Value.slice q1 l1.length c1).ownBlock = some B2) ∧ (¬ (Value.slice q2 l2.length c2).ownBlock = some B1) ∧ (¬ (Value.slice q2 l2.length c2).ownBlock = some B2)) := Lib.hid ⟨o1.notBox b1 (by decide), o1.notBox b2 (by decide), o2.notBox b1 (by decide), o2.notBox b2 (by decide)⟩
  have HNE12 := Lib.hid h12; have HBM : Hid (Bm ≠ B1 ∧ Bm ≠ B2 ∧ ¬ n₀ ≤ Bm) := Lib.hid ⟨hBm.1, hBm.2.1, by omega⟩
  have HM := Lib.hid hm
  have hlt1 := b1.lt
  have hlt2 := b2.lt
  clear b1 b2 o1 o2 a1 a2 h12
  -- what S asks, behind a step that turns no more than the two rows
  have HS : Hid (∀ W', Keep (fun k => (Value.slice q1 l1.length c1).ownBlock = some k ∨ (Value.slice q2 l2.length c2).ownBlock = some k) W W' → W'.cell? ⟨B1, 0, none⟩ = some (.slice q1 l1.length c1) ∧ W'.cell? ⟨B2, 0, none⟩ = some (.slice q2 l2.length c2)) := Lib.hid (fun W' hk => ⟨(boxed_keep HB1.out hk (fun h => h.elim HNE.out.1 HNE.out.2.2.1)).cell, (boxed_keep HB2.out hk (fun h => h.elim HNE.out.2.1 HNE.out.2.2.2)).cell⟩)
  go_enter Try.func17, Try.ntmps17
  go_wp2
  refine wp_region_late (fun W => W.cell? ⟨B1, 0, none⟩ = some (.slice q1 l1.length c1) ∧ W.cell? ⟨B2, 0, none⟩ = some (.slice q2 l2.length c2)) [8, 9] (.yes 0 (.yes 1 (.yes 4 (.yes 5 (.two 2 (.two 3 (.one 6 (.one 7 (.one 8 (.one 9 .nil)))) 6 (.one 3 (.one 7 (.one 8 (.one 9 .nil))))) 6 (.one 2 (.one 3 (.one 7 (.one 8 (.one 9 .nil)))))))))) (by kernel_rfl) (by kernel_rfl) (by kernel_rfl) (by kernel_rfl) ⟨d1, d2⟩ ?_
  (repeat (refine wpSchL_yes (v := ?_) rfl (fun _ _ _ h => h) (by rfl) ?_ ?_; rotate_left; (next => (intro w hSw; (try dsimp only at hSw); obtain ⟨hS1, hS2⟩ := hSw; go_simp; (try with_reducible rfl))); (try simp only [Act.put, List.setIfInBounds_toArray, List.set_cons_zero, List.set_cons_succ])))
  have K1 : Hid (Keep (fun _ => False) W W.drew) := Lib.hid (Keep.refl _ W).drew
  have KC1 : Hid (Keep (fun k => (Value.slice q1 l1.length c1).ownBlock = some k ∨ (Value.slice q2 l2.length c2).ownBlock = some k) W W.drew) := Lib.hid (Keep.refl _ W).drew
  have O11 : Hid (Owns W.drew 3 (.slice q1 l1.length c1) (zv l1)) := Lib.hid HO1.out
  have O21 : Hid (Owns W.drew 3 (.slice q2 l2.length c2) (zv l2)) := Lib.hid HO2.out
  generalize W.drew = w1 at *
  refine wpSchL_two ?_ ?_
  · skip
    refine wpOneL_call rfl (by rfl) (fun K hK => ?_)
    go_simp
    have kz : Keep (fun _ => False) w1 (w1.alloc (.cells #[.int .i64 x] 3)) := (Keep.refl _ _).alloc _
    have wz := Whole.new w1 3 #[.int .i64 x]
    have gz : Hid (W.heap.size ≤ w1.heap.size) := Lib.hid KC1.out.size
    have kc : Keep (fun k => (Value.slice q1 l1.length c1).ownBlock = some k ∨ (Value.slice q2 l2.length c2).ownBlock = some k) W (w1.alloc (.cells #[.int .i64 x] 3)) := KC1.out.trans (kz.mono (fun _ h => h.elim))
    have sc := HS.out _ kc
    refine hK.out _ _ ?_ (fun hHeld => ?_)
    · exact fun _ => sc
    clear hK K hHeld sc
    (try simp only [Act.put, List.setIfInBounds_toArray, List.set_cons_zero, List.set_cons_succ])
    generalize hbx : w1.heap.size = sx at *
    generalize w1.alloc (.cells #[.int .i64 x] 3) = w2 at *
    clear hbx
    have KZ2 := Lib.hid kz; have Wx := Lib.hid wz; have Gx := gz; have KC2 := Lib.hid kc
    clear kz wz gz kc
    refine wpSchL_two ?_ ?_
    · skip
      refine wpOneL_call rfl (by rfl) (fun K hK => ?_)
      refine oper_append_owns (.tmp 8) (.tmp 10) 22 rfl 3 i0 (.int .i64 0) 8 Try.underlying22 HI.out HZ0.out HZ1.out HZ2.out rfl (.slice q1 l1.length c1) (zv l1) rfl (O11.out.keep KZ2.out (fun _ _ h => h)) (some ⟨sx, 0, none⟩) 1 1 [.int .i64 x] rfl rfl (fun h => (by cases h)) (whole_news Wx.out) (one_zv [x]) (by unfold maxLen; rw [len_zv]; omega) (by rw [len_zv]; omega) ?_
      intro v1' w3 ow kw nw _
      rw [app_zv] at ow
      obtain ⟨g1, d1', hv'⟩ := ow.pos (by simp)
      rw [len_zv, List.length_append, List.length_singleton] at hv'
      subst hv'
      have kc : Keep (fun k => (Value.slice q1 l1.length c1).ownBlock = some k ∨ (Value.slice q2 l2.length c2).ownBlock = some k) W w3 := KC2.out.trans (kw.mono (fun _ h => .inl h))
      have sc := HS.out _ kc
      have OW1 := Lib.hid ow; have KW1 := Lib.hid kw; have NW1 := Lib.hid nw; have KC3 := Lib.hid kc
      clear ow kw nw kc
      refine hK.out _ _ ?_ (fun hHeld => ?_)
      · exact fun _ => sc
      clear hK K hHeld sc
      (try simp only [Act.put, List.setIfInBounds_toArray, List.set_cons_zero, List.set_cons_succ])
      refine wpSchL_one ?_
      refine wpOneL_call rfl (by rfl) (fun K hK => ?_)
      go_simp
      have kz : Keep (fun _ => False) w3 (w3.alloc (.cells #[.int .i64 y] 3)) := (Keep.refl _ _).alloc _
      have wz := Whole.new w3 3 #[.int .i64 y]
      have gz : Hid (W.heap.size ≤ w3.heap.size) := Lib.hid KC3.out.size
      have kc : Keep (fun k => (Value.slice q1 l1.length c1).ownBlock = some k ∨ (Value.slice q2 l2.length c2).ownBlock = some k) W (w3.alloc (.cells #[.int .i64 y] 3)) := KC3.out.trans (kz.mono (fun _ h => h.elim))
      have sc := HS.out _ kc
      refine hK.out _ _ ?_ (fun hHeld => ?_)
      · exact fun _ => sc
      clear hK K hHeld sc
      (try simp only [Act.put, List.setIfInBounds_toArray, List.set_cons_zero, List.set_cons_succ])
      generalize hby : w3.heap.size = sy at *
      generalize w3.alloc (.cells #[.int .i64 y] 3) = w4 at *
      clear hby
      have KZ4 := Lib.hid kz; have Wy := Lib.hid wz; have Gy := gz; have KC4 := Lib.hid kc
      clear kz wz gz kc
      refine wpSchL_one ?_
      refine wpOneL_call rfl (by rfl) (fun K hK => ?_)
      refine oper_append_owns (.tmp 12) (.tmp 14) 22 rfl 3 i0 (.int .i64 0) 8 Try.underlying22 HI.out HZ0.out HZ1.out HZ2.out rfl (.slice q2 l2.length c2) (zv l2) rfl (((O21.out.keep KZ2.out (fun _ _ h => h)).keep KW1.out (fun k e e' => HAP.out k e' e)).keep KZ4.out (fun _ _ h => h)) (some ⟨sy, 0, none⟩) 1 1 [.int .i64 y] rfl rfl (fun h => (by cases h)) (whole_news Wy.out) (one_zv [y]) (by unfold maxLen; rw [len_zv]; omega) (by rw [len_zv]; omega) ?_
      intro v2' w5 ow kw nw _
      rw [app_zv] at ow
      obtain ⟨g2, d2', hv'⟩ := ow.pos (by simp)
      rw [len_zv, List.length_append, List.length_singleton] at hv'
      subst hv'
      have kc : Keep (fun k => (Value.slice q1 l1.length c1).ownBlock = some k ∨ (Value.slice q2 l2.length c2).ownBlock = some k) W w5 := KC4.out.trans (kw.mono (fun _ h => .inr h))
      have sc := HS.out _ kc
      have OW2 := Lib.hid ow; have KW2 := Lib.hid kw; have NW2 := Lib.hid nw; have KC5 := Lib.hid kc
      clear ow kw nw kc
      refine hK.out _ _ ?_ (fun hHeld => ?_)
      · exact fun _ => sc
      clear hK K hHeld sc
      (try simp only [Act.put, List.setIfInBounds_toArray, List.set_cons_zero, List.set_cons_succ])
      have HBOTH : Hid (Both W w5 (Value.slice q1 l1.length c1) (Value.slice q2 l2.length c2) (.slice (some ⟨g1, 0, none⟩) (l1.length + 1) d1') (.slice (some ⟨g2, 0, none⟩) (l2.length + 1) d2') (l1 ++ [x]) (l2 ++ [y])) := Lib.hid (both_of (O21.out.keep KZ2.out (fun _ _ h => h)) HAP.out (K1.out.trans KZ2.out) OW1.out KW1.out NW1.out ((Keep.refl (fun _ => False) _).trans KZ4.out) OW2.out KW2.out NW2.out)
      generalize w5 = w9 at *
      obtain ⟨bo1, bo2, bap, bn1, bn2, bk⟩ := HBOTH.out
      have x1 : Boxed w9 B1 22 (.slice q1 l1.length c1) := boxed_keep HB1.out bk (fun h => h.elim HNE.out.1 HNE.out.2.2.1)
      have x2 : Boxed w9 B2 22 (.slice q2 l2.length c2) := boxed_keep HB2.out bk (fun h => h.elim HNE.out.2.1 HNE.out.2.2.2)
      have xc1 := x1.cell
      have xf1 := x1.frozen
      have x3 : Boxed (w9.setCell ⟨B1, 0, none⟩ (.slice (some ⟨g1, 0, none⟩) (l1.length + 1) d1')) B2 22 (.slice q2 l2.length c2) := boxed_far (p := ⟨B1, 0, none⟩) x2 (fun e => HNE12.out e.symm) _
      have xc2 := x3.cell
      have xf2 := x3.frozen
      have X1 := Lib.hid x1; have X2 := Lib.hid x2
      clear x1 x2 x3 bo1 bo2 bap bn1 bn2 bk
      refine wpSchL_one ?_
      refine wpOneL_call rfl (by rfl) (fun K hK => ?_)
      go_simp
      refine hK.out _ _ ?_ (fun hHeld => ?_)
      · exact fun h => absurd h (by decide)
      clear hK K hHeld
      (try simp only [Act.put, List.setIfInBounds_toArray, List.set_cons_zero, List.set_cons_succ])
      refine wpSchL_one ?_
      refine wpOneL_call rfl (by rfl) (fun K hK => ?_)
      go_simp
      refine hK.out _ _ ?_ (fun hHeld => ?_)
      · exact fun h => absurd h (by decide)
      clear hK K hHeld
      (try simp only [Act.put, List.setIfInBounds_toArray, List.set_cons_zero, List.set_cons_succ])
      refine wpSchL_nil ?_
      obtain ⟨W5, hW5⟩ : ∃ W5, W5 = (w9.setCell ⟨B1, 0, none⟩ (.slice (some ⟨g1, 0, none⟩) (l1.length + 1) d1')).setCell ⟨B2, 0, none⟩ (.slice (some ⟨g2, 0, none⟩) (l2.length + 1) d2') := ⟨_, rfl⟩
      have HT : Hid (After n₀ B1 B2 W W5 l1 l2 x y) := Lib.hid (hW5 ▸ after_of HB1.out HB2.out X1.out X2.out HO1.out HO2.out HN1.out HN2.out HNE12.out hn HBOTH.out)
      have e2 : W5.cell? ⟨B2, 0, none⟩ = some (.slice (some ⟨g2, 0, none⟩) (l2.length + 1) d2') := by rw [hW5]; exact (Boxed.set _ (boxed_far (p := ⟨B1, 0, none⟩) X2.out (fun e => HNE12.out e.symm) _)).cell
      have em : W5.cell? ⟨Bm, 0, none⟩ = some (.int .i64 m) := HT.out.2.1.cell (p := ⟨Bm, 0, none⟩) (lt_of_cell HM.out) (by rintro (h | h | h); exact HBM.out.1 h; exact HBM.out.2.1 h; exact HBM.out.2.2 h) |>.trans HM.out
      rw [← hW5]
      clear hW5 xc1 xf1 xc2 xf2
      go_wp2
      go_ret
      exact ⟨by simp, HT.out⟩
    · skip
      refine wpOneL_call rfl (by rfl) (fun K hK => ?_)
      go_simp
      have kz : Keep (fun _ => False) w2 (w2.alloc (.cells #[.int .i64 y] 3)) := (Keep.refl _ _).alloc _
      have wz := Whole.new w2 3 #[.int .i64 y]
      have gz : Hid (W.heap.size ≤ w2.heap.size) := Lib.hid KC2.out.size
      have kc : Keep (fun k => (Value.slice q1 l1.length c1).ownBlock = some k ∨ (Value.slice q2 l2.length c2).ownBlock = some k) W (w2.alloc (.cells #[.int .i64 y] 3)) := KC2.out.trans (kz.mono (fun _ h => h.elim))
      have sc := HS.out _ kc
      refine hK.out _ _ ?_ (fun hHeld => ?_)
      · exact fun _ => sc
      clear hK K hHeld sc
      (try simp only [Act.put, List.setIfInBounds_toArray, List.set_cons_zero, List.set_cons_succ])
      generalize hby : w2.heap.size = sy at *
      generalize w2.alloc (.cells #[.int .i64 y] 3) = w3 at *
      clear hby
      have KZ3 := Lib.hid kz; have Wy := Lib.hid wz; have Gy := gz; have KC3 := Lib.hid kc
      clear kz wz gz kc
      refine wpSchL_one ?_
      refine wpOneL_call rfl (by rfl) (fun K hK => ?_)
      refine oper_append_owns (.tmp 8) (.tmp 10) 22 rfl 3 i0 (.int .i64 0) 8 Try.underlying22 HI.out HZ0.out HZ1.out HZ2.out rfl (.slice q1 l1.length c1) (zv l1) rfl ((O11.out.keep KZ2.out (fun _ _ h => h)).keep KZ3.out (fun _ _ h => h)) (some ⟨sx, 0, none⟩) 1 1 [.int .i64 x] rfl rfl (fun h => (by cases h)) (whole_news (Wx.out.keep KZ3.out id)) (one_zv [x]) (by unfold maxLen; rw [len_zv]; omega) (by rw [len_zv]; omega) ?_
      intro v1' w4 ow kw nw _
      rw [app_zv] at ow
      obtain ⟨g1, d1', hv'⟩ := ow.pos (by simp)
      rw [len_zv, List.length_append, List.length_singleton] at hv'
      subst hv'
      have kc : Keep (fun k => (Value.slice q1 l1.length c1).ownBlock = some k ∨ (Value.slice q2 l2.length c2).ownBlock = some k) W w4 := KC3.out.trans (kw.mono (fun _ h => .inl h))
      have sc := HS.out _ kc
      have OW1 := Lib.hid ow; have KW1 := Lib.hid kw; have NW1 := Lib.hid nw; have KC4 := Lib.hid kc
      clear ow kw nw kc
      refine hK.out _ _ ?_ (fun hHeld => ?_)
      · exact fun _ => sc
      clear hK K hHeld sc
      (try simp only [Act.put, List.setIfInBounds_toArray, List.set_cons_zero, List.set_cons_succ])
      refine wpSchL_one ?_
      refine wpOneL_call rfl (by rfl) (fun K hK => ?_)
      refine oper_append_owns (.tmp 12) (.tmp 14) 22 rfl 3 i0 (.int .i64 0) 8 Try.underlying22 HI.out HZ0.out HZ1.out HZ2.out rfl (.slice q2 l2.length c2) (zv l2) rfl (((O21.out.keep KZ2.out (fun _ _ h => h)).keep KZ3.out (fun _ _ h => h)).keep KW1.out (fun k e e' => HAP.out k e' e)) (some ⟨sy, 0, none⟩) 1 1 [.int .i64 y] rfl rfl (fun h => (by cases h)) (whole_news (Wy.out.keep KW1.out (fun e => by have := HO1.out.lt e; have := Gy.out; omega))) (one_zv [y]) (by unfold maxLen; rw [len_zv]; omega) (by rw [len_zv]; omega) ?_
      intro v2' w5 ow kw nw _
      rw [app_zv] at ow
      obtain ⟨g2, d2', hv'⟩ := ow.pos (by simp)
      rw [len_zv, List.length_append, List.length_singleton] at hv'
      subst hv'
      have kc : Keep (fun k => (Value.slice q1 l1.length c1).ownBlock = some k ∨ (Value.slice q2 l2.length c2).ownBlock = some k) W w5 := KC4.out.trans (kw.mono (fun _ h => .inr h))
      have sc := HS.out _ kc
      have OW2 := Lib.hid ow; have KW2 := Lib.hid kw; have NW2 := Lib.hid nw; have KC5 := Lib.hid kc
      clear ow kw nw kc
      refine hK.out _ _ ?_ (fun hHeld => ?_)
      · exact fun _ => sc
      clear hK K hHeld sc
      (try simp only [Act.put, List.setIfInBounds_toArray, List.set_cons_zero, List.set_cons_succ])
      have HBOTH : Hid (Both W w5 (Value.slice q1 l1.length c1) (Value.slice q2 l2.length c2) (.slice (some ⟨g1, 0, none⟩) (l1.length + 1) d1') (.slice (some ⟨g2, 0, none⟩) (l2.length + 1) d2') (l1 ++ [x]) (l2 ++ [y])) := Lib.hid (both_of ((O21.out.keep KZ2.out (fun _ _ h => h)).keep KZ3.out (fun _ _ h => h)) HAP.out ((K1.out.trans KZ2.out).trans KZ3.out) OW1.out KW1.out NW1.out (Keep.refl (fun _ => False) _) OW2.out KW2.out NW2.out)
      generalize w5 = w9 at *
      obtain ⟨bo1, bo2, bap, bn1, bn2, bk⟩ := HBOTH.out
      have x1 : Boxed w9 B1 22 (.slice q1 l1.length c1) := boxed_keep HB1.out bk (fun h => h.elim HNE.out.1 HNE.out.2.2.1)
      have x2 : Boxed w9 B2 22 (.slice q2 l2.length c2) := boxed_keep HB2.out bk (fun h => h.elim HNE.out.2.1 HNE.out.2.2.2)
      have xc1 := x1.cell
      have xf1 := x1.frozen
      have x3 : Boxed (w9.setCell ⟨B1, 0, none⟩ (.slice (some ⟨g1, 0, none⟩) (l1.length + 1) d1')) B2 22 (.slice q2 l2.length c2) := boxed_far (p := ⟨B1, 0, none⟩) x2 (fun e => HNE12.out e.symm) _
      have xc2 := x3.cell
      have xf2 := x3.frozen
      have X1 := Lib.hid x1; have X2 := Lib.hid x2
      clear x1 x2 x3 bo1 bo2 bap bn1 bn2 bk
      refine wpSchL_one ?_
      refine wpOneL_call rfl (by rfl) (fun K hK => ?_)
      go_simp
      refine hK.out _ _ ?_ (fun hHeld => ?_)
      · exact fun h => absurd h (by decide)
      clear hK K hHeld
      (try simp only [Act.put, List.setIfInBounds_toArray, List.set_cons_zero, List.set_cons_succ])
      refine wpSchL_one ?_
      refine wpOneL_call rfl (by rfl) (fun K hK => ?_)
      go_simp
      refine hK.out _ _ ?_ (fun hHeld => ?_)
      · exact fun h => absurd h (by decide)
      clear hK K hHeld
      (try simp only [Act.put, List.setIfInBounds_toArray, List.set_cons_zero, List.set_cons_succ])
      refine wpSchL_nil ?_
      obtain ⟨W5, hW5⟩ : ∃ W5, W5 = (w9.setCell ⟨B1, 0, none⟩ (.slice (some ⟨g1, 0, none⟩) (l1.length + 1) d1')).setCell ⟨B2, 0, none⟩ (.slice (some ⟨g2, 0, none⟩) (l2.length + 1) d2') := ⟨_, rfl⟩
      have HT : Hid (After n₀ B1 B2 W W5 l1 l2 x y) := Lib.hid (hW5 ▸ after_of HB1.out HB2.out X1.out X2.out HO1.out HO2.out HN1.out HN2.out HNE12.out hn HBOTH.out)
      have e2 : W5.cell? ⟨B2, 0, none⟩ = some (.slice (some ⟨g2, 0, none⟩) (l2.length + 1) d2') := by rw [hW5]; exact (Boxed.set _ (boxed_far (p := ⟨B1, 0, none⟩) X2.out (fun e => HNE12.out e.symm) _)).cell
      have em : W5.cell? ⟨Bm, 0, none⟩ = some (.int .i64 m) := HT.out.2.1.cell (p := ⟨Bm, 0, none⟩) (lt_of_cell HM.out) (by rintro (h | h | h); exact HBM.out.1 h; exact HBM.out.2.1 h; exact HBM.out.2.2 h) |>.trans HM.out
      rw [← hW5]
      clear hW5 xc1 xf1 xc2 xf2
      go_wp2
      go_ret
      exact ⟨by simp, HT.out⟩
  · skip
    refine wpOneL_call rfl (by rfl) (fun K hK => ?_)
    go_simp
    have kz : Keep (fun _ => False) w1 (w1.alloc (.cells #[.int .i64 y] 3)) := (Keep.refl _ _).alloc _
    have wz := Whole.new w1 3 #[.int .i64 y]
    have gz : Hid (W.heap.size ≤ w1.heap.size) := Lib.hid KC1.out.size
    have kc : Keep (fun k => (Value.slice q1 l1.length c1).ownBlock = some k ∨ (Value.slice q2 l2.length c2).ownBlock = some k) W (w1.alloc (.cells #[.int .i64 y] 3)) := KC1.out.trans (kz.mono (fun _ h => h.elim))
    have sc := HS.out _ kc
    refine hK.out _ _ ?_ (fun hHeld => ?_)
    · exact fun _ => sc
    clear hK K hHeld sc
    (try simp only [Act.put, List.setIfInBounds_toArray, List.set_cons_zero, List.set_cons_succ])
    generalize hby : w1.heap.size = sy at *
    generalize w1.alloc (.cells #[.int .i64 y] 3) = w2 at *
    clear hby
    have KZ2 := Lib.hid kz; have Wy := Lib.hid wz; have Gy := gz; have KC2 := Lib.hid kc
    clear kz wz gz kc
    refine wpSchL_one ?_
    refine wpOneL_call rfl (by rfl) (fun K hK => ?_)
    go_simp
    have kz : Keep (fun _ => False) w2 (w2.alloc (.cells #[.int .i64 x] 3)) := (Keep.refl _ _).alloc _
    have wz := Whole.new w2 3 #[.int .i64 x]
    have gz : Hid (W.heap.size ≤ w2.heap.size) := Lib.hid KC2.out.size
    have kc : Keep (fun k => (Value.slice q1 l1.length c1).ownBlock = some k ∨ (Value.slice q2 l2.length c2).ownBlock = some k) W (w2.alloc (.cells #[.int .i64 x] 3)) := KC2.out.trans (kz.mono (fun _ h => h.elim))
    have sc := HS.out _ kc
    refine hK.out _ _ ?_ (fun hHeld => ?_)
    · exact fun _ => sc
    clear hK K hHeld sc
    (try simp only [Act.put, List.setIfInBounds_toArray, List.set_cons_zero, List.set_cons_succ])
    generalize hbx : w2.heap.size = sx at *
    generalize w2.alloc (.cells #[.int .i64 x] 3) = w3 at *
    clear hbx
    have KZ3 := Lib.hid kz; have Wx := Lib.hid wz; have Gx := gz; have KC3 := Lib.hid kc
    clear kz wz gz kc
    refine wpSchL_one ?_
    refine wpOneL_call rfl (by rfl) (fun K hK => ?_)
    refine oper_append_owns (.tmp 8) (.tmp 10) 22 rfl 3 i0 (.int .i64 0) 8 Try.underlying22 HI.out HZ0.out HZ1.out HZ2.out rfl (.slice q1 l1.length c1) (zv l1) rfl ((O11.out.keep KZ2.out (fun _ _ h => h)).keep KZ3.out (fun _ _ h => h)) (some ⟨sx, 0, none⟩) 1 1 [.int .i64 x] rfl rfl (fun h => (by cases h)) (whole_news Wx.out) (one_zv [x]) (by unfold maxLen; rw [len_zv]; omega) (by rw [len_zv]; omega) ?_
    intro v1' w4 ow kw nw _
    rw [app_zv] at ow
    obtain ⟨g1, d1', hv'⟩ := ow.pos (by simp)
    rw [len_zv, List.length_append, List.length_singleton] at hv'
    subst hv'
    have kc : Keep (fun k => (Value.slice q1 l1.length c1).ownBlock = some k ∨ (Value.slice q2 l2.length c2).ownBlock = some k) W w4 := KC3.out.trans (kw.mono (fun _ h => .inl h))
    have sc := HS.out _ kc
    have OW1 := Lib.hid ow; have KW1 := Lib.hid kw; have NW1 := Lib.hid nw; have KC4 := Lib.hid kc
    clear ow kw nw kc
    refine hK.out _ _ ?_ (fun hHeld => ?_)
    · exact fun _ => sc
    clear hK K hHeld sc
    (try simp only [Act.put, List.setIfInBounds_toArray, List.set_cons_zero, List.set_cons_succ])
    refine wpSchL_one ?_
    refine wpOneL_call rfl (by rfl) (fun K hK => ?_)
    refine oper_append_owns (.tmp 12) (.tmp 14) 22 rfl 3 i0 (.int .i64 0) 8 Try.underlying22 HI.out HZ0.out HZ1.out HZ2.out rfl (.slice q2 l2.length c2) (zv l2) rfl (((O21.out.keep KZ2.out (fun _ _ h => h)).keep KZ3.out (fun _ _ h => h)).keep KW1.out (fun k e e' => HAP.out k e' e)) (some ⟨sy, 0, none⟩) 1 1 [.int .i64 y] rfl rfl (fun h => (by cases h)) (whole_news ((Wy.out.keep KZ3.out id).keep KW1.out (fun e => by have := HO1.out.lt e; have := Gy.out; omega))) (one_zv [y]) (by unfold maxLen; rw [len_zv]; omega) (by rw [len_zv]; omega) ?_
    intro v2' w5 ow kw nw _
    rw [app_zv] at ow
    obtain ⟨g2, d2', hv'⟩ := ow.pos (by simp)
    rw [len_zv, List.length_append, List.length_singleton] at hv'
    subst hv'
    have kc : Keep (fun k => (Value.slice q1 l1.length c1).ownBlock = some k ∨ (Value.slice q2 l2.length c2).ownBlock = some k) W w5 := KC4.out.trans (kw.mono (fun _ h => .inr h))
    have sc := HS.out _ kc
    have OW2 := Lib.hid ow; have KW2 := Lib.hid kw; have NW2 := Lib.hid nw; have KC5 := Lib.hid kc
    clear ow kw nw kc
    refine hK.out _ _ ?_ (fun hHeld => ?_)
    · exact fun _ => sc
    clear hK K hHeld sc
    (try simp only [Act.put, List.setIfInBounds_toArray, List.set_cons_zero, List.set_cons_succ])
    have HBOTH : Hid (Both W w5 (Value.slice q1 l1.length c1) (Value.slice q2 l2.length c2) (.slice (some ⟨g1, 0, none⟩) (l1.length + 1) d1') (.slice (some ⟨g2, 0, none⟩) (l2.length + 1) d2') (l1 ++ [x]) (l2 ++ [y])) := Lib.hid (both_of ((O21.out.keep KZ2.out (fun _ _ h => h)).keep KZ3.out (fun _ _ h => h)) HAP.out ((K1.out.trans KZ2.out).trans KZ3.out) OW1.out KW1.out NW1.out (Keep.refl (fun _ => False) _) OW2.out KW2.out NW2.out)
    generalize w5 = w9 at *
    obtain ⟨bo1, bo2, bap, bn1, bn2, bk⟩ := HBOTH.out
    have x1 : Boxed w9 B1 22 (.slice q1 l1.length c1) := boxed_keep HB1.out bk (fun h => h.elim HNE.out.1 HNE.out.2.2.1)
    have x2 : Boxed w9 B2 22 (.slice q2 l2.length c2) := boxed_keep HB2.out bk (fun h => h.elim HNE.out.2.1 HNE.out.2.2.2)
    have xc1 := x1.cell
    have xf1 := x1.frozen
    have x3 : Boxed (w9.setCell ⟨B1, 0, none⟩ (.slice (some ⟨g1, 0, none⟩) (l1.length + 1) d1')) B2 22 (.slice q2 l2.length c2) := boxed_far (p := ⟨B1, 0, none⟩) x2 (fun e => HNE12.out e.symm) _
    have xc2 := x3.cell
    have xf2 := x3.frozen
    have X1 := Lib.hid x1; have X2 := Lib.hid x2
    clear x1 x2 x3 bo1 bo2 bap bn1 bn2 bk
    refine wpSchL_one ?_
    refine wpOneL_call rfl (by rfl) (fun K hK => ?_)
    go_simp
    refine hK.out _ _ ?_ (fun hHeld => ?_)
    · exact fun h => absurd h (by decide)
    clear hK K hHeld
    (try simp only [Act.put, List.setIfInBounds_toArray, List.set_cons_zero, List.set_cons_succ])
    refine wpSchL_one ?_
    refine wpOneL_call rfl (by rfl) (fun K hK => ?_)
    go_simp
    refine hK.out _ _ ?_ (fun hHeld => ?_)
    · exact fun h => absurd h (by decide)
    clear hK K hHeld
    (try simp only [Act.put, List.setIfInBounds_toArray, List.set_cons_zero, List.set_cons_succ])
    refine wpSchL_nil ?_
    obtain ⟨W5, hW5⟩ : ∃ W5, W5 = (w9.setCell ⟨B1, 0, none⟩ (.slice (some ⟨g1, 0, none⟩) (l1.length + 1) d1')).setCell ⟨B2, 0, none⟩ (.slice (some ⟨g2, 0, none⟩) (l2.length + 1) d2') := ⟨_, rfl⟩
    have HT : Hid (After n₀ B1 B2 W W5 l1 l2 x y) := Lib.hid (hW5 ▸ after_of HB1.out HB2.out X1.out X2.out HO1.out HO2.out HN1.out HN2.out HNE12.out hn HBOTH.out)
    have e2 : W5.cell? ⟨B2, 0, none⟩ = some (.slice (some ⟨g2, 0, none⟩) (l2.length + 1) d2') := by rw [hW5]; exact (Boxed.set _ (boxed_far (p := ⟨B1, 0, none⟩) X2.out (fun e => HNE12.out e.symm) _)).cell
    have em : W5.cell? ⟨Bm, 0, none⟩ = some (.int .i64 m) := HT.out.2.1.cell (p := ⟨Bm, 0, none⟩) (lt_of_cell HM.out) (by rintro (h | h | h); exact HBM.out.1 h; exact HBM.out.2.1 h; exact HBM.out.2.2 h) |>.trans HM.out
    rw [← hW5]
    clear hW5 xc1 xf1 xc2 xf2
    go_wp2
    go_ret
    exact ⟨by simp, HT.out⟩
end Go.Proofs.Ytjdagojikhainaa
