/-
  canterlaw06.pairs tells the places of a ring and what is there, as two slices of its own, so many as are asked for at most. Conditions: the ring lies in memory as New makes it.
-/
import Derived.Test.YtjdagojikhainaaRingPairs
namespace Go.Proofs.Ytjdagojikhainaa
open Go.RowKit Go.Shelf

attribute [local go_sem] Oper.semAt_some

theorem Try.hnf (fn : Fn) (first cap : Array Value) (w : World) : (binOp .eql 43 (.func fn first cap) .nilFunc).run Try.prog w = .ok (.bool false) w := by kernel_rfl
theorem Try.hnf' (fn : Fn) (first cap : Array Value) (w : World) : (binOp .eql 41 (.func fn first cap) .nilFunc).run Try.prog w = .ok (.bool false) w := by kernel_rfl

theorem yield2_is (b : Bool) (n₀ B1 B2 Bm : Nat) (m x y : Int) (l1 l2 : List Int) (hb : decide (((l2.length + 1 : Nat) : Int) < m) = b) (W : World) (h : Two n₀ B1 B2 W l1 l2) (h12 : B1 ≠ B2) (hn : n₀ ≤ W.heap.size) (hBm : Bm ≠ B1 ∧ Bm ≠ B2 ∧ Bm < n₀) (hm : W.cell? ⟨Bm, 0, none⟩ = some (.int .i64 m)) (hl1 : l1.length ≤ 4096) (hl2 : l2.length ≤ 4096) :
    Calls Try.prog 17 #[.int .i64 x, .int .i64 y, .pointer (some ⟨B1, 0, none⟩), .pointer (some ⟨B2, 0, none⟩), .pointer (some ⟨Bm, 0, none⟩)] W fun e W' => e = .returned (.bool b) ∧ After n₀ B1 B2 W W' l1 l2 x y := by
  subst hb; exact yield2_any n₀ B1 B2 Bm m x y l1 l2 W h h12 hn hBm hm hl1 hl2

def fsts (pre : List (Nat × Int)) : List Int := pre.map fun p => (p.1 : Int)
def snds (pre : List (Nat × Int)) : List Int := pre.map fun p => p.2
@[simp] theorem len_fsts (pre : List (Nat × Int)) : (fsts pre).length = pre.length := List.length_map _
@[simp] theorem len_snds (pre : List (Nat × Int)) : (snds pre).length = pre.length := List.length_map _
theorem fsts_app (pre : List (Nat × Int)) (x : Nat × Int) : fsts (pre ++ [x]) = fsts pre ++ [(x.1 : Int)] := by simp [fsts]
theorem snds_app (pre : List (Nat × Int)) (x : Nat × Int) : snds (pre ++ [x]) = snds pre ++ [x.2] := by simp [snds]
/-- 0, 1, .. -/
def idx (t : Nat) : List Int := (List.range t).map fun (i : Nat) => (i : Int)
@[simp] theorem len_idx (t : Nat) : (idx t).length = t := by simp [idx]
theorem fsts_upto (l : List Int) (k : Nat) : fsts (upto (pairsZ l) k) = idx k := by simp [fsts, upto, idx, Function.comp_def]
theorem snds_upto (l : List Int) (k : Nat) (h : k ≤ l.length) : snds (upto (pairsZ l) k) = l.take k := by
  induction k with
  | zero => rfl
  | succ k ih => rw [upto_succ, snds_app, ih (by omega), take_more l (by omega)]; rfl

/-- How many are told where m at most are asked for (one at the least). -/
def toldN (l : List Int) (m : Int) : Nat := min l.length (max 1 m.toNat)
theorem toldN_le (l : List Int) (m : Int) : toldN l m ≤ l.length := Nat.min_le_left _ _

set_option maxRecDepth 100000 in
set_option maxHeartbeats 2000000 in
theorem range2_any (B1 B2 Bm Bg : Nat) (m : Int) (l : List Int) (hlen : l.length ≤ 4096) (w : World) (sv : Value) (hbox : Boxed w Bg 22 sv) (hown : Owns w 3 sv (zv l)) (hv1 : Boxed w B1 22 (.slice none 0 0)) (hv2 : Boxed w B2 22 (.slice none 0 0)) (h12 : B1 ≠ B2) (hBm : Bm ≠ B1 ∧ Bm ≠ B2) (hm : w.cell? ⟨Bm, 0, none⟩ = some (.int .i64 m)) :
    Calls Try.prog 20 #[.func (.func 17) #[] #[.pointer (some ⟨B1, 0, none⟩), .pointer (some ⟨B2, 0, none⟩), .pointer (some ⟨Bm, 0, none⟩)], .pointer (some ⟨Bg, 0, none⟩)] w fun e W' => (∃ v, e = .returned v) ∧
      Two w.heap.size B1 B2 W' (idx (toldN l m)) (l.take (toldN l m)) ∧ Keep (fun k => k = B1 ∨ k = B2 ∨ w.heap.size ≤ k) w W' := by
  have hints := hown.intsAt
  obtain ⟨a, cap, hsv⟩ := hints.shape
  have hbo1 : B1 < w.heap.size := hv1.lt
  have hbo2 : B2 < w.heap.size := hv2.lt
  have hbm : Bm < w.heap.size := lt_of_cell hm
  have hsb1 : sv.ownBlock ≠ some B1 := hown.notBox hv1 (by decide)
  have hsb2 : sv.ownBlock ≠ some B2 := hown.notBox hv2 (by decide)
  have hslt : ∀ k, sv.ownBlock = some k → k < w.heap.size := fun k e => hown.lt e
  subst hsv
  refine (callsIn_wide (n := 3)).1 ?_
  refine callsIn_of_wp_marks Try.func20 rfl trivial ?_ rfl
  have hnf := Try.hnf
  have cg := (hbox.alloc (.cells #[.func (.func 17) #[] #[.pointer (some ⟨B1, 0, none⟩), .pointer (some ⟨B2, 0, none⟩), .pointer (some ⟨Bm, 0, none⟩)]] 43)).cell
  simp only [Try.ntmps20, List.size_toArray, List.length_cons, List.length_nil, Nat.reduceAdd, Nat.reduceSub, Array.replicate_succ, Array.replicate_zero, List.push_toArray, List.append_toArray, List.nil_append, List.cons_append]
  gi_wp2_with (refine ⟨trivial, ?_⟩; gi_at_call 21; refine (sall_inz Fence.wide _ trivial rfl _ _ _ _).mono ?_; rintro e w' ⟨rfl, rfl⟩)
  obtain ⟨y, hy⟩ : ∃ y : Value, y = .func (.func 17) #[] #[.pointer (some ⟨B1, 0, none⟩), .pointer (some ⟨B2, 0, none⟩), .pointer (some ⟨Bm, 0, none⟩)] := ⟨_, rfl⟩
  clear hnf
  rw [← hy] at cg ⊢
  have bY := Boxed.new w 43 y
  have bS := Boxed.new (w.alloc (.cells #[y] 43)) 22 (.slice a l.length cap)
  rw [World.size_alloc] at bS
  obtain ⟨w0, hw0⟩ : ∃ w0, w0 = (w.alloc (.cells #[y] 43)).alloc (.cells #[.slice a l.length cap] 22) := ⟨_, rfl⟩
  have hk0 : Keep (fun _ => False) w w0 := by rw [hw0]; exact ((Keep.refl _ w).alloc _).alloc _
  have hs0 : w0.heap.size = w.heap.size + 2 := by rw [hw0]; simp
  have bY0 : Boxed w0 w.heap.size 43 y := by rw [hw0]; exact bY.alloc _
  rw [← hw0] at bS ⊢
  have hm0 : w0.cell? ⟨Bm, 0, none⟩ = some (.int .i64 m) := (hk0.cell (p := ⟨Bm, 0, none⟩) hbm id).trans hm
  obtain ⟨R, hR⟩ : ∃ R : Nat → Prop, R = fun k => k = B1 ∨ k = B2 ∨ w0.heap.size ≤ k := ⟨_, rfl⟩
  have hRw : ∀ k, w0.heap.size ≤ k → R k := fun k h => by rw [hR]; exact .inr (.inr h)
  have hRy : ¬ R w.heap.size := by rw [hR]; rintro (h | h | h) <;> omega
  have hRm : ¬ R Bm := by rw [hR]; rintro (h | h | h); exact hBm.1 h; exact hBm.2 h; omega
  have hRs : ∀ k, (Value.slice a l.length cap).ownBlock = some k → ¬ R k := fun k e => by rw [hR]; rintro (h | h | h); exact hsb1 (h ▸ e); exact hsb2 (h ▸ e); have := hslt k e; omega
  have hRk : ∀ {A B : World}, Keep (fun k => k = B1 ∨ k = B2 ∨ w0.heap.size ≤ k) A B → Keep R A B := fun h => by rw [hR]; exact h
  have hRf : ∀ {A B : World}, Keep R A B → Keep (fun k => k = B1 ∨ k = B2 ∨ w.heap.size ≤ k) A B := fun h => h.mono fun k hk => by
    rw [hR] at hk; rcases hk with h | h | h
    · exact .inl h
    · exact .inr (.inl h)
    · exact .inr (.inr (by omega))
  have hTf : ∀ {W : World} {p q : List Int}, Two w0.heap.size B1 B2 W p q → Two w.heap.size B1 B2 W p q := fun ⟨v1, v2, h1, h2, h3, h4, h5, h6⟩ => ⟨v1, v2, h1, h2, h3, h4, fun k e => ⟨by have := (h5 k e).1; omega, (h5 k e).2⟩, fun k e => by have := h6 k e; omega⟩
  refine wpIn_rangeFunc_ownG rfl (by omega) (gf := 22) (lb := #[.pointer (some ⟨w.heap.size + 1, 0, none⟩)]) rfl trivial (enters_of Try.func22 (by kernel_rfl) rfl)
    (sall_stopsz Fence.wide _ trivial rfl (by omega) R (w.heap.size + 1) _ l hlen w0 (by omega) bS.cell (hints.keep hk0 (fun _ _ h => h)) hRs) (fun h k => h.trans k) (fun W l o o' hl _ _ _ => keep_putObj W l o' (hRw l hl)) (Below.refl _ _) (fun _ => rfl)
    (fun pre W => (Two w0.heap.size B1 B2 W (fsts pre) (snds pre) ∧ (pre = [] ∨ (pre.length : Int) < m)) ∧ Keep R w0 W)
    (fun c pre W => (Two w0.heap.size B1 B2 W (fsts pre) (snds pre) ∧ (pre.length = max 1 m.toNat ∧ c = .ret)) ∧ Keep R w0 W)
    (OwnFrom.and (Own.from (two_own w0.heap.size B1 B2 fsts snds (fun pre => pre = [] ∨ (pre.length : Int) < m)) _) (ownFrom_keep hRw))
    (fun c => OwnFrom.and (Own.from (two_own w0.heap.size B1 B2 fsts snds (fun pre => pre.length = max 1 m.toNat ∧ c = .ret)) _) (ownFrom_keep hRw))
    ⟨⟨⟨_, _, boxed_keep hv1 hk0 id, boxed_keep hv2 hk0 id, Owns.nil _ _, Owns.nil _ _, fun k e => (by cases e), fun k e => (by cases e)⟩, .inl rfl⟩, Keep.refl _ _⟩
    (fun x => { tmps := #[y, .pointer (some ⟨Bg, 0, none⟩), .pointer (some ⟨w.heap.size, 0, none⟩), .int .i64 (x.1 : Int), .int .i64 x.2, y, .bool false, .slice a l.length cap, .func (.func 22) #[] #[.pointer (some ⟨w.heap.size + 1, 0, none⟩)], .int .i64 (x.1 : Int), .int .i64 x.2, undef, undef, undef, undef, undef], defers := [] }) ?assign ?body ?done ?stop
  case assign =>
    intro l x W K hK
    gi_wp2
    rw [hy] at hK
    exact hK
  case body =>
    rintro l' pre ⟨i, b⟩ W ⟨⟨hTwo, hcnt⟩, hKR⟩ hpl
    have cy := (boxed_keep bY0 hKR hRy).cell
    rw [hy] at cy
    have hle' : pre.length ≤ 4096 := by omega
    have hmW : W.cell? ⟨Bm, 0, none⟩ = some (.int .i64 m) := (hKR.cell (p := ⟨Bm, 0, none⟩) (show Bm < w0.heap.size by omega) hRm).trans hm0
    have HT := Lib.hid hTwo; have HK := Lib.hid hKR; have HM := Lib.hid hmW; have HC := Lib.hid hcnt
    have hnW := hKR.size
    clear hTwo hKR hmW hcnt bY bS bY0 hbox hown hints cg hm hm0 hv1 hv2 hk0
    by_cases hgo : ((pre.length + 1 : Nat) : Int) < m
    · have hd : decide ((((snds pre).length + 1 : Nat) : Int) < m) = true := by simpa using hgo
      gi_wp2_with (refine ⟨trivial, ?_⟩; gi_at_call 17; refine (CallsIn.inRound l' (callsIn_wide.2 (yield2_is true w0.heap.size B1 B2 Bm m i b (fsts pre) (snds pre) hd W HT.out h12 hnW ⟨hBm.1, hBm.2, by omega⟩ HM.out (by simpa using hle') (by simpa using hle')))).mono ?_; rintro e w' ⟨rfl, hA⟩)
      obtain ⟨h1, h2, h3⟩ := hA
      refine ⟨h3.from _, hRk h2, ⟨by rw [fsts_app, snds_app]; exact h1, .inr (by rw [List.length_append, List.length_singleton]; exact hgo)⟩, HK.out.trans (hRk h2)⟩
    · have hd : decide ((((snds pre).length + 1 : Nat) : Int) < m) = false := by simpa using hgo
      gi_wp2_with (refine ⟨trivial, ?_⟩; gi_at_call 17; refine (CallsIn.inRound l' (callsIn_wide.2 (yield2_is false w0.heap.size B1 B2 Bm m i b (fsts pre) (snds pre) hd W HT.out h12 hnW ⟨hBm.1, hBm.2, by omega⟩ HM.out (by simpa using hle') (by simpa using hle')))).mono ?_; rintro e w' ⟨rfl, hA⟩)
      obtain ⟨h1, h2, h3⟩ := hA
      refine ⟨h3.from _, ⟨by rw [fsts_app, snds_app]; exact h1, ?_, rfl⟩, HK.out.trans (hRk h2)⟩
      rw [List.length_append, List.length_singleton]
      rcases HC.out with h | h
      · rw [h] at hgo ⊢; simp at hgo ⊢; omega
      · omega
  case done =>
    rintro D ys W hD rfl ⟨⟨hTwo, hcnt⟩, hKR⟩ hK
    gi_wp2
    refine ⟨by simp, .inl ⟨_, _, rfl, run_takeDeferred hK, ?_⟩⟩
    have ht : toldN l m = l.length := by
      unfold toldN
      rw [upto_length] at hcnt
      rcases hcnt with h | h
      · have := congrArg List.length h; rw [upto_length] at this; rw [show l.length = 0 from this]; simp
      · omega
    rw [fsts_upto, snds_upto l l.length (Nat.le_refl _)] at hTwo
    rw [ht]
    refine ⟨_, results_none rfl _ _ _, ⟨_, rfl⟩, (hTf hTwo).by fun k cs t z hk => World.putObj_heap_other (fun e => ?_), ?_⟩
    · subst e; rw [hK] at hk; cases hk
    · exact hRf (((Keep.mono hk0 (fun _ h => h.elim)).trans hKR).trans (keep_putObj W D _ (hRw D hD)))
  case stop =>
    rintro D c pre W hD ⟨k, hk, rfl⟩ ⟨⟨hTwo, hcnt, rfl⟩, hKR⟩ hK
    gi_wp2
    refine ⟨by simp, .inl ⟨_, _, rfl, run_takeDeferred hK, ?_⟩⟩
    have ht : toldN l m = k := by
      unfold toldN
      rw [upto_length] at hcnt
      omega
    rw [fsts_upto, snds_upto l k hk] at hTwo
    rw [ht]
    refine ⟨_, results_none rfl _ _ _, ⟨_, rfl⟩, (hTf hTwo).by fun k cs t z hk => World.putObj_heap_other (fun e => ?_), ?_⟩
    · subst e; rw [hK] at hk; cases hk
    · exact hRf (((Keep.mono hk0 (fun _ h => h.elim)).trans hKR).trans (keep_putObj W D _ (hRw D hD)))

theorem Owns.rdz {w : World} {a : Option Addr} {n c : Nat} {l : List Int} (h : Owns w 3 (.slice a n c) (zv l)) : Rd .i64 w a l := by
  intro i hi
  obtain ⟨g, cap, e⟩ := h.pos (by simpa using Nat.lt_of_le_of_lt (Nat.zero_le _) hi)
  cases e
  refine ⟨g, 0, rfl, h.lt rfl, ?_⟩
  rw [Nat.zero_add, h.cell i (by simpa using hi), get_zv]; simp [hi]

theorem Rd.stays {S : Nat → Prop} {k : IntKind} {w w' : World} {a : Option Addr} {zs : List Int} (h : Rd k w a zs) (hk : Keep S w w') (hs : ∀ ad, a = some ad → ¬ S ad.block) : Rd k w' a zs := fun i hi => by
  obtain ⟨b, off, e, hlt, hc⟩ := h i hi
  exact ⟨b, off, e, Nat.lt_of_lt_of_le hlt hk.size, (hk.cell (p := ⟨b, off + i, none⟩) hlt (hs ⟨b, off, none⟩ e)).trans hc⟩
/-- What pairs leaves. -/
def Pairs (w : World) (l : List Int) (t : Nat) (e : Ending) (w' : World) : Prop := ∃ a1 c1 a2 c2, e = .returned (.tuple #[.slice a1 t c1, .slice a2 t c2]) ∧ (Rd .i64 w' a1 (idx t) ∧ ∀ ad, a1 = some ad → w.heap.size ≤ ad.block) ∧ (Rd .i64 w' a2 (l.take t) ∧ ∀ ad, a2 = some ad → w.heap.size ≤ ad.block) ∧ Keep (fun _ => False) w w'
set_option maxHeartbeats 1000000 in
set_option maxRecDepth 100000 in
theorem pairs_any (g p N : Nat) (l : List Int) (m : Int) (w : World) (h : RingAt w g p N l) :
    Calls Try.prog 11 #[.pointer (some ⟨g, 0, none⟩), .int .i64 m] w (Pairs w l (toldN l m)) := by
  unfold Pairs
  have hlen : l.length ≤ 4096 := Nat.le_trans h.len h.n
  have htl := toldN_le l m
  have hmf := Try.hmf
  have hnf := Try.hnf'
  obtain ⟨w0, hw0⟩ : ∃ w0, w0 = ((w.alloc (.cells #[.int .i64 m] 3)).alloc (.cells #[.slice none 0 0] 22)).alloc (.cells #[.slice none 0 0] 22) := ⟨_, rfl⟩
  have hk0 : Keep (fun _ => False) w w0 := by rw [hw0]; exact (((Keep.refl _ w).alloc _).alloc _).alloc _
  have hs0 : w0.heap.size = w.heap.size + 1 + 1 + 1 := by rw [hw0]; simp
  have bM : Boxed w0 w.heap.size 3 (.int .i64 m) := by rw [hw0]; exact ((Boxed.new w 3 (.int .i64 m)).alloc _).alloc _
  have b1 : Boxed w0 (w.heap.size + 1) 22 (.slice none 0 0) := by
    rw [hw0]; have := (Boxed.new (w.alloc (.cells #[.int .i64 m] 3)) 22 (.slice none 0 0)).alloc (.cells #[.slice none 0 0] 22); rwa [World.size_alloc] at this
  have b2 : Boxed w0 (w.heap.size + 1 + 1) 22 (.slice none 0 0) := by
    rw [hw0]; have := Boxed.new ((w.alloc (.cells #[.int .i64 m] 3)).alloc (.cells #[.slice none 0 0] 22)) 22 (.slice none 0 0); rwa [World.size_alloc, World.size_alloc] at this
  have HR0 := Lib.hid (h.kept hk0)
  have HM := Lib.hid bM; have HB1 := Lib.hid b1; have HB2 := Lib.hid b2; have HK0 := Lib.hid hk0
  clear h bM b1 b2 hk0
  go_enter Try.func11, Try.ntmps11
  go_wp2_with (first
    | (go_at_call 16; rw [← hw0]; (with_reducible refine (rall_any g p N l w0 HR0.out).mono ?_); rintro e w1 ⟨rfl, ht, hk1⟩; rw [hs0] at ht; have HT := Lib.hid ht; have HK1 := Lib.hid hk1; clear ht hk1)
    | (go_at_call 20; obtain ⟨sv, hsb, hso, hsn⟩ := HT.out; (with_reducible refine (range2_any (w.heap.size + 1) (w.heap.size + 1 + 1) w.heap.size (w.heap.size + 1 + 1 + 1) m l hlen w1 sv hsb hso (boxed_keep HB1.out HK1.out id) (boxed_keep HB2.out HK1.out id) (by omega) (by omega) (boxed_keep HM.out HK1.out id).cell).mono ?_); rintro e w2 ⟨⟨v2, rfl⟩, h2, k2⟩; obtain ⟨v1, v2', x1, x2, o1, o2, n1, n2⟩ := h2; obtain ⟨a1, c1, hv1, _⟩ := o1.shape; obtain ⟨a2, c2, hv2, _⟩ := o2.shape; rw [len_zv, len_idx] at hv1; rw [len_zv, List.length_take, Nat.min_eq_left htl] at hv2; subst hv1 hv2; have y1 := x1.cell; have y2 := x2.cell; have O1 := Lib.hid o1; have O2 := Lib.hid o2; have K2 := Lib.hid k2; have N12 : Hid ((∀ ad, a1 = some ad → w1.heap.size ≤ ad.block) ∧ ∀ ad, a2 = some ad → w1.heap.size ≤ ad.block) := Lib.hid ⟨fun ad e => (by subst e; exact (n1 _ rfl).1), fun ad e => (by subst e; exact n2 _ rfl)⟩; clear x1 x2 o1 o2 k2 hsb hso hsn HT n1 n2))
  go_quiet (fail)
  go_wp2
  go_ret2
  have := (HK0.out.trans HK1.out).size
  refine ⟨a1, c1, a2, c2, rfl, ⟨O1.out.rdz, fun ad e => Nat.le_trans this (N12.out.1 ad e)⟩, ⟨O2.out.rdz, fun ad e => Nat.le_trans this (N12.out.2 ad e)⟩, ((HK0.out.trans HK1.out).then K2.out (fun i h hlt => ?_)).drewN _⟩
  have := HK0.out.size
  have := HK1.out.size
  rcases h with h | h | h <;> omega
end Go.Proofs.Ytjdagojikhainaa
