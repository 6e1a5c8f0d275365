/-
  canterhelp.All of what ledger's All hands back: the counts, as a slice of its own. Conditions: those of each theorem.
-/
import Derived.Test.YtcgpoplnfkhhbaaLedRange
namespace Go.Proofs.Ytcgpoplnfkhhbaa
open Go.RowKit Go.Shelf

attribute [local go_sem] Oper.semAt_some wide_fn

theorem boxed_keep {S : Nat → Prop} {W W' : World} {B : Nat} {t : TypeId} {v : Value} (h : Boxed W B t v) (hk : Keep S W W') (hs : ¬ S B) : Boxed W' B t v := (hk.block B h.lt hs).trans h
theorem whole_own {β : Type} (B : Nat) (t : TypeId) (f : β → Array Value) : Own (fun s W => Whole W B t (f s)) := fun s X Y row hs hg hrow =>
  (hg.block B hs.lt (fun e => by obtain ⟨o, ho, hc⟩ := hrow B e.symm; rw [show X.heap[B]? = _ from hs] at ho; cases ho; cases hc)).trans hs

set_option maxRecDepth 100000 in
set_option maxHeartbeats 2000000 in
theorem rangec_any (n₀ Bo Bm Bg : Nat) (m : Int) (cs : List Cnt) (hlen : cs.length ≤ 4096) (w : World) (sv : Value) (hbox : Boxed w Bg 41 sv) (hbs : CntsAt n₀ w sv cs) (hv : Boxed w Bo 41 (.slice none 0 0)) (hle : n₀ ≤ Bo) (hBm : Bm < n₀) (hm : w.cell? ⟨Bm, 0, none⟩ = some (.int .i64 m)) :
    Calls Try.prog 24 #[.func (.func 22) #[] #[.pointer (some ⟨Bo, 0, none⟩), .pointer (some ⟨Bm, 0, none⟩)], .pointer (some ⟨Bg, 0, none⟩)] w fun e W' => (∃ v, e = .returned v) ∧
      (∃ v, Boxed W' Bo 41 v ∧ W'.ownsRow n₀ 28 8 v (cs.take (max 1 m.toNat)).length (flatC (cs.take (max 1 m.toNat)))) ∧ Below n₀ w W' := by
  obtain ⟨a, cap, rfl⟩ := hbs.shape
  have hn₀ : n₀ ≤ w.heap.size := Nat.le_trans hle (Nat.le_of_lt hv.lt)
  have hbo : Bo < w.heap.size := hv.lt
  refine (callsIn_wide (n := 3)).1 ?_
  refine callsIn_of_wp_marks Try.func24 rfl trivial ?_ rfl
  have hnf := Try.hnf
  have cg := (hbox.alloc (.cells #[.func (.func 22) #[] #[.pointer (some ⟨Bo, 0, none⟩), .pointer (some ⟨Bm, 0, none⟩)]] 39)).cell
  simp only [Try.ntmps24, List.size_toArray, List.length_cons, List.length_nil, Nat.reduceAdd, Nat.reduceSub, Array.replicate_succ, Array.replicate_zero, List.push_toArray, List.append_toArray, List.nil_append, List.cons_append]
  gi_wp2_with (gi_at_call 25; refine (sval_in Fence.wide _ trivial rfl _ _ _ _).mono ?_; rintro e w' ⟨rfl, rfl⟩)
  obtain ⟨y, hy⟩ : ∃ y : Value, y = .func (.func 22) #[] #[.pointer (some ⟨Bo, 0, none⟩), .pointer (some ⟨Bm, 0, none⟩)] := ⟨_, rfl⟩
  clear hnf
  rw [← hy] at cg ⊢
  have bY := Boxed.new w 39 y
  have bS := Boxed.new (w.alloc (.cells #[y] 39)) 41 (.slice a cs.length cap)
  rw [World.size_alloc] at bS
  have hB0 : Below n₀ w ((w.alloc (.cells #[y] 39)).alloc (.cells #[.slice a cs.length cap] 41)) := ((Below.refl _ w).alloc hn₀ _).alloc (by simp; omega) _
  refine wpIn_rangeFunc_ownH rfl (by omega) (gf := 26) (lb := #[.pointer (some ⟨w.heap.size + 1, 0, none⟩)]) rfl trivial (enters_of Try.func26 (by kernel_rfl) rfl)
    (sval_stops Fence.wide _ trivial rfl (by omega) (w.heap.size + 1) n₀ _ cs hlen _ (by simp) (by simp; omega) bS.cell (hbs.below hB0)) belowK_t (belowK_b (by simp; omega)) (Below.refl _ _) (fun _ => rfl)
    (fun pre W => ((∃ v, Boxed W Bo 41 v ∧ W.ownsRow n₀ 28 8 v pre.length (flatC pre) ∧ (pre = [] ∨ (pre.length : Int) < m)) ∧ Boxed W w.heap.size 39 y) ∧ Below n₀ w W)
    (fun c pre W => ((∃ v, Boxed W Bo 41 v ∧ W.ownsRow n₀ 28 8 v pre.length (flatC pre) ∧ pre.length = max 1 m.toNat) ∧ c = .ret) ∧ Below n₀ w W)
    (OwnFrom.and (OwnFrom.and (Own.from (holdsRow_own n₀ Bo 41 28 8 (fun pre => pre.length) (fun pre => flatC pre) (fun pre _ => pre = [] ∨ (pre.length : Int) < m)) _) (Own.from (boxed_own w.heap.size 39 (fun _ => y)) _)) (ownFrom_below hn₀ (by simp; omega)))
    (fun c => OwnFrom.and (OwnFrom.and (Own.from (holdsRow_own n₀ Bo 41 28 8 (fun pre => pre.length) (fun pre => flatC pre) (fun pre _ => pre.length = max 1 m.toNat)) _) (ownFrom_pure _ (fun _ => c = .ret))) (ownFrom_below hn₀ (by simp; omega)))
    ⟨⟨⟨_, (hv.alloc _).alloc _, World.ownsRow_nil _ _ _ _, .inl rfl⟩, bY.alloc _⟩, hB0⟩
    (fun x a' W => ∃ B, a' = { tmps := #[y, .pointer (some ⟨Bg, 0, none⟩), .pointer (some ⟨w.heap.size, 0, none⟩), .pointer (some ⟨B, 0, none⟩), y, .bool false, .slice a cs.length cap, .func (.func 26) #[] #[.pointer (some ⟨w.heap.size + 1, 0, none⟩)], cv x, undef, undef, undef, undef], defers := [] } ∧ Whole W B 28 (cells8 x).toArray)
    (fun x a' => fun s X Y row ⟨B, e, hW⟩ hg hr => ⟨B, e, (whole_own (β := Unit) B 28 (fun _ => (cells8 x).toArray)) s X Y row hW hg (fun r e => (hr r e).2)⟩) ?assign ?body ?done ?stop
  case assign =>
    rintro l pre ⟨x0, x1, x2, x3, x4, x5, x6, x7⟩ W K ⟨⟨⟨v, hv', hrow, hcnt⟩, hY⟩, hB⟩ hK
    have HKK := Lib.hid (hK { tmps := #[y, .pointer (some ⟨Bg, 0, none⟩), .pointer (some ⟨w.heap.size, 0, none⟩), .pointer (some ⟨W.heap.size, 0, none⟩), y, .bool false, .slice a cs.length cap, .func (.func 26) #[] #[.pointer (some ⟨w.heap.size + 1, 0, none⟩)], cv ⟨x0, x1, x2, x3, x4, x5, x6, x7⟩, undef, undef, undef, undef], defers := [] } (W.alloc (.cells (cells8 ⟨x0, x1, x2, x3, x4, x5, x6, x7⟩).toArray 28)) ((KeepsOthers.alloc _ _).from _) ((Below.refl _ _).alloc (Nat.le_trans hn₀ hB.size) _) ⟨⟨⟨v, hv'.alloc _, hrow.alloc _, hcnt⟩, hY.alloc _⟩, hB.alloc (Nat.le_trans hn₀ hB.size) _⟩ ⟨_, rfl, Whole.new _ _ _⟩)
    unfold cv at *
    unfold cells8 at *
    dsimp only at *
    clear hK hv' hrow hcnt hY hB
    gi_wp2
    rw [hy] at HKK
    exact HKK.out
  case body =>
    rintro l pre ⟨x0, x1, x2, x3, x4, x5, x6, x7⟩ _ W _ _ ⟨⟨⟨v, hv', hrow, hcnt⟩, hY⟩, hB⟩ ⟨B, rfl, hW⟩ hpl
    have cy := hY.cell
    rw [hy] at cy
    have hle' : pre.length ≤ 4096 := by omega
    have hmW : W.cell? ⟨Bm, 0, none⟩ = some (.int .i64 m) := (hB.cell (p := ⟨Bm, 0, none⟩) hBm).trans hm
    have hnW : n₀ ≤ W.heap.size := Nat.le_trans hn₀ hB.size
    have d0 := hW.cell 0; have d1 := hW.cell 1; have d2 := hW.cell 2; have d3 := hW.cell 3; have d4 := hW.cell 4; have d5 := hW.cell 5; have d6 := hW.cell 6; have d7 := hW.cell 7
    simp only [cells8, List.getElem?_toArray, List.getElem?_cons_succ, List.getElem?_cons_zero] at d0 d1 d2 d3 d4 d5 d6 d7
    have HV := Lib.hid hv'; have HR := Lib.hid hrow; have HY := Lib.hid hY; have HB := Lib.hid hB; have HM := Lib.hid hmW; have HC := Lib.hid hcnt
    have HYY := Lib.hid (yieldc_any n₀ Bo Bm m ⟨x0, x1, x2, x3, x4, x5, x6, x7⟩ v pre W hv' hrow hnW hle hBm hmW hle')
    unfold cv at HYY ⊢
    dsimp only at HYY ⊢
    clear hv' hrow hY hB hmW hv bY bS hB0 hbs hbox cg hcnt hW
    by_cases hgo : ((pre.length + 1 : Nat) : Int) < m
    · have hd : decide (((pre.length + 1 : Nat) : Int) < m) = true := by simpa using hgo
      rw [hd] at HYY
      gi_wp2_with (gi_at_call 22; refine (CallsIn.inRound l (callsIn_wide.2 HYY.out)).mono ?_; rintro e w' ⟨rfl, hv2, hk2, hb2, hoth⟩; have HV2 := Lib.hid hv2; have HK2 := Lib.hid hk2; have HB2 := Lib.hid hb2; have HOTH := Lib.hid hoth; clear hv2 hk2 hb2 hoth)
      obtain ⟨v2, h1, h2, _⟩ := HV2.out
      refine ⟨HK2.out.from _, HB2.out, ⟨⟨v2, h1, by rw [List.length_append, List.length_singleton]; exact h2, .inr ?_⟩, HOTH.out _ _ _ HY.out (by omega) (by decide)⟩, HB.out.trans HB2.out⟩
      rw [List.length_append, List.length_singleton]; exact hgo
    · have hd : decide (((pre.length + 1 : Nat) : Int) < m) = false := by simpa using hgo
      rw [hd] at HYY
      gi_wp2_with (gi_at_call 22; refine (CallsIn.inRound l (callsIn_wide.2 HYY.out)).mono ?_; rintro e w' ⟨rfl, hv2, hk2, hb2, hoth⟩; have HV2 := Lib.hid hv2; have HK2 := Lib.hid hk2; have HB2 := Lib.hid hb2; have HOTH := Lib.hid hoth; clear hv2 hk2 hb2 hoth)
      obtain ⟨v2, h1, h2, _⟩ := HV2.out
      refine ⟨HK2.out.from _, ⟨⟨v2, h1, by rw [List.length_append, List.length_singleton]; exact h2, ?_⟩, rfl⟩, HB.out.trans HB2.out⟩
      rw [List.length_append, List.length_singleton]
      rcases HC.out with h | h
      · rw [h] at hgo ⊢; simp at hgo ⊢; omega
      · omega
  case done =>
    rintro D ys W hD rfl ⟨⟨⟨v, hv', hrow, hcnt⟩, hY⟩, hB⟩ hK
    gi_wp2
    refine ⟨by simp, .inl ⟨_, _, rfl, run_takeDeferred hK, ?_⟩⟩
    have ht : ys.take (max 1 m.toNat) = ys := by
      rw [List.take_of_length_le]
      rcases hcnt with h | h
      · rw [h]; simp
      · omega
    rw [ht]
    exact ⟨_, results_none rfl _ _ _, ⟨_, rfl⟩, ⟨v, (World.putObj_heap_other (by simp at hD; omega)).trans hv', ownsRow_putObj hrow _ hK rfl⟩, hB.trans (belowK_b (w := w) hn₀ W D _ _ (by simp at hD; omega) hK rfl rfl)⟩
  case stop =>
    rintro D c pre W hD hpre ⟨⟨⟨v, hv', hrow, hcnt⟩, rfl⟩, hB⟩ hK
    gi_wp2
    refine ⟨by simp, .inl ⟨_, _, rfl, run_takeDeferred hK, ?_⟩⟩
    have ht : pre = cs.take (max 1 m.toNat) := by
      rw [← hcnt]
      exact List.prefix_iff_eq_take.1 hpre
    rw [ht] at hrow
    exact ⟨_, results_none rfl _ _ _, ⟨_, rfl⟩, ⟨v, (World.putObj_heap_other (by simp at hD; omega)).trans hv', ownsRow_putObj hrow _ hK rfl⟩, hB.trans (belowK_b (w := w) hn₀ W D _ _ (by simp at hD; omega) hK rfl rfl)⟩

theorem ownsC_of_row {w : World} {base : Nat} {v : Value} {cs : List Cnt} (h : w.ownsRow base 28 8 v cs.length (flatC cs)) : OwnsC w v cs := by
  unfold OwnsC
  rcases h.2 with h2 | ⟨g, cap, cur, e, _, r⟩
  · exact ⟨h.1, .inl h2⟩
  · exact ⟨h.1, .inr ⟨g, cap, cur, e, Nat.zero_le _, r⟩⟩

set_option maxHeartbeats 1000000 in
/-- canterhelp.All of what All has handed back. -/
theorem hallc_any {n₀ : Nat} (Bg : Nat) (m : Int) (cs : List Cnt) (hlen : cs.length ≤ 4096) (w : World) (hT : TellsC n₀ w Bg cs) :
    Calls Try.prog 14 #[.func (.func 24) #[] #[.pointer (some ⟨Bg, 0, none⟩)], .int .i64 m] w fun e w' =>
      ∃ v, e = .returned v ∧ OwnsC w' v (cs.take (max 1 m.toNat)) ∧ (∀ k, v.ownBlock = some k → w.heap.size ≤ k) ∧ Keep (fun _ => False) w w' := by
  have hmf := Try.hmf
  have hnf := Try.hnf'
  obtain ⟨sv, hbox, hbs, _⟩ := hT
  have hB0 : Below w.heap.size w ((w.alloc (.cells #[.int .i64 m] 3)).alloc (.cells #[.slice none 0 0] 41)) := ((Below.refl _ w).alloc (Nat.le_refl _) _).alloc (by simp) _
  have bM := (Boxed.new w 3 (.int .i64 m)).alloc (.cells #[.slice none 0 0] 41)
  have bO := Boxed.new (w.alloc (.cells #[.int .i64 m] 3)) 41 (.slice none 0 0)
  rw [World.size_alloc] at bO
  have HBX := Lib.hid ((hbox.alloc (.cells #[.int .i64 m] 3)).alloc (.cells #[.slice none 0 0] 41))
  have HT : Hid (CntsAt (w.heap.size + 1) ((w.alloc (.cells #[.int .i64 m] 3)).alloc (.cells #[.slice none 0 0] 41)) sv cs) := Lib.hid ((hbs.cntsAt.below hB0).mono (by omega))
  have HO := Lib.hid bO; have HM := Lib.hid bM.cell; have HB0 := Lib.hid hB0
  have hran := rangec_any (w.heap.size + 1) (w.heap.size + 1) w.heap.size Bg m cs hlen _ sv HBX.out HT.out HO.out (Nat.le_refl _) (by omega) HM.out
  obtain ⟨told, htold⟩ : ∃ told, told = cs.take (max 1 m.toNat) := ⟨_, rfl⟩
  rw [← htold] at hran ⊢
  have HRAN := Lib.hid hran
  clear hbox hbs hB0 bM bO hran htold
  go_enter Try.func14, Try.ntmps14
  go_wp2_with (go_at_call 24; (with_reducible refine HRAN.out.mono ?_); rintro e w1 ⟨⟨v, rfl⟩, ⟨v', hb, hr⟩, hbel⟩; have hc := hb.cell; have ho := ownsC_of_row hr; obtain ⟨a', c', hv', _⟩ := ho.shape; subst hv'; have HR := Lib.hid hr; have HO1 := Lib.hid ho; have HBEL := Lib.hid hbel; clear hb hr hbel ho)
  go_ret
  refine ⟨_, rfl, HO1.out, fun k hk => by have := (HR.out.lt k hk).1; omega, Keep.of_below (HB0.out.trans (HBEL.out.mono (by omega)))⟩
end Go.Proofs.Ytcgpoplnfkhhbaa
