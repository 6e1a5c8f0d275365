/-
  What All hands back, told to canterhelp.All's collector. Conditions: the tree lies in memory.
-/
import Derived.Test.YtfbbmpmgceghfaaRbAll
import Derived.Test.YtfbbmpmgceghfaaSchedIn
namespace Go.Proofs.Ytfbbmpmgceghfaa
open Go.RowKit Go.Shelf
set_option maxRecDepth 100000
set_option linter.unusedSimpArgs false

attribute [local go_sem] Oper.semAt_some wide_fn

theorem riseK_in (n : Nat) (p : Option Addr) (w : World) :
    CallsIn Fence.wide n Try.prog 31 #[.pointer p] w fun e w' => e = .returned (.func (.func 46) #[] #[.pointer (some ⟨w.heap.size, 0, none⟩)]) ∧ w' = w.alloc (.cells #[.pointer p] 23) := by
  refine callsIn_wide.2 ?_
  have hmf := Try.hmk
  go_enter Try.func31, Try.ntmps31
  go_wp2
  go_ret
  exact ⟨rfl, rfl⟩

def keysOf {L : List (Nat × Key)} (pre : List {x : Nat × Key // x ∈ L}) : List Key := pre.map fun x => x.1.2

theorem KeepsOthers.drewN' (W : World) : KeepsOthers W W.drew := KeepsOthers.of_grownBy (row := none) ⟨rfl, rfl, rfl, Nat.le_refl _, fun _ _ _ => rfl⟩ (fun j o e _ => by cases e)
theorem keysOf_attach (L : List (Nat × Key)) : keysOf L.attach = L.map (·.2) := by
  have e : L.attach.map (fun x => x.1.2) = (L.attach.map Subtype.val).map (·.2) := by rw [List.map_map]; rfl
  unfold keysOf
  rw [e, List.attach_map_subtype_val]

set_option maxRecDepth 100000 in
set_option maxHeartbeats 4000000 in
theorem rangek_any (n₀ Bo Bm Bg : Nat) (m : Int) {S : Nat → Prop} {g ga b cap n' tp : Nat} {mm : Nat → Nd} {L : List (Nat × Key)} {s : St} {Sa : Nat → Prop} (w : World) (hT : TreeIn w S g ga b cap n' tp mm L s Sa) (hS : ∀ k, S k → k < n₀) (hG : Boxed w Bg 23 (.pointer (some ⟨g, 0, none⟩))) (hBg : Bg < n₀)
    (hv : Boxed w Bo 22 (.slice none 0 0)) (hle : n₀ ≤ Bo) (hBm : Bm < n₀) (hm : w.cell? ⟨Bm, 0, none⟩ = some (.int .i64 m)) :
    Calls Try.prog 30 #[.func (.func 29) #[] #[.pointer (some ⟨Bo, 0, none⟩), .pointer (some ⟨Bm, 0, none⟩)], .pointer (some ⟨Bg, 0, none⟩)] w fun e W' => (∃ v, e = .returned v) ∧
      (∃ v, Boxed W' Bo 22 v ∧ W'.ownsRow n₀ 30 2 v ((L.map (·.2)).take (max 1 m.toNat)).length (flatK ((L.map (·.2)).take (max 1 m.toNat)))) ∧ Below n₀ w W' := by
  have hn₀ : n₀ ≤ w.heap.size := Nat.le_trans hle (Nat.le_of_lt hv.lt)
  have hbo : Bo < w.heap.size := hv.lt
  refine (callsIn_wide (n := 3)).1 ?_
  refine callsIn_of_wp_marks Try.func30 rfl trivial ?_ rfl
  have hnf := Try.hnk
  have cg := (hG.alloc (.cells #[.func (.func 29) #[] #[.pointer (some ⟨Bo, 0, none⟩), .pointer (some ⟨Bm, 0, none⟩)]] 44)).cell
  have HT := Lib.hid hT; clear hT
  simp only [Try.ntmps30, List.size_toArray, List.length_cons, List.length_nil, Nat.reduceAdd, Nat.reduceSub, Array.replicate_succ, Array.replicate_zero, List.push_toArray, List.append_toArray, List.nil_append, List.cons_append]
  gi_wp2_with (gi_at_call 31; refine (riseK_in _ _ _).mono ?_; rintro e w' ⟨rfl, rfl⟩)
  obtain ⟨y, hy⟩ : ∃ y : Value, y = .func (.func 29) #[] #[.pointer (some ⟨Bo, 0, none⟩), .pointer (some ⟨Bm, 0, none⟩)] := ⟨_, rfl⟩
  clear hnf
  rw [← hy] at cg ⊢
  have bY := Boxed.new w 44 y
  have bT := Boxed.new (w.alloc (.cells #[y] 44)) 23 (.pointer (some ⟨g, 0, none⟩))
  rw [World.size_alloc] at bT
  have hB0 : Below n₀ w ((w.alloc (.cells #[y] 44)).alloc (.cells #[.pointer (some ⟨g, 0, none⟩)] 23)) := ((Below.refl _ w).alloc hn₀ _).alloc (by simp; omega) _
  obtain ⟨t0, hrep⟩ := HT.out.rep
  have HREP := Lib.hid hrep
  clear hrep
  refine wpIn_rangeFunc_ownG rfl (by omega) (gf := 46) (lb := #[.pointer (some ⟨w.heap.size + 1, 0, none⟩)]) rfl trivial (enters_of Try.func46 (by kernel_rfl) rfl)
    (rise_stops _ (by omega) (w.heap.size + 1) n₀ _ hS (by simp; omega) (HT.out.below hB0 hS) bT) (fun h k => h.trans k) (fun W l o o' hl h1 h2 h3 => ⟨belowK_b (w := w) hn₀ W l o o' (by simp at hl; omega) h1 h2 h3, World.putObj_heap_other (by simp at hl; omega)⟩) (Below.refl _ _) (fun _ => rfl)
    (fun pre W => ((∃ v, Boxed W Bo 22 v ∧ W.ownsRow n₀ 30 2 v (keysOf pre).length (flatK (keysOf pre)) ∧ (keysOf pre = [] ∨ ((keysOf pre).length : Int) < m)) ∧ Boxed W w.heap.size 44 y ∧ Boxed W (w.heap.size + 1) 23 (.pointer (some ⟨g, 0, none⟩))) ∧ Below n₀ w W)
    (fun c pre W => ((∃ v, Boxed W Bo 22 v ∧ W.ownsRow n₀ 30 2 v (keysOf pre).length (flatK (keysOf pre)) ∧ (keysOf pre).length = max 1 m.toNat) ∧ c = .ret) ∧ Below n₀ w W)
    (OwnFrom.and (OwnFrom.and (Own.from (holdsRow_own n₀ Bo 22 30 2 (fun pre => (keysOf pre).length) (fun pre => flatK (keysOf pre)) (fun pre _ => keysOf pre = [] ∨ ((keysOf pre).length : Int) < m)) _) (OwnFrom.and (Own.from (boxed_own w.heap.size 44 (fun _ => y)) _) (Own.from (boxed_own (w.heap.size + 1) 23 (fun _ => (.pointer (some ⟨g, 0, none⟩)))) _))) (ownFrom_below hn₀ (by simp; omega)))
    (fun c => OwnFrom.and (OwnFrom.and (Own.from (holdsRow_own n₀ Bo 22 30 2 (fun pre => (keysOf pre).length) (fun pre => flatK (keysOf pre)) (fun pre _ => (keysOf pre).length = max 1 m.toNat)) _) (ownFrom_pure _ (fun _ => c = .ret))) (ownFrom_below hn₀ (by simp; omega)))
    ⟨⟨⟨_, (hv.alloc _).alloc _, World.ownsRow_nil _ _ _ _, .inl rfl⟩, bY.alloc _, bT⟩, hB0⟩
    (fun x => { tmps := #[y, .pointer (some ⟨Bg, 0, none⟩), .pointer (some ⟨w.heap.size, 0, none⟩), .int .i64 (x.1.1 : Int), .pointer (some ⟨g, 0, none⟩), .bool false, .bool false, y, .bool false, .bool false, .pointer (some ⟨g, 0, none⟩), .func (.func 46) #[] #[.pointer (some ⟨w.heap.size + 1, 0, none⟩)], .int .i64 (x.1.1 : Int), undef, undef, undef, undef, undef, undef, undef, undef, undef, undef, undef], defers := [] }) ?assign ?body ?done ?stop
  case assign =>
    intro l x W K hK
    gi_wp2
    rw [hy] at hK
    exact hK
  case body =>
    rintro l pre ⟨⟨i, k⟩, hxL⟩ W ⟨⟨⟨v, hv', hrow, hcnt⟩, hY, hBt⟩, hB⟩ hpl
    have cy := hY.cell
    rw [hy] at cy
    have hkl : (keysOf pre).length = pre.length := List.length_map _
    have hle' : (keysOf pre).length ≤ 4096 := by have := HT.out.n_le; omega
    have hmW : W.cell? ⟨Bm, 0, none⟩ = some (.int .i64 m) := (hB.cell (p := ⟨Bm, 0, none⟩) hBm).trans hm
    have cgW : W.cell? ⟨Bg, 0, none⟩ = some (.pointer (some ⟨g, 0, none⟩)) := (hB.cell (p := ⟨Bg, 0, none⟩) hBg).trans hG.cell
    have hnW : n₀ ≤ W.heap.size := Nat.le_trans hn₀ hB.size
    obtain ⟨q1, q2, q3⟩ := HREP.out.keyAt (i, k) hxL
    dsimp only at q1 q2 q3
    have hTW := HT.out.below hB hS
    have c1 := hTW.tr.st.cell 1
    have ca := hTW.tr.ka q3
    have cb := hTW.tr.kb q3
    rw [q1] at ca cb
    obtain ⟨hcap1, hcap2⟩ := hTW.tr.capB
    have hii : (i : Int) < (n' : Int) := by omega
    have HV := Lib.hid hv'; have HR := Lib.hid hrow; have HY := Lib.hid hY; have HB := Lib.hid hB; have HM := Lib.hid hmW; have HC := Lib.hid hcnt; have HBT := Lib.hid hBt
    have HKO : Hid (keysOf (pre ++ [⟨(i, k), hxL⟩]) = keysOf pre ++ [k]) := Lib.hid (by simp [keysOf])
    have HQ1 := Lib.hid q1
    clear hv' hrow hY hB hmW hv bY bT hB0 cg hcnt hTW q1 hBt c1 ca cb cgW cy
    obtain ⟨ka, kb⟩ := k
    have HCELLS : Hid (∀ X, Below n₀ w X → Boxed X w.heap.size 44 y → X.cell? ⟨w.heap.size, 0, none⟩ = some (.func (.func 29) #[] #[.pointer (some ⟨Bo, 0, none⟩), .pointer (some ⟨Bm, 0, none⟩)]) ∧ X.cell? ⟨Bg, 0, none⟩ = some (.pointer (some ⟨g, 0, none⟩)) ∧ X.cell? ⟨g, 1, none⟩ = some (.slice (some ⟨b, 0, none⟩) n' cap) ∧ X.cell? ⟨b, i * 6, none⟩ = some (.int .u64 ka) ∧ X.cell? ⟨b, i * 6 + 1, none⟩ = some (.int .u64 kb)) := Lib.hid (fun X hX hYX => by
      have hTX := HT.out.below hX hS
      refine ⟨by rw [← hy]; exact hYX.cell, (hX.cell (p := ⟨Bg, 0, none⟩) hBg).trans hG.cell, hTX.tr.st.cell 1, ?_, ?_⟩
      · rw [hTX.tr.ka q3, HQ1.out]
      · rw [hTX.tr.kb q3, HQ1.out])
    have HBD : Hid (Below n₀ w W.drew) := Lib.hid HB.out.drew
    by_cases hgo : (((keysOf pre).length + 1 : Nat) : Int) < m
    · have hd : decide ((((keysOf pre).length + 1 : Nat) : Int) < m) = true := by simpa using hgo
      have HYK := Lib.hid (yieldk_any n₀ Bo Bm m ⟨ka, kb⟩ v (keysOf pre) W.drew HV.out HR.out hnW hle hBm HM.out hle')
      rw [hd] at HYK
      gi_wp2
      refine wpIn_region_sch (fun X => X.cell? ⟨w.heap.size, 0, none⟩ = some (.func (.func 29) #[] #[.pointer (some ⟨Bo, 0, none⟩), .pointer (some ⟨Bm, 0, none⟩)]) ∧ X.cell? ⟨Bg, 0, none⟩ = some (.pointer (some ⟨g, 0, none⟩)) ∧ X.cell? ⟨g, 1, none⟩ = some (.slice (some ⟨b, 0, none⟩) n' cap) ∧ X.cell? ⟨b, i * 6, none⟩ = some (.int .u64 ka) ∧ X.cell? ⟨b, i * 6 + 1, none⟩ = some (.int .u64 kb)) [(true, 0), (true, 1), (true, 2), (true, 3), (true, 4), (true, 5), (true, 6), (true, 7), (true, 8), (false, 9), (true, 10)] (by kernel_rfl) (by kernel_rfl) (by kernel_rfl) (by kernel_rfl) (by kernel_rfl) (by rintro ⟨a, w, h⟩; exact h) (HCELLS.out _ HBD.out HY.out) ?_
      (repeat (refine wpSch_yes (v := ?_) rfl (fun _ _ _ h => h) (by rfl) ?_ ?_; rotate_left; (next => (intro w hSw; (try dsimp only at hSw); obtain ⟨hS1, hS2, hS3, hS4, hS5⟩ := hSw; go_simp; (try with_reducible rfl))); (try simp only [Act.put, List.setIfInBounds_toArray, List.set_cons_zero, List.set_cons_succ])))
      refine wpSch_call rfl (by rfl) (fun K hK => ?_)
      go_simp
      refine HYK.out.mono ?_
      rintro e w' ⟨rfl, hv2, hk2, hb2, hoth⟩
      have HV2 := Lib.hid hv2; have HK2 := Lib.hid ((KeepsOthers.drewN' W).trans hk2); have HB2 := Lib.hid (show Below n₀ W w' from ⟨hb2.os, hb2.tape, hb2.output, hb2.size, hb2.block⟩); have HOTH := Lib.hid (fun B t u (h : Boxed W B t u) => hoth B t u h)
      clear hv2 hk2 hb2 hoth
      refine hK.out _ _ (HCELLS.out _ (HB.out.trans HB2.out) (HOTH.out _ _ _ HY.out (by omega) (by decide))) (fun hHeld => ?_)
      clear hK K
      (try simp only [Act.put, List.setIfInBounds_toArray, List.set_cons_zero, List.set_cons_succ])
      (repeat (refine wpSch_yes (v := ?_) rfl (fun _ _ _ h => h) (by rfl) ?_ ?_; rotate_left; (next => (intro w hSw; (try dsimp only at hSw); obtain ⟨hS1, hS2, hS3, hS4, hS5⟩ := hSw; go_simp; (try with_reducible rfl))); (try simp only [Act.put, List.setIfInBounds_toArray, List.set_cons_zero, List.set_cons_succ])))
      refine wpSch_nil ?_
      obtain ⟨v2, h1, h2, _⟩ := HV2.out
      gi_wp2
      refine ⟨HK2.out.from _, ⟨HB2.out, ?_⟩, ⟨⟨v2, h1, ?_, .inr ?_⟩, HOTH.out _ _ _ HY.out (by omega) (by decide), HOTH.out _ _ _ HBT.out (by omega) (by decide)⟩, HB.out.trans HB2.out⟩
      · exact (HOTH.out _ _ _ HBT.out (by omega) (by decide)).trans HBT.out.symm
      · rw [HKO.out]; simpa using h2
      · rw [HKO.out, List.length_append, List.length_singleton]; exact hgo
    · have hd : decide ((((keysOf pre).length + 1 : Nat) : Int) < m) = false := by simpa using hgo
      have HYK := Lib.hid (yieldk_any n₀ Bo Bm m ⟨ka, kb⟩ v (keysOf pre) W.drew HV.out HR.out hnW hle hBm HM.out hle')
      rw [hd] at HYK
      gi_wp2
      refine wpIn_region_sch (fun X => X.cell? ⟨w.heap.size, 0, none⟩ = some (.func (.func 29) #[] #[.pointer (some ⟨Bo, 0, none⟩), .pointer (some ⟨Bm, 0, none⟩)]) ∧ X.cell? ⟨Bg, 0, none⟩ = some (.pointer (some ⟨g, 0, none⟩)) ∧ X.cell? ⟨g, 1, none⟩ = some (.slice (some ⟨b, 0, none⟩) n' cap) ∧ X.cell? ⟨b, i * 6, none⟩ = some (.int .u64 ka) ∧ X.cell? ⟨b, i * 6 + 1, none⟩ = some (.int .u64 kb)) [(true, 0), (true, 1), (true, 2), (true, 3), (true, 4), (true, 5), (true, 6), (true, 7), (true, 8), (false, 9), (true, 10)] (by kernel_rfl) (by kernel_rfl) (by kernel_rfl) (by kernel_rfl) (by kernel_rfl) (by rintro ⟨a, w, h⟩; exact h) (HCELLS.out _ HBD.out HY.out) ?_
      (repeat (refine wpSch_yes (v := ?_) rfl (fun _ _ _ h => h) (by rfl) ?_ ?_; rotate_left; (next => (intro w hSw; (try dsimp only at hSw); obtain ⟨hS1, hS2, hS3, hS4, hS5⟩ := hSw; go_simp; (try with_reducible rfl))); (try simp only [Act.put, List.setIfInBounds_toArray, List.set_cons_zero, List.set_cons_succ])))
      refine wpSch_call rfl (by rfl) (fun K hK => ?_)
      go_simp
      refine HYK.out.mono ?_
      rintro e w' ⟨rfl, hv2, hk2, hb2, hoth⟩
      have HV2 := Lib.hid hv2; have HK2 := Lib.hid ((KeepsOthers.drewN' W).trans hk2); have HB2 := Lib.hid (show Below n₀ W w' from ⟨hb2.os, hb2.tape, hb2.output, hb2.size, hb2.block⟩); have HOTH := Lib.hid (fun B t u (h : Boxed W B t u) => hoth B t u h)
      clear hv2 hk2 hb2 hoth
      refine hK.out _ _ (HCELLS.out _ (HB.out.trans HB2.out) (HOTH.out _ _ _ HY.out (by omega) (by decide))) (fun hHeld => ?_)
      clear hK K
      (try simp only [Act.put, List.setIfInBounds_toArray, List.set_cons_zero, List.set_cons_succ])
      (repeat (refine wpSch_yes (v := ?_) rfl (fun _ _ _ h => h) (by rfl) ?_ ?_; rotate_left; (next => (intro w hSw; (try dsimp only at hSw); obtain ⟨hS1, hS2, hS3, hS4, hS5⟩ := hSw; go_simp; (try with_reducible rfl))); (try simp only [Act.put, List.setIfInBounds_toArray, List.set_cons_zero, List.set_cons_succ])))
      refine wpSch_nil ?_
      obtain ⟨v2, h1, h2, _⟩ := HV2.out
      gi_wp2
      refine ⟨HK2.out.from _, ⟨⟨v2, h1, ?_, ?_⟩, rfl⟩, HB.out.trans HB2.out⟩
      · rw [HKO.out]; simpa using h2
      · rw [HKO.out, List.length_append, List.length_singleton]
        rcases HC.out with h | h
        · rw [h] at hgo ⊢; simp at hgo ⊢; omega
        · omega
  case done =>
    rintro D ys W hD rfl ⟨⟨⟨v, hv', hrow, hcnt⟩, hY, _⟩, hB⟩ hK
    gi_wp2
    refine ⟨by simp, .inl ⟨_, _, rfl, run_takeDeferred hK, ?_⟩⟩
    have hko : keysOf L.attach = L.map (·.2) := keysOf_attach L
    have ht : keysOf L.attach = (L.map (·.2)).take (max 1 m.toNat) := by
      rw [hko] at hcnt ⊢
      rw [List.take_of_length_le]
      rcases hcnt with h | h
      · rw [h]; simp
      · omega
    rw [ht] at hrow
    exact ⟨_, results_none rfl _ _ _, ⟨_, rfl⟩, ⟨v, (World.putObj_heap_other (by simp at hD; omega)).trans hv', ownsRow_putObj hrow _ hK rfl⟩, hB.trans (belowK_b (w := w) hn₀ W D _ _ (by simp at hD; omega) hK rfl rfl)⟩
  case stop =>
    rintro D c pre W hD hpre ⟨⟨⟨v, hv', hrow, hcnt⟩, rfl⟩, hB⟩ hK
    gi_wp2
    refine ⟨by simp, .inl ⟨_, _, rfl, run_takeDeferred hK, ?_⟩⟩
    have ht : keysOf pre = (L.map (·.2)).take (max 1 m.toNat) := by
      rw [← hcnt, ← keysOf_attach L]
      have hp : keysOf pre <+: keysOf L.attach := hpre.map _
      exact List.prefix_iff_eq_take.1 hp
    rw [ht] at hrow
    exact ⟨_, results_none rfl _ _ _, ⟨_, rfl⟩, ⟨v, (World.putObj_heap_other (by simp at hD; omega)).trans hv', ownsRow_putObj hrow _ hK rfl⟩, hB.trans (belowK_b (w := w) hn₀ W D _ _ (by simp at hD; omega) hK rfl rfl)⟩
end Go.Proofs.Ytfbbmpmgceghfaa
