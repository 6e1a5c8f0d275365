/-
  What ledger's All hands back, told to canterhelp.All's collector: slices.Values of counts, the collector, both together. Conditions: those of each theorem.
-/
import Derived.Test.YtcgpoplnfkhhbaaLedAll
namespace Go.Proofs.Ytcgpoplnfkhhbaa
open Go.RowKit Go.Shelf

theorem wide_fn (f : FuncId) : Fence.wide.fn f = True := rfl
attribute [local go_sem] Oper.semAt_some wide_fn

/-- sv holds the counts cs, in a block below n₀; or it is nil and there are none. -/
def CntsAt (n₀ : Nat) (W : World) (sv : Value) (cs : List Cnt) : Prop :=
  (sv = .slice none 0 0 ∧ cs = []) ∨ ∃ b cap, sv = .slice (some ⟨b, 0, none⟩) cs.length cap ∧ b < n₀ ∧ ∀ i c j, cs[i]? = some c → j < 8 → W.cell? ⟨b, i * 8 + j, none⟩ = (cells8 c)[j]?
theorem CntsAt.below {n₀ : Nat} {A B : World} (h : Below n₀ A B) {sv : Value} {cs : List Cnt} : CntsAt n₀ A sv cs → CntsAt n₀ B sv cs
  | .inl e => .inl e
  | .inr ⟨b, cap, e, hb, hc⟩ => .inr ⟨b, cap, e, hb, fun i c j hi hj => (h.cell (p := ⟨b, i * 8 + j, none⟩) hb).trans (hc i c j hi hj)⟩
theorem CntsAt.mono {n₀ n₁ : Nat} {A : World} {sv : Value} {cs : List Cnt} (h : n₀ ≤ n₁) : CntsAt n₀ A sv cs → CntsAt n₁ A sv cs
  | .inl e => .inl e
  | .inr ⟨b, cap, e, hb, hc⟩ => .inr ⟨b, cap, e, by omega, hc⟩
theorem CntsAt.shape {n₀ : Nat} {A : World} {sv : Value} {cs : List Cnt} (h : CntsAt n₀ A sv cs) : ∃ a cap, sv = .slice a cs.length cap := by
  rcases h with ⟨rfl, rfl⟩ | ⟨b, cap, rfl, _⟩
  · exact ⟨none, 0, rfl⟩
  · exact ⟨_, cap, rfl⟩
theorem OwnsC.cntsAt {w : World} {v : Value} {cs : List Cnt} (h : OwnsC w v cs) : CntsAt w.heap.size w v cs := by
  rcases h.2 with ⟨rfl, h0⟩ | ⟨g, cap, cur, rfl, hb, hg, _⟩
  · exact .inl ⟨rfl, List.eq_nil_of_length_eq_zero h0⟩
  · refine .inr ⟨g, cap, rfl, (h.lt rfl), fun i c j hi hj => ?_⟩
    have h1 := flatC_get cs i j c hi hj
    have hjl : j < (cells8 c).length := hj
    rw [List.getElem?_eq_getElem hjl] at h1 ⊢
    have c1 := World.ownsRow.cells h (g := g) rfl _ _ h1
    rw [Go.WideShapes.add_plain] at c1
    simpa using c1
theorem take_one {α : Type} {L : List α} {k : Nat} {x : α} (h : L[k]? = some x) : L.take (k + 1) = L.take k ++ [x] := by
  obtain ⟨hk, rfl⟩ := List.getElem?_eq_some_iff.1 h
  exact List.take_succ_eq_append_getElem hk

set_option maxRecDepth 100000 in
set_option maxHeartbeats 2000000 in
theorem sval1_in (F : Fence) (n : Nat) (h8 : F.fn 26) (hro : F.round = none) (hn : 1 ≤ n) (l Bs n₀ b cap : Nat) (cs : List Cnt) (hreach : cs.length ≤ 4096) (hb : b < n₀) (J Jx : List Cnt → World → Prop) (W : World) (hnW : n₀ ≤ W.heap.size)
    (hJa : ∀ pre W1 o, J pre W1 → J pre (W1.alloc o))
    (hY : ∀ pre x W, J pre W → pre.length < cs.length → YieldAt F (n - 1) Try.prog l #[cv x] W fun e W' =>
      (e = .returned (.bool true) ∧ J (pre ++ [x]) W' ∧ Below n₀ W W') ∨ (e = .returned (.bool false) ∧ Jx (pre ++ [x]) W'))
    (hBs : W.cell? ⟨Bs, 0, none⟩ = some (.slice (some ⟨b, 0, none⟩) cs.length cap)) (hc : ∀ i c j, cs[i]? = some c → j < 8 → W.cell? ⟨b, i * 8 + j, none⟩ = (cells8 c)[j]?) (h0 : J [] W) :
    CallsIn F n Try.prog 26 #[.func (.yield l) #[] #[], .pointer (some ⟨Bs, 0, none⟩)] W fun e W' => (∃ v, e = .returned v) ∧
      ((∃ ys, ys = cs ∧ J ys W') ∨ (∃ pre, pre <+: cs ∧ Jx pre W')) := by
  refine callsIn_of_wp Try.func26 rfl h8 ?_ hro
  simp only [Try.ntmps26, List.size_toArray, List.length_cons, List.length_nil, Nat.reduceAdd, Nat.reduceSub, Array.replicate_succ, Array.replicate_zero, List.push_toArray, List.append_toArray, List.nil_append, List.cons_append]
  gi_wp2
  have HC := Lib.hid hc; clear hc
  gi_loopw [7] (fun i wr => ∃ k : Nat, k ≤ cs.length ∧ i = .int .i64 k ∧ J (cs.take k) wr ∧ Below n₀ W wr)
    (fun i _ => cs.length - (intOf i).toNat)
  case atStart => exact ⟨0, Nat.zero_le _, rfl, h0, Below.refl _ _⟩
  case round =>
    obtain ⟨k, hk, rfl, hJs, hnx⟩ := hrel
    have HNX := Lib.hid hnx; have HJS := Lib.hid hJs
    have hnr : n₀ ≤ wr.heap.size := Nat.le_trans hnW hnx.size
    by_cases hlt : k < cs.length
    · obtain ⟨c, hkc⟩ : ∃ c, cs[k]? = some c := ⟨_, List.getElem?_eq_getElem hlt⟩
      have hcx : ∀ j, j < 8 → wr.cell? ⟨b, k * 8 + j, none⟩ = (cells8 c)[j]? := fun j hj => (hnx.cell (p := ⟨b, k * 8 + j, none⟩) hb).trans (HC.out k c j hkc hj)
      have HTK := Lib.hid (take_one hkc)
      have HPR : Hid (cs.take (k + 1) <+: cs) := Lib.hid (List.take_prefix _ _)
      obtain ⟨x0, x1, x2, x3, x4, x5, x6, x7⟩ := c
      have d0 := hcx 0 (by decide); have d1 := hcx 1 (by decide); have d2 := hcx 2 (by decide); have d3 := hcx 3 (by decide); have d4 := hcx 4 (by decide); have d5 := hcx 5 (by decide); have d6 := hcx 6 (by decide); have d7 := hcx 7 (by decide)
      simp only [cells8, List.getElem?_cons_succ, List.getElem?_cons_zero, Nat.add_zero] at d0 d1 d2 d3 d4 d5 d6 d7
      have hki : (k : Int) < (cs.length : Int) := by omega
      have HBA : Hid (Below n₀ wr (wr.alloc (.cells #[.int .i64 x0, .int .i64 x1, .int .i64 x2, .int .i64 x3, .int .i64 x4, .int .i64 x5, .int .i64 x6, .int .i64 x7] 28))) := Lib.hid ((Below.refl _ _).alloc hnr _)
      obtain ⟨fn, tmps, assign, body, hy, hR⟩ := hY (cs.take k) ⟨x0, x1, x2, x3, x4, x5, x6, x7⟩ (wr.alloc (.cells #[.int .i64 x0, .int .i64 x1, .int .i64 x2, .int .i64 x3, .int .i64 x4, .int .i64 x5, .int .i64 x6, .int .i64 x7] 28)) (hJa _ _ _ hJs) (by simp; omega)
      have HR := Lib.hid hR
      unfold cv at hy
      dsimp only at hy
      clear hcx hkc hnx hJs hR
      gi_wp2
      refine HR.out.mono ?_
      rintro e W3 (⟨rfl, hJ3, hk3⟩ | ⟨rfl, hJx3⟩)
      · have HJ3 := Lib.hid hJ3; have HK3 := Lib.hid hk3; clear hJ3 hk3
        gi_wp2
        go_roundw
        case rel => exact ⟨k + 1, by omega, by go_num, by rw [HTK.out]; exact HJ3.out, HNX.out.trans (HBA.out.trans HK3.out)⟩
        case measure => simp [intOf]; omega
      · have HJX := Lib.hid hJx3; clear hJx3
        gi_wp2
        refine bodyPost_ret (results_none rfl _ _ _) rfl ?_
        exact ⟨⟨_, rfl⟩, .inr ⟨_, HPR.out, by rw [HTK.out]; exact HJX.out⟩⟩
    · obtain rfl : k = cs.length := by omega
      have HL : Hid (cs.take cs.length = cs) := Lib.hid (List.take_length)
      clear hnx hJs
      gi_wp2
      go_end0
      exact ⟨⟨_, rfl⟩, .inl ⟨_, rfl, by have := HJS.out; rwa [HL.out] at this⟩⟩

set_option maxRecDepth 100000 in
set_option maxHeartbeats 1000000 in
theorem sval1_nil_in (F : Fence) (n : Nat) (h8 : F.fn 26) (hro : F.round = none) (l Bs : Nat) (J : List Cnt → World → Prop) (W : World) (hBs : W.cell? ⟨Bs, 0, none⟩ = some (.slice none 0 0)) (h0 : J [] W) :
    CallsIn F n Try.prog 26 #[.func (.yield l) #[] #[], .pointer (some ⟨Bs, 0, none⟩)] W fun e W' => (∃ v, e = .returned v) ∧ J [] W' := by
  refine callsIn_of_wp Try.func26 rfl h8 ?_ hro
  simp only [Try.ntmps26, List.size_toArray, List.length_cons, List.length_nil, Nat.reduceAdd, Nat.reduceSub, Array.replicate_succ, Array.replicate_zero, List.push_toArray, List.append_toArray, List.nil_append, List.cons_append]
  gi_wp2
  gi_loopw [7] (fun i wr => i = .int .i64 0 ∧ J [] wr) (fun _ _ => 0)
  case atStart => exact ⟨rfl, h0⟩
  case round =>
    obtain ⟨rfl, hJs⟩ := hrel
    gi_wp2
    go_end0
    exact ⟨⟨_, rfl⟩, hJs⟩

set_option maxHeartbeats 1000000 in
theorem sval_in (F : Fence) (n : Nat) (h6 : F.fn 25) (hro : F.round = none) (a : Option Addr) (len cap : Nat) (w : World) :
    CallsIn F n Try.prog 25 #[.slice a len cap] w fun e w' => e = .returned (.func (.func 26) #[] #[.pointer (some ⟨w.heap.size, 0, none⟩)]) ∧ w' = w.alloc (.cells #[.slice a len cap] 41) := by
  refine callsIn_of_wp Try.func25 rfl h6 ?_ hro
  simp only [Try.ntmps25, List.size_toArray, List.length_cons, List.length_nil, Nat.reduceAdd, Nat.reduceSub, Array.replicate_succ, Array.replicate_zero, List.push_toArray, List.append_toArray, List.nil_append, List.cons_append]
  gi_wp2
  go_ret
  exact ⟨rfl, rfl⟩

theorem sval_stops (F : Fence) (n : Nat) (h8 : F.fn 26) (hro : F.round = none) (hn : 1 ≤ n) (Bs n₀ : Nat) (sv : Value) (cs : List Cnt) (hreach : cs.length ≤ 4096) (w : World) (hBs : Bs < w.heap.size) (hn₀ : n₀ ≤ w.heap.size)
    (hc : w.cell? ⟨Bs, 0, none⟩ = some sv) (hI : CntsAt n₀ w sv cs) :
    SeqStopsK F n Try.prog 26 #[.pointer (some ⟨Bs, 0, none⟩)] (fun x : Cnt => #[cv x]) (Below n₀) (fun ys => ys = cs)
      (fun pre => pre <+: cs) cs.length w := fun l J Jx W hW hJ _ hY h0 => by
  have hc' := (hW.cell (p := ⟨Bs, 0, none⟩) hBs).trans hc
  rcases hI.below (hW.mono hn₀) with ⟨rfl, rfl⟩ | ⟨b, cap, rfl, hb, hcs⟩
  · exact (sval1_nil_in F n h8 hro l Bs J W hc' h0).mono fun e W' ⟨he, hj⟩ => ⟨he, .inl ⟨_, rfl, hj⟩⟩
  · exact sval1_in F n h8 hro hn l Bs n₀ b cap cs hreach hb J Jx W (Nat.le_trans hn₀ hW.size) (fun pre W1 o h => hJ pre W1 _ none h (World.grownBy_alloc W1 o none) (fun r e => by cases e)) hY hc' hcs h0

set_option maxHeartbeats 400000 in
theorem yieldc_any (n₀ Bo Bm : Nat) (m : Int) (x : Cnt) (v : Value) (l : List Cnt) (W : World) (hv : Boxed W Bo 41 v) (hrow : W.ownsRow n₀ 28 8 v l.length (flatC l)) (hn₀ : n₀ ≤ W.heap.size) (hle : n₀ ≤ Bo) (hBm : Bm < n₀) (hm : W.cell? ⟨Bm, 0, none⟩ = some (.int .i64 m)) (hlen : l.length ≤ 4096) :
    Calls Try.prog 22 #[cv x, .pointer (some ⟨Bo, 0, none⟩), .pointer (some ⟨Bm, 0, none⟩)] W fun e W' => e = .returned (.bool (decide (((l.length + 1 : Nat) : Int) < m))) ∧
      (∃ v', Boxed W' Bo 41 v' ∧ W'.ownsRow n₀ 28 8 v' (l.length + 1) (flatC (l ++ [x])) ∧ v' ≠ .slice none 0 0) ∧ KeepsOthers W W' ∧ Below n₀ W W' ∧ ∀ B t u, Boxed W B t u → B ≠ Bo → t ≠ 28 → Boxed W' B t u := by
  obtain ⟨a, c, rfl⟩ : ∃ a c, v = .slice a l.length c := by
    rcases hrow.2 with ⟨rfl, h0⟩ | ⟨g, cap, cur, rfl, _⟩
    · exact ⟨none, 0, by rw [h0]⟩
    · exact ⟨_, _, rfl⟩
  obtain ⟨x0, x1, x2, x3, x4, x5, x6, x7⟩ := x
  unfold cv
  dsimp only
  obtain ⟨i0, hi, hz0, hz1, hz2⟩ := info_parts Try.infoCnt
  have HI := Lib.hid hi; have HZ0 := Lib.hid hz0; have HZ1 := Lib.hid hz1; have HZ2 := Lib.hid hz2; clear hi hz0 hz1 hz2
  obtain ⟨W1, hW1⟩ : ∃ W1, W1 = W.alloc (.cells #[.int .i64 x0, .int .i64 x1, .int .i64 x2, .int .i64 x3, .int .i64 x4, .int .i64 x5, .int .i64 x6, .int .i64 x7] 28) := ⟨_, rfl⟩
  have hv1 : Boxed W1 Bo 41 (.slice a l.length c) := by rw [hW1]; exact hv.alloc _
  have hr1 : W1.ownsRow n₀ 28 8 (.slice a l.length c) l.length (flatC l) := by rw [hW1]; exact hrow.alloc _
  have hb1 : Below n₀ W W1 := by rw [hW1]; exact (Below.refl _ _).alloc hn₀ _
  have hko : KeepsOthers W W1 := by rw [hW1]; exact KeepsOthers.alloc _ _
  have hbx : ∀ B t u, Boxed W B t u → Boxed W1 B t u := fun B t u h => by rw [hW1]; exact h.alloc _
  have hs1 : n₀ ≤ W1.heap.size := Nat.le_trans hn₀ hb1.size
  have hsz : W1.heap.size = W.heap.size + 1 := by rw [hW1]; exact World.size_alloc _ _
  have hc := hv1.cell
  have hm1 : W1.cell? ⟨Bm, 0, none⟩ = some (.int .i64 m) := (hb1.cell (p := ⟨Bm, 0, none⟩) hBm).trans hm
  have hnews := row_news W1 (cells8 ⟨x0, x1, x2, x3, x4, x5, x6, x7⟩) 28
  rw [hsz] at hnews
  have HNEWS := Lib.hid (hnews _ rfl)
  clear hnews
  have HV := Lib.hid hv1; have HROW := Lib.hid hr1; have HALL := Lib.hid (⟨hb1, hko, hbx⟩ : _ ∧ _ ∧ _)
  clear hv1 hr1 hv hrow hb1 hko hbx
  subst hW1
  go_enter Try.func22, Try.ntmps22
  go_wp2_with (at_builtin; refine wpList_append_own _ rfl _ _ 41 rfl n₀ 28 i0 _ 8 64 Try.underlying41 HI.out HZ0.out HZ1.out HZ2.out rfl (by decide) _ _ _ rfl (HROW.out.alloc _) ⟨W.heap.size + 1, 0, none⟩ 1 1 (cells8 ⟨x0, x1, x2, x3, x4, x5, x6, x7⟩) rfl rfl HNEWS.out (one_cells8 _) (by unfold maxLen; omega) (by omega) (by simp; omega) ?_; intro v' w1 hown' hgrow _; obtain ⟨g', cap', hv'⟩ := ownsRow_succ hown'; subst hv'; obtain ⟨hv1, hv2, hr2, hk2, hb2⟩ := HV.out.appended (by decide) HROW.out hs1 hle hown' hgrow; have hc1 := hv1.cell; have hf1 := hv1.frozen; have hm2 : (w1.setCell ⟨Bo, 0, none⟩ (.slice (some ⟨g', 0, none⟩) (l.length + 1) cap')).cell? ⟨Bm, 0, none⟩ = some (.int .i64 m) := (hb2.cell (p := ⟨Bm, 0, none⟩) hBm).trans hm1; have HR := Lib.hid (⟨hv2, hr2, hk2, hb2⟩ : _ ∧ _ ∧ _ ∧ _); have HG := Lib.hid hgrow; clear hown' hgrow hv1 hv2 hr2 hk2 hb2)
  go_ret
  obtain ⟨h2, h3, h4, h5⟩ := HR.out
  obtain ⟨j1, j2, j3⟩ := HALL.out
  refine ⟨by simp, ⟨_, h2, by rw [flatC_app] at h3; exact h3, by simp⟩, j2.trans h4, j1.trans h5, fun B t u hB hne ht => ?_⟩
  exact (((j3 _ _ _ hB).alloc _).kept HG.out ((j3 _ _ _ hB).not_row ht HROW.out)).other hne _
end Go.Proofs.Ytcgpoplnfkhhbaa
