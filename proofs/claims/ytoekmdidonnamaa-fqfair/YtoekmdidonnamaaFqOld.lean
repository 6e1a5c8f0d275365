/-
  Package fq: anyOld: whether there is an old flow (a range over the lists' All). Conditions: the queue lies in memory.
-/
import Derived.Test.YtoekmdidonnamaaFqAsk
namespace Go.Proofs.Ytoekmdidonnamaa
open Go.RowKit Go.Shelf
set_option maxRecDepth 100000

attribute [local go_sem] Oper.semAt_some

theorem old_none {N O : List Int} (h : ∀ y ∈ tellL N O, y.2 = true) : O = [] := by
  cases O with
  | nil => rfl
  | cons z r =>
    have := h (z, false) (mem_tell.2 (.inr ⟨rfl, List.mem_cons_self ..⟩))
    cases this
theorem old_some {N O : List Int} {q r : List (Int × Bool)} {x : Int × Bool} (h : tellL N O = q ++ x :: r) (hx : x.2 = false) : O ≠ [] := by
  have hm : x ∈ tellL N O := by rw [h]; simp
  rw [mem_tell, hx] at hm
  simp at hm
  intro e
  rw [e] at hm
  cases hm
section
variable {w w' : World} {g tg : Nat} {S : Nat → Prop} {cs : Array Value} {v : Nat → Value} {ks : List Key} {x : Qm}
set_option maxRecDepth 100000 in
set_option maxHeartbeats 2000000 in
theorem FQw.anyOld (h : FQw w g tg S cs v ks x) (hok : LsOk x.N x.O) {b : Bool} (hb : b = !x.O.isEmpty) :
    Calls Try.prog 34 #[.pointer (some ⟨g, 0, none⟩)] w fun e w' => e = .returned (.bool b) ∧ Keep (fun _ => False) w w' := by
  have HIS := Lib.hid (h.ls hok).is
  have hN := hok.len1; have hO := hok.len2
  obtain ⟨N, hNe⟩ : ∃ N, N = x.N := ⟨_, rfl⟩
  obtain ⟨O, hOe⟩ : ∃ O, O = x.O := ⟨_, rfl⟩
  rw [← hNe, ← hOe] at HIS
  rw [← hNe] at hN; rw [← hOe] at hO hb
  have HB := Lib.hid hb
  clear h hok hNe hOe hb
  obtain ⟨n, hn⟩ : ∃ n : Nat, 6 ≤ n := ⟨6, Nat.le_refl _⟩
  refine (callsIn_wide (n := n)).1 ?_
  refine callsIn_of_wp_marks Try.func34 rfl trivial ?_ rfl
  obtain ⟨w0, hw0⟩ : ∃ w0, w0 = w.alloc (.cells #[.bool false] 4) := ⟨_, rfl⟩
  have hk0 : Keep (fun _ => False) w w0 := by rw [hw0]; exact (Keep.refl _ w).alloc _
  have hs0 : w0.heap.size = w.heap.size + 1 := by rw [hw0]; simp
  have b1 : Boxed w0 w.heap.size 4 (.bool false) := by rw [hw0]; exact Boxed.new w _ _
  have H0 := Lib.hid (HIS.out.keep hk0)
  have B1 := Lib.hid b1; have K0 := Lib.hid hk0
  clear b1 hk0
  simp only [Try.ntmps34, List.size_toArray, List.length_cons, List.length_nil, Nat.reduceAdd, Nat.reduceSub, Array.replicate_succ, Array.replicate_zero, List.push_toArray, List.append_toArray, List.nil_append, List.cons_append]
  gi_wp2_with fail
  rw [← hw0]
  refine ⟨trivial, fun h => (by cases h), ?_⟩
  refine (callsIn_wide.2 (lall_is (some ⟨g, 49, none⟩) N O w0 H0.out)).mono ?_
  rintro e w1 ⟨rfl, h1, k1⟩
  rw [hs0] at h1
  have b1 := boxed_kept B1.out k1 id
  have hb1 : Below w.heap.size w w1 := (K0.out.trans k1).below (Nat.le_refl _) (fun _ h => h.elim)
  have hs1 : w.heap.size + 1 ≤ w1.heap.size := by have := k1.size; omega
  have X := Lib.hid h1
  clear hw0 H0 B1 K0 k1 h1 HIS
  gi_wp2
  refine range_law rfl (by omega) (gf := 73) (lb := #[.pointer (some ⟨w.heap.size + 1, 0, none⟩)]) rfl trivial (enters_of Try.func73 (by kernel_rfl) rfl)
    (all1_gives (n - 1) (by omega) (fun _ => False) _ N O w1 X.out hN hO id (fun _ _ => id)) (Below.refl _ _) (fun _ => rfl)
    (fun pre W => (Boxed W w.heap.size 4 (.bool false) ∧ ∀ y ∈ pre, y.2 = true) ∧ Below w.heap.size w W)
    (fun c pre W => (Boxed W w.heap.size 4 (.bool true) ∧ (c = .ret ∧ ∃ q x, pre = q ++ [x] ∧ x.2 = false)) ∧ Below w.heap.size w W)
    (OwnFrom.and (OwnFrom.and (Own.from (boxed_own _ _ (fun _ => _)) _) (ownFrom_pure _ (fun (pre : List (Int × Bool)) => ∀ y ∈ pre, y.2 = true))) (ownFrom_below (Nat.le_refl _) (by omega)))
    (fun c => OwnFrom.and (OwnFrom.and (Own.from (boxed_own _ _ (fun _ => _)) _) (ownFrom_pure _ (fun (pre : List (Int × Bool)) => c = .ret ∧ ∃ q x, pre = q ++ [x] ∧ x.2 = false))) (ownFrom_below (Nat.le_refl _) (by omega)))
    ⟨⟨b1, fun y hy => by cases hy⟩, hb1⟩
    (fun x => { tmps := #[.pointer (some ⟨g, 0, none⟩), undef, .pointer (some ⟨w.heap.size, 0, none⟩), undef, .bool x.2, .pointer (some ⟨g, 0, none⟩), .pointer (some ⟨g, 0, none⟩), .pointer (some ⟨g, 49, none⟩), .func (.func 73) #[] #[.pointer (some ⟨w.heap.size + 1, 0, none⟩)], .int .i64 x.1, .bool x.2, undef, undef], defers := [] }) ?assign ?body ?done ?stop
  case assign =>
    intro l x W K hK
    dsimp only [encL]
    gi_wp2
    exact hK
  case body =>
    rintro l pre ⟨z, f⟩ W ⟨⟨b1, hne⟩, hB⟩ _
    have c1 := b1.cell; have f1 := b1.frozen
    have HB1 := Lib.hid b1; have HBW := Lib.hid hB; have HNE := Lib.hid hne
    clear b1 hB hne
    dsimp only
    cases f with
    | false =>
      gi_wp2
      exact ⟨(KeepsOthers.setCell W _ _).from _, ⟨HB1.out.set _, rfl, _, _, rfl, rfl⟩, HBW.out.setCell (p := ⟨w.heap.size, 0, none⟩) (Nat.le_refl _) _⟩
    | true =>
      gi_wp2
      refine ⟨KeepsFrom.refl _ _, Keep.refl _ _, ⟨HB1.out, fun y hy => ?_⟩, HBW.out⟩
      rcases List.mem_append.1 hy with hy | hy
      · exact HNE.out y hy
      · rw [List.mem_singleton.1 hy]
  case stop =>
    rintro D c pre W hD ⟨k, hk, hpre⟩ ⟨⟨b1, rfl, q, x, hq, hx⟩, hB⟩ hK
    have hv : O ≠ [] := by
      refine old_some (N := N) (q := q) (r := (tellL N O).drop k) (x := x) ?_ hx
      conv => lhs; rw [← List.take_append_drop k (tellL N O), ← hpre, hq]
      simp
    have HV : Hid (b = true) := Lib.hid (by rw [HB.out]; simpa using hv)
    have q2 := (boxed_putObj (o' := .deferred none) b1 hK rfl).cell
    have HBE := Lib.hid (hB.trans (belowK_b (w := w1) (n₀ := w.heap.size) (by omega) W D _ (.deferred none) hD hK rfl rfl))
    clear b1 hB hv hx hq hpre
    gi_wp2
    refine ⟨by simp, .inl ⟨_, _, rfl, run_takeDeferred hK, ?_⟩⟩
    refine ⟨_, (by rw [results_cell1 rfl]; go_simp; rfl), ?_⟩
    exact ⟨by rw [HV.out], Keep.of_below HBE.out⟩
  case done =>
    rintro D ys W hD rfl ⟨⟨b1, hne⟩, hB⟩ hK
    have HV : Hid (b = false) := Lib.hid (by rw [HB.out, old_none hne]; rfl)
    have c2 := b1.cell; have f2 := b1.frozen
    have d2 := b1.set (.bool false)
    have hB3 := hB.setCell (p := ⟨w.heap.size, 0, none⟩) (Nat.le_refl _) (.bool false)
    have hK3 := (KeepsOthers.setCell W ⟨w.heap.size, 0, none⟩ (.bool false)).same D _ hK rfl
    have HD2 := Lib.hid d2; have HB3 := Lib.hid hB3; have HK3 := Lib.hid hK3
    clear b1 hB hne hK d2 hB3 hK3
    gi_wp2
    have d2 := HD2.out; have hB3 := HB3.out; have hK3 := HK3.out
    clear HD2 HB3 HK3
    generalize W.setCell ⟨w.heap.size, 0, none⟩ (.bool false) = W3 at *
    have q2 := (boxed_putObj (o' := .deferred none) d2 hK3 rfl).cell
    have HBE := Lib.hid (hB3.trans (belowK_b (w := w1) (n₀ := w.heap.size) (by omega) W3 D _ (.deferred none) hD hK3 rfl rfl))
    refine ⟨by simp, .inl ⟨_, _, rfl, run_takeDeferred hK3, ?_⟩⟩
    refine ⟨_, (by rw [results_cell1 rfl]; go_simp; rfl), ?_⟩
    exact ⟨by rw [HV.out], Keep.of_below HBE.out⟩
end
end Go.Proofs.Ytoekmdidonnamaa
