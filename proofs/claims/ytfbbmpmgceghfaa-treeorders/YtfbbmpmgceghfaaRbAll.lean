/-
  All hands back a function that tells the keys of a tree, rising, till it is told to stop; canterhelp.All collects what it tells. Conditions: the tree lies in memory, or is nil.
-/
import Derived.Test.YtfbbmpmgceghfaaRbRise
namespace Go.Proofs.Ytfbbmpmgceghfaa
open Go.RowKit Go.Shelf
set_option maxRecDepth 100000
set_option linter.unusedSimpArgs false

attribute [local go_sem] Oper.semAt_some

def kcells (k : Key) : List Value := [.int .u64 k.a, .int .u64 k.b]
def flatK : List Key → List Value
  | [] => []
  | k :: ks => kcells k ++ flatK ks
theorem flatK_len : ∀ ks, (flatK ks).length = ks.length * 2
  | [] => rfl
  | k :: ks => by rw [flatK, List.length_append, flatK_len ks]; simp [kcells]; omega
theorem flatK_app (ks : List Key) (k : Key) : flatK ks ++ kcells k = flatK (ks ++ [k]) := by
  induction ks with
  | nil => rfl
  | cons a ks ih => rw [flatK, List.append_assoc, ih]; rfl
theorem flatK_append (A B : List Key) : flatK (A ++ B) = flatK A ++ flatK B := by
  induction A with
  | nil => rfl
  | cons a A ih => rw [List.cons_append, flatK, flatK, ih, List.append_assoc]
theorem one_kcells (k : Key) : ∀ u ∈ kcells k, u.oneCell' = true := fun u hu => by
  simp only [kcells, List.mem_cons, List.not_mem_nil, or_false] at hu
  rcases hu with rfl | rfl <;> rfl
theorem one_flatK : ∀ ks : List Key, ∀ u ∈ flatK ks, u.oneCell' = true
  | [], u, hu => by simp [flatK] at hu
  | k :: ks, u, hu => by
    rw [flatK, List.mem_append] at hu
    exact hu.elim (one_kcells k u) (one_flatK ks u)
theorem flatK_get : ∀ (ks : List Key) (i : Nat) (k : Key), ks[i]? = some k → (flatK ks)[i * 2]? = some (.int .u64 k.a) ∧ (flatK ks)[i * 2 + 1]? = some (.int .u64 k.b)
  | [], i, k, h => by simp at h
  | a :: ks, 0, k, h => by simp at h; subst h; exact ⟨rfl, rfl⟩
  | a :: ks, i + 1, k, h => by
    simp at h
    obtain ⟨h1, h2⟩ := flatK_get ks i k h
    rw [show (i + 1) * 2 = i * 2 + 2 by omega, show i * 2 + 2 + 1 = (i * 2 + 1) + 2 by omega]
    exact ⟨h1, h2⟩

theorem Try.infoKey : (Try.prog.info? 30).map (fun i => (i.zero, i.size, i.bytes)) = some (some (.agg #[.int .u64 0, .int .u64 0]), 2, 16) := by kernel_rfl
theorem Try.hmk (fn : Fn) (first cap : Array Value) (w : World) : (Instr.makeFunc fn first cap).run Try.prog w = .ok (.func fn first cap) w := rfl
theorem Try.hnk (fn : Fn) (first cap : Array Value) (w : World) : (binOp .eql 44 (.func fn first cap) .nilFunc).run Try.prog w = .ok (.bool false) w := by kernel_rfl
theorem Try.hnk' (fn : Fn) (first cap : Array Value) (w : World) : (binOp .eql 33 (.func fn first cap) .nilFunc).run Try.prog w = .ok (.bool false) w := by kernel_rfl

theorem tall_any (p : Option Addr) (w : World) : Calls Try.prog 11 #[.pointer p] w fun e w' => e = .returned (.func (.func 30) #[] #[.pointer (some ⟨w.heap.size, 0, none⟩)]) ∧ w' = w.alloc (.cells #[.pointer p] 23) := by
  have hmf := Try.hmk
  go_enter Try.func11, Try.ntmps11
  go_wp2
  go_ret
  exact ⟨rfl, rfl⟩

set_option maxHeartbeats 400000 in
theorem yieldk_any (n₀ Bo Bm : Nat) (m : Int) (k : Key) (v : Value) (l : List Key) (W : World) (hv : Boxed W Bo 22 v) (hrow : W.ownsRow n₀ 30 2 v l.length (flatK l)) (hn₀ : n₀ ≤ W.heap.size) (hle : n₀ ≤ Bo) (hBm : Bm < n₀) (hm : W.cell? ⟨Bm, 0, none⟩ = some (.int .i64 m)) (hlen : l.length ≤ 4096) :
    Calls Try.prog 29 #[kv k, .pointer (some ⟨Bo, 0, none⟩), .pointer (some ⟨Bm, 0, none⟩)] W fun e W' => e = .returned (.bool (decide (((l.length + 1 : Nat) : Int) < m))) ∧
      (∃ v', Boxed W' Bo 22 v' ∧ W'.ownsRow n₀ 30 2 v' (l.length + 1) (flatK (l ++ [k])) ∧ v' ≠ .slice none 0 0) ∧ KeepsOthers W W' ∧ Below n₀ W W' ∧ ∀ B t u, Boxed W B t u → B ≠ Bo → t ≠ 30 → Boxed W' B t u := by
  obtain ⟨a, c, rfl⟩ : ∃ a c, v = .slice a l.length c := by
    rcases hrow.2 with ⟨rfl, h0⟩ | ⟨g, cap, cur, rfl, _⟩
    · exact ⟨none, 0, by rw [h0]⟩
    · exact ⟨_, _, rfl⟩
  obtain ⟨ka, kb⟩ := k
  unfold kv
  dsimp only
  obtain ⟨i0, hi, hz0, hz1, hz2⟩ := info_parts Try.infoKey
  have HI := Lib.hid hi; have HZ0 := Lib.hid hz0; have HZ1 := Lib.hid hz1; have HZ2 := Lib.hid hz2; clear hi hz0 hz1 hz2
  obtain ⟨W1, hW1⟩ : ∃ W1, W1 = W.alloc (.cells #[.int .u64 ka, .int .u64 kb] 30) := ⟨_, rfl⟩
  have hv1 : Boxed W1 Bo 22 (.slice a l.length c) := by rw [hW1]; exact hv.alloc _
  have hr1 : W1.ownsRow n₀ 30 2 (.slice a l.length c) l.length (flatK l) := by rw [hW1]; exact hrow.alloc _
  have hb1 : Below n₀ W W1 := by rw [hW1]; exact (Below.refl _ _).alloc hn₀ _
  have hko : KeepsOthers W W1 := by rw [hW1]; exact KeepsOthers.alloc _ _
  have hbx : ∀ B t u, Boxed W B t u → Boxed W1 B t u := fun B t u h => by rw [hW1]; exact h.alloc _
  have hs1 : n₀ ≤ W1.heap.size := Nat.le_trans hn₀ hb1.size
  have hsz : W1.heap.size = W.heap.size + 1 := by rw [hW1]; exact World.size_alloc _ _
  have hc := hv1.cell
  have hm1 : W1.cell? ⟨Bm, 0, none⟩ = some (.int .i64 m) := (hb1.cell (p := ⟨Bm, 0, none⟩) hBm).trans hm
  have hnews := row_news W1 (kcells ⟨ka, kb⟩) 30
  rw [hsz] at hnews
  have HNEWS := Lib.hid (hnews _ rfl)
  clear hnews
  have HV := Lib.hid hv1; have HROW := Lib.hid hr1; have HALL := Lib.hid (⟨hb1, hko, hbx⟩ : _ ∧ _ ∧ _)
  clear hv1 hr1 hv hrow hb1 hko hbx
  subst hW1
  go_enter Try.func29, Try.ntmps29
  go_wp2_with (at_builtin; refine wpList_append_own _ rfl _ _ 22 rfl n₀ 30 i0 (.agg #[.int .u64 0, .int .u64 0]) 2 16 Try.underlying22 HI.out HZ0.out HZ1.out HZ2.out rfl (by decide) _ _ _ rfl (HROW.out.alloc _) ⟨W.heap.size + 1, 0, none⟩ 1 1 (kcells ⟨ka, kb⟩) rfl rfl HNEWS.out (one_kcells _) (by unfold maxLen; omega) (by omega) (by simp; omega) ?_; intro v' w1 hown' hgrow _; obtain ⟨g', cap', hv'⟩ := ownsRow_succ hown'; subst hv'; obtain ⟨hv1, hv2, hr2, hk2, hb2⟩ := HV.out.appended (by decide) HROW.out hs1 hle hown' hgrow; have hc1 := hv1.cell; have hf1 := hv1.frozen; have hm2 : (w1.setCell ⟨Bo, 0, none⟩ (.slice (some ⟨g', 0, none⟩) (l.length + 1) cap')).cell? ⟨Bm, 0, none⟩ = some (.int .i64 m) := (hb2.cell (p := ⟨Bm, 0, none⟩) hBm).trans hm1; have HR := Lib.hid (⟨hv2, hr2, hk2, hb2⟩ : _ ∧ _ ∧ _ ∧ _); have HG := Lib.hid hgrow; clear hown' hgrow hv1 hv2 hr2 hk2 hb2)
  go_ret
  obtain ⟨h2, h3, h4, h5⟩ := HR.out
  obtain ⟨j1, j2, j3⟩ := HALL.out
  refine ⟨by simp, ⟨_, h2, by rw [flatK_app] at h3; exact h3, by simp⟩, j2.trans h4, j1.trans h5, fun B t u hB hne ht => ?_⟩
  exact (((j3 _ _ _ hB).alloc _).kept HG.out ((j3 _ _ _ hB).not_row ht HROW.out)).other hne _
end Go.Proofs.Ytfbbmpmgceghfaa
