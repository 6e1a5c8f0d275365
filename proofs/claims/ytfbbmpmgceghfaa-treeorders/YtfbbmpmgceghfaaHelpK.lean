/-
  canterhelp.All, In, Plain of keys; canterref04.Less; canterlaw05.low. Conditions: those of each theorem.
-/
import Derived.Test.YtfbbmpmgceghfaaOpens
import Derived.Test.YtfbbmpmgceghfaaRbRange
namespace Go.Proofs.Ytfbbmpmgceghfaa
open Go.RowKit
set_option maxRecDepth 100000
set_option linter.unusedSimpArgs false

theorem Try.eqKey (a b c d : Int) (w : World) : (binOp .eql 30 (.agg #[.int .u64 a, .int .u64 b]) (.agg #[.int .u64 c, .int .u64 d])).run Try.prog w = .ok (.bool (a == c && b == d)) w := by
  go_simp
  by_cases h : a = c <;> by_cases h' : b = d <;> simp [h, h']
theorem Try.neKey (a b c d : Int) (w : World) : (binOp .neq 30 (.agg #[.int .u64 a, .int .u64 b]) (.agg #[.int .u64 c, .int .u64 d])).run Try.prog w = .ok (.bool (!(a == c && b == d))) w := by
  go_simp
  by_cases h : a = c <;> by_cases h' : b = d <;> simp [h, h']
theorem key_beq (x y : Key) : (x.a == y.a && x.b == y.b) = decide (x = y) := by
  obtain ⟨a, b⟩ := x; obtain ⟨c, d⟩ := y
  simp only [Key.mk.injEq]
  by_cases h : a = c <;> by_cases h' : b = d <;> simp [h, h']

theorem ownsK_rd {w : World} {base : Nat} {v : Value} {ks : List Key} (h : w.ownsRow base 30 2 v ks.length (flatK ks)) : ∃ a c, v = .slice a ks.length c ∧ RdK w a ks ∧ (∀ b off, a = some ⟨b, off, none⟩ → base ≤ b) := by
  rcases h.2 with ⟨rfl, h0⟩ | ⟨g, cap, cur, rfl, hb, hg, _⟩
  · exact ⟨none, 0, by rw [h0], fun i k hi => by rw [List.eq_nil_of_length_eq_zero h0] at hi; simp at hi, fun _ _ e => by cases e⟩
  · refine ⟨_, cap, rfl, fun i k hi => ?_, fun b off e => by cases e; exact hb⟩
    obtain ⟨h1, h2⟩ := flatK_get ks i k hi
    have c1 := World.ownsRow.cells h (g := g) rfl _ _ h1
    have c2 := World.ownsRow.cells h (g := g) rfl _ _ h2
    rw [Go.WideShapes.add_plain] at c1 c2
    exact ⟨g, 0, rfl, (h.lt g rfl).2, c1, by rw [Nat.add_assoc]; exact c2⟩

set_option maxHeartbeats 1000000 in
/-- canterhelp.All of what All has handed back. -/
theorem hallk_any {S : Nat → Prop} {g N : Nat} {ks : List Key} (Bg : Nat) (m : Int) (w : World) (hT : TreeAt w S g N ks) (hG : Boxed w Bg 23 (.pointer (some ⟨g, 0, none⟩))) :
    Calls Try.prog 10 #[.func (.func 30) #[] #[.pointer (some ⟨Bg, 0, none⟩)], .int .i64 m] w fun e w' =>
      ∃ a c, e = .returned (.slice a (ks.take (max 1 m.toNat)).length c) ∧ RdK w' a (ks.take (max 1 m.toNat)) ∧ (∀ b off, a = some ⟨b, off, none⟩ → w.heap.size ≤ b) ∧ Keep (fun _ => False) w w' := by
  obtain ⟨ga, b, cap, n, tp, mm, L, s, Sa, h, hks, hN⟩ := hT
  subst hks
  have hmf := Try.hmk
  have hnf := Try.hnk'
  have hS : ∀ k, S k → k < w.heap.size := fun k hk => TreeAt.lt (N := s.N) ⟨ga, b, cap, n, tp, mm, L, s, Sa, h, rfl, rfl⟩ hk
  have hB0 : Below w.heap.size w ((w.alloc (.cells #[.int .i64 m] 3)).alloc (.cells #[.slice none 0 0] 22)) := ((Below.refl _ w).alloc (Nat.le_refl _) _).alloc (by simp) _
  have bM := (Boxed.new w 3 (.int .i64 m)).alloc (.cells #[.slice none 0 0] 22)
  have bO := Boxed.new (w.alloc (.cells #[.int .i64 m] 3)) 22 (.slice none 0 0)
  rw [World.size_alloc] at bO
  have HT := Lib.hid (h.below hB0 hS)
  have HS : Hid (∀ k, S k → k < w.heap.size + 1) := Lib.hid (fun k hk => by have := hS k hk; omega)
  have HG := Lib.hid ((hG.alloc (.cells #[.int .i64 m] 3)).alloc (.cells #[.slice none 0 0] 22))
  have hgl := hG.lt
  have HO := Lib.hid bO; have HM := Lib.hid bM.cell; have HB0 := Lib.hid hB0
  have hran := rangek_any (w.heap.size + 1) (w.heap.size + 1) w.heap.size Bg m _ HT.out HS.out HG.out (by omega) HO.out (Nat.le_refl _) (by omega) HM.out
  obtain ⟨told, htold⟩ : ∃ told, told = (L.map (·.2)).take (max 1 m.toNat) := ⟨_, rfl⟩
  rw [← htold] at hran ⊢
  have HRAN := Lib.hid hran
  clear hB0 bM bO h hS hG hN hran htold
  go_enter Try.func10, Try.ntmps10
  go_wp2_with (go_at_call 30; (with_reducible refine HRAN.out.mono ?_); rintro e w1 ⟨⟨v, rfl⟩, ⟨v', hb, hr⟩, hbel⟩; have hc := hb.cell; obtain ⟨a', c', hv', hrd, hba⟩ := ownsK_rd hr; subst hv'; have HRD := Lib.hid hrd; have HBA := Lib.hid hba; have HBEL := Lib.hid hbel; clear hb hr hbel hrd hba)
  go_ret
  exact ⟨_, _, rfl, HRD.out, fun b off e => by have := HBA.out b off e; omega, Keep.of_below (HB0.out.trans (HBEL.out.mono (by omega)))⟩

set_option maxHeartbeats 1000000 in
/-- .. of a nil tree. -/
theorem hallk_nil (Bg : Nat) (m : Int) (w : World) (hG : Boxed w Bg 23 (.pointer none)) :
    Calls Try.prog 10 #[.func (.func 30) #[] #[.pointer (some ⟨Bg, 0, none⟩)], .int .i64 m] w fun e w' => e = .returned (.slice none 0 0) ∧ Keep (fun _ => False) w w' := by
  have hmf := Try.hmk
  have hnf := Try.hnk'
  have HALL : Hid (∀ (y : Value) (W : World), W.cell? ⟨Bg, 0, none⟩ = some (.pointer none) → Calls Try.prog 30 #[.func (.func 29) #[] #[.pointer (some ⟨w.heap.size + 1, 0, none⟩), .pointer (some ⟨w.heap.size, 0, none⟩)], .pointer (some ⟨Bg, 0, none⟩)] W fun e w' => (∃ v, e = .returned v) ∧ Keep (fun _ => False) W w') := Lib.hid (by
    intro y W hc
    have hc' : ∀ o, (W.alloc o).cell? ⟨Bg, 0, none⟩ = some (.pointer none) := fun o => ((Keep.refl (fun _ => False) W).alloc o |>.cell (p := ⟨Bg, 0, none⟩) (lt_of_cell hc) (fun h => h)).trans hc
    have hc2 := hc' (.cells #[.func (.func 29) #[] #[.pointer (some ⟨w.heap.size + 1, 0, none⟩), .pointer (some ⟨w.heap.size, 0, none⟩)]] 44)
    clear hc'
    go_enter Try.func30, Try.ntmps30
    go_wp2
    refine bodyPost_ret (results_none rfl _ _ _) rfl ?_
    exact ⟨⟨_, rfl⟩, (Keep.refl _ _).alloc _⟩)
  have K0 : Hid (Keep (fun _ => False) w ((w.alloc (.cells #[.int .i64 m] 3)).alloc (.cells #[.slice none 0 0] 22))) := Lib.hid (((Keep.refl _ w).alloc _).alloc _)
  have HG := Lib.hid ((hG.alloc (.cells #[.int .i64 m] 3)).alloc (.cells #[.slice none 0 0] 22)).cell
  have bO := Boxed.new (w.alloc (.cells #[.int .i64 m] 3)) 22 (.slice none 0 0)
  rw [World.size_alloc] at bO
  have HO := Lib.hid bO
  clear bO
  go_enter Try.func10, Try.ntmps10
  go_wp2_with (go_at_call 30; refine (HALL.out .nilFunc _ HG.out).mono ?_; rintro e w1 ⟨⟨v, rfl⟩, hk⟩; have hc : w1.cell? ⟨w.heap.size + 1, 0, none⟩ = some (.slice none 0 0) := (hk.cell (p := ⟨w.heap.size + 1, 0, none⟩) HO.out.lt (fun h => h)).trans HO.out.cell; have HK := Lib.hid hk; clear hk)
  go_ret
  exact ⟨rfl, K0.out.trans HK.out⟩

set_option maxHeartbeats 400000 in
theorem less_any (x y : Key) (w : World) : Calls Try.prog 13 #[kv x, kv y] w fun e w' => e = .returned (.bool (decide (KLt x y))) ∧ Keep (fun _ => False) w w' := by
  obtain ⟨a, b⟩ := x
  obtain ⟨c, d⟩ := y
  unfold kv
  dsimp only
  rcases Int.lt_trichotomy a c with h | h | h
  · have HE : Hid (decide (KLt ⟨a, b⟩ ⟨c, d⟩) = true) := Lib.hid (decide_eq_true (.inl h))
    go_enter Try.func13, Try.ntmps13
    go_wp2
    go_ret
    exact ⟨ret_b HE.out.symm, ((Keep.refl _ _).alloc _).alloc _⟩
  · subst h
    have HE : Hid (decide (KLt ⟨a, b⟩ ⟨a, d⟩) = decide (b < d)) := Lib.hid (by unfold KLt; simp)
    have e1 : ¬ a < a := by omega
    go_enter Try.func13, Try.ntmps13
    go_wp2
    go_ret
    exact ⟨ret_b (by rw [HE.out]), ((Keep.refl _ _).alloc _).alloc _⟩
  · have HE : Hid (decide (KLt ⟨a, b⟩ ⟨c, d⟩) = false) := Lib.hid (decide_eq_false (by unfold KLt; simp; omega))
    have e1 : ¬ a < c := by omega
    have e2 : (a == c) = false := by rw [beq_eq_false_iff_ne]; omega
    go_enter Try.func13, Try.ntmps13
    go_wp2
    go_ret
    exact ⟨ret_b HE.out.symm, ((Keep.refl _ _).alloc _).alloc _⟩

set_option maxHeartbeats 1000000 in
theorem in_key (a : Option Addr) (ca : Nat) (ks : List Key) (x : Key) (w : World) (hlen : ks.length ≤ 100000) (ha : RdK w a ks) :
    Calls Try.prog 9 #[.slice a ks.length ca, kv x] w fun e w' => e = .returned (.bool (decide (x ∈ ks))) ∧ Keep (fun _ => False) w w' := by
  have heq := Try.eqKey
  obtain ⟨xa, xb⟩ := x
  unfold kv
  dsimp only
  have HA := Lib.hid (ha.kept ((Keep.refl _ w).alloc (.cells #[.int .u64 xa, .int .u64 xb] 30)))
  have K0 : Hid (Keep (fun _ => False) w (w.alloc (.cells #[.int .u64 xa, .int .u64 xb] 30))) := Lib.hid ((Keep.refl _ w).alloc _)
  have W0 := Lib.hid (Whole.new w 30 #[.int .u64 xa, .int .u64 xb])
  clear ha
  go_enter Try.func9, Try.ntmps9
  go_wp2
  generalize w.alloc (.cells #[.int .u64 xa, .int .u64 xb] 30) = w1 at *
  go_loopw [5] (fun i wr => ∃ k n : Nat, k ≤ ks.length ∧ i = .int .i64 k ∧ (⟨xa, xb⟩ : Key) ∉ ks.take k ∧ wr = w1.drewN n) (fun i _ => ks.length - (intOf i).toNat)
  case atStart => exact ⟨0, 0, Nat.zero_le _, rfl, by simp, rfl⟩
  case round =>
    obtain ⟨k, n, hk, rfl, hnot, hwr⟩ := hrel
    have HW := Lib.hid hwr
    by_cases hlt : k < ks.length
    · obtain ⟨b1, o1, rfl, _, c1, c2⟩ := HA.out k ks[k] (List.getElem?_eq_getElem hlt)
      have hi1 : (k : Int) < (ks.length : Int) := by omega
      have g1 : wr.cell? ⟨b1, o1 + k * 2, none⟩ = some (.int .u64 ks[k].a) := by rw [hwr]; exact c1
      have g2 : wr.cell? ⟨b1, o1 + k * 2 + 1, none⟩ = some (.int .u64 ks[k].b) := by rw [hwr]; exact c2
      have g3 : wr.cell? ⟨w.heap.size, 0, none⟩ = some (.int .u64 xa) := by rw [hwr]; exact W0.out.cell 0
      have g4 : wr.cell? ⟨w.heap.size, 1, none⟩ = some (.int .u64 xb) := by rw [hwr]; exact W0.out.cell 1
      have htk : ks.take (k + 1) = ks.take k ++ [ks[k]] := List.take_succ_eq_append_getElem hlt
      have hmem : ks[k] ∈ ks := List.getElem_mem _
      have hb := key_beq ks[k] ⟨xa, xb⟩
      dsimp only at hb
      by_cases e : ks[k] = ⟨xa, xb⟩
      · rw [decide_eq_true e] at hb
        have HE : Hid (decide ((⟨xa, xb⟩ : Key) ∈ ks) = true) := Lib.hid (decide_eq_true (e ▸ hmem))
        clear HA hmem htk hnot e hwr c1 c2
        generalize ks[k] = y at *
        obtain ⟨ya, yb⟩ := y
        dsimp only at *
        go_wp2
        go_quiet (fail)
        go_wp2
        try rw [Exit.noGoto_ret]
        go_ret
        exact ⟨ret_b HE.out.symm, by rw [HW.out]; exact (K0.out.drewN n).drewN _⟩
      · rw [decide_eq_false e] at hb
        have HN : Hid ((⟨xa, xb⟩ : Key) ∉ ks.take (k + 1)) := Lib.hid (by rw [htk, List.mem_append, List.mem_singleton]; rintro (h | h); exact hnot h; exact e h.symm)
        clear HA hmem htk hnot e hwr c1 c2
        generalize ks[k] = y at *
        obtain ⟨ya, yb⟩ := y
        dsimp only at *
        go_wp2
        go_quiet (fail)
        go_wp2
        go_roundw
        case rel => exact ⟨k + 1, _, by omega, by go_num, HN.out, by rw [HW.out, World.drewN_drewN]⟩
        case measure => simp [intOf]; omega
    · have hk' : ks.take k = ks := List.take_of_length_le (by omega)
      have HE : Hid (decide ((⟨xa, xb⟩ : Key) ∈ ks) = false) := Lib.hid (by rw [hk'] at hnot; exact decide_eq_false hnot)
      clear HA hnot hk' hwr
      go_wp2
      go_ret
      exact ⟨ret_b HE.out.symm, by rw [HW.out]; exact K0.out.drewN n⟩
end Go.Proofs.Ytfbbmpmgceghfaa
