/-
  canterref04.Keys: its calls answer what the document says of a set of keys in order. Conditions: the struct lies in memory as 'KeysAt' says.
-/
import Derived.Test.YtcejgmckghadnaaAwakeT
namespace Go.Proofs.Ytcejgmckghadnaa
open Go.RowKit
set_option linter.unusedSimpArgs false

/-- The reference at block 'g': at most 'n' keys, and the keys 'ks' in a slice of a block that is not its own. -/
structure KeysAt (w : World) (g : Nat) (n : Int) (a : Option Addr) (cap : Nat) (ks : List Key) : Prop where
  st : Whole w g 31 #[.int .i64 n, .slice a ks.length cap]
  rd : RdK w a ks
  ne : ∀ b off, a = some ⟨b, off, none⟩ → b ≠ g
  le : ks.length ≤ cap
  no : a = none → cap = 0
  few : ks.length ≤ 4096
  at0 : ∀ ad, a = some ad → ∃ b, ad = ⟨b, 0, none⟩
  big : cap ≤ maxLen
theorem KeysAt.kept {w w' : World} {g : Nat} {n : Int} {a : Option Addr} {cap : Nat} {ks : List Key} (h : KeysAt w g n a cap ks) (hk : Keep (fun _ => False) w w') : KeysAt w' g n a cap ks :=
  ⟨h.st.keep hk id, h.rd.kept hk, h.ne, h.le, h.no, h.few, h.at0, h.big⟩

set_option maxHeartbeats 1000000 in
theorem khas_any (g : Nat) (n : Int) (a : Option Addr) (cap : Nat) (ks : List Key) (x : Key) (w : World) (h : KeysAt w g n a cap ks) :
    Calls Try.prog 20 #[.pointer (some ⟨g, 0, none⟩), kv x] w fun e w' => e = .returned (.bool (decide (x ∈ ks))) ∧ Keep (fun _ => False) w w' := by
  have HC := Lib.hid (fun w' (r : RdK w' a ks) => in_key a cap ks x w' (by have := h.few; omega) r)
  obtain ⟨xa, xb⟩ := x
  unfold kv at *
  dsimp only at *
  have HA := Lib.hid (h.kept ((Keep.refl _ w).alloc (.cells #[.int .u64 xa, .int .u64 xb] 25)))
  have K0 : Hid (Keep (fun _ => False) w (w.alloc (.cells #[.int .u64 xa, .int .u64 xb] 25))) := Lib.hid ((Keep.refl _ w).alloc _)
  have W0 := Lib.hid (Whole.new w 25 #[.int .u64 xa, .int .u64 xb])
  have c1 := HA.out.st.cell 1
  have g1 := W0.out.cell 0
  have g2 := W0.out.cell 1
  clear h
  go_enter Try.func20, Try.ntmps20
  go_wp2_with fail
  generalize w.alloc (.cells #[.int .u64 xa, .int .u64 xb] 25) = w1 at *
  refine wp_region_sch (fun W => W.cell? ⟨w.heap.size, 0, none⟩ = some (.int .u64 xa) ∧ W.cell? ⟨w.heap.size, 1, none⟩ = some (.int .u64 xb) ∧ W.cell? ⟨g, 1, none⟩ = some (.slice a ks.length cap)) [(true, 0), (true, 1), (true, 2), (true, 3), (true, 4), (false, 5), (true, 6)] (by kernel_rfl) (by kernel_rfl) (by kernel_rfl) (by kernel_rfl) ⟨g1, g2, c1⟩ ?_
  (repeat (first
  | (refine wpSch_yes (v := ?_) rfl (fun _ _ _ h => h) (by rfl) ?_ ?_; rotate_left; (next => (intro w hSw; (try dsimp only at hSw); (try obtain ⟨hS1, hS2, hS3, hS4, hS5⟩ := hSw); (try obtain ⟨hS1, hS2, hS3⟩ := hSw); go_simp; (try with_reducible rfl))); (try simp only [Act.put, List.setIfInBounds_toArray, List.set_cons_zero, List.set_cons_succ]))
  | (refine wpSch_no rfl (fun _ _ _ h => h) (by rfl) ?_; (try simp only [Act.put, List.setIfInBounds_toArray, List.set_cons_zero, List.set_cons_succ]))
  | (refine wpSch_not rfl (by rfl) (by assumption) ?_; (try simp only [Act.put, List.setIfInBounds_toArray, List.set_cons_zero, List.set_cons_succ]))))
  refine wpSch_call rfl (by rfl) (fun K hK => ?_)
  go_simp
  refine (HC.out _ (HA.out.rd.kept (Keep.refl _ _).drew)).mono ?_
  rintro e w2 ⟨rfl, k2⟩
  have HK2 := Lib.hid ((Keep.refl _ w1).drew.trans k2); clear k2
  refine hK.out _ _ ⟨(W0.out.keep HK2.out id).cell 0, (W0.out.keep HK2.out id).cell 1, (HA.out.st.keep HK2.out id).cell 1⟩ (fun hHeld => ?_)
  clear hK K
  (try simp only [Act.put, List.setIfInBounds_toArray, List.set_cons_zero, List.set_cons_succ])
  (repeat (first
  | (refine wpSch_yes (v := ?_) rfl (fun _ _ _ h => h) (by rfl) ?_ ?_; rotate_left; (next => (intro w hSw; (try dsimp only at hSw); (try obtain ⟨hS1, hS2, hS3, hS4, hS5⟩ := hSw); (try obtain ⟨hS1, hS2, hS3⟩ := hSw); go_simp; (try with_reducible rfl))); (try simp only [Act.put, List.setIfInBounds_toArray, List.set_cons_zero, List.set_cons_succ]))
  | (refine wpSch_no rfl (fun _ _ _ h => h) (by rfl) ?_; (try simp only [Act.put, List.setIfInBounds_toArray, List.set_cons_zero, List.set_cons_succ]))
  | (refine wpSch_not rfl (by rfl) (by assumption) ?_; (try simp only [Act.put, List.setIfInBounds_toArray, List.set_cons_zero, List.set_cons_succ]))))
  refine wpSch_nil ?_
  go_wp2
  go_ret
  exact ⟨rfl, K0.out.trans HK2.out⟩

/-- The place of a key: how many of the keys are below it, from the first on. -/
def placeOf (ks : List Key) (x : Key) : Nat := (ks.takeWhile fun y => decide (KLt y x)).length
theorem placeOf_le (ks : List Key) (x : Key) : placeOf ks x ≤ ks.length := (List.takeWhile_prefix _).length_le
theorem placeOf_all {ks : List Key} {x : Key} {k : Nat} (hk : k ≤ ks.length) (h : ∀ y ∈ ks.take k, KLt y x) (hend : ∀ y, ks[k]? = some y → ¬ KLt y x) : placeOf ks x = k := by
  induction ks generalizing k with
  | nil => simp at hk; subst hk; rfl
  | cons a l ih =>
    unfold placeOf at *
    cases k with
    | zero =>
      have := hend a (by simp)
      rw [List.takeWhile_cons, if_neg (by simpa using this)]; rfl
    | succ k =>
      have h0 := h a (by simp)
      rw [List.takeWhile_cons, if_pos (by simpa using h0), List.length_cons, ih (k := k) (by simpa using hk) (fun y hy => h y (by simp [hy])) (fun y hy => hend y (by simpa using hy))]

set_option maxHeartbeats 1000000 in
theorem place_any (g : Nat) (n : Int) (a : Option Addr) (cap : Nat) (ks : List Key) (x : Key) (w : World) (h : KeysAt w g n a cap ks) :
    Calls Try.prog 34 #[.pointer (some ⟨g, 0, none⟩), kv x] w fun e w' => e = .returned (.int .i64 (placeOf ks x)) ∧ Keep (fun _ => False) w w' := by
  have HL := Lib.hid (fun y => less_any y x)
  obtain ⟨xa, xb⟩ := x
  unfold kv at *
  dsimp only at *
  have HA := Lib.hid (h.kept ((Keep.refl _ w).alloc (.cells #[.int .u64 xa, .int .u64 xb] 25)))
  have K0 : Hid (Keep (fun _ => False) w (w.alloc (.cells #[.int .u64 xa, .int .u64 xb] 25))) := Lib.hid ((Keep.refl _ w).alloc _)
  have W0 := Lib.hid (Whole.new w 25 #[.int .u64 xa, .int .u64 xb])
  have HF := Lib.hid h.few
  clear h
  go_enter Try.func34, Try.ntmps34
  go_wp2_with fail
  generalize w.alloc (.cells #[.int .u64 xa, .int .u64 xb] 25) = w1 at *
  go_loopw [5] (fun i wr => ∃ k : Nat, k ≤ ks.length ∧ i = .int .i64 k ∧ (∀ y ∈ ks.take k, KLt y ⟨xa, xb⟩) ∧ Keep (fun _ => False) w1 wr) (fun i _ => ks.length - (intOf i).toNat)
  case atStart => exact ⟨0, Nat.zero_le _, rfl, by simp, Keep.refl _ _⟩
  case round =>
    obtain ⟨k, hk, rfl, hall, hkp⟩ := hrel
    have HK := Lib.hid hkp; have HALL := Lib.hid hall; clear hkp hall
    have HF' := HF.out
    have HC : Hid (∀ W, Keep (fun _ => False) w1 W → W.cell? ⟨w.heap.size, 0, none⟩ = some (.int .u64 xa) ∧ W.cell? ⟨w.heap.size, 1, none⟩ = some (.int .u64 xb) ∧ W.cell? ⟨g, 1, none⟩ = some (.slice a ks.length cap)) :=
      Lib.hid fun W hW => ⟨(W0.out.keep hW id).cell 0, (W0.out.keep hW id).cell 1, (HA.out.st.keep hW id).cell 1⟩
    by_cases hlt : k < ks.length
    · obtain ⟨b1, o1, rfl, hb1, c1, c2⟩ := HA.out.rd k ks[k] (List.getElem?_eq_getElem hlt)
      have HC2 : Hid (∀ W, Keep (fun _ => False) w1 W → W.cell? ⟨b1, o1 + k * 2, none⟩ = some (.int .u64 ks[k].a) ∧ W.cell? ⟨b1, o1 + k * 2 + 1, none⟩ = some (.int .u64 ks[k].b)) :=
        Lib.hid fun W hW => ⟨(hW.cell (p := ⟨b1, _, none⟩) hb1 (fun h => h)).trans c1, (hW.cell (p := ⟨b1, _, none⟩) hb1 (fun h => h)).trans c2⟩
      have HL2 := Lib.hid (HL.out ks[k])
      have htk : ks.take (k + 1) = ks.take k ++ [ks[k]] := List.take_succ_eq_append_getElem hlt
      have HY : Hid (KLt ks[k] ⟨xa, xb⟩ → ∀ y ∈ ks.take (k + 1), KLt y ⟨xa, xb⟩) := Lib.hid (by
        intro h y hy
        rw [htk, List.mem_append, List.mem_singleton] at hy
        rcases hy with hy | rfl
        · exact HALL.out y hy
        · exact h)
      have HN : Hid (¬ KLt ks[k] ⟨xa, xb⟩ → placeOf ks ⟨xa, xb⟩ = k) := Lib.hid (fun h => placeOf_all hk HALL.out (fun y hy => by rw [List.getElem?_eq_getElem hlt] at hy; cases hy; exact h))
      clear c1 c2 htk
      generalize ks[k] = y at *
      obtain ⟨ya, yb⟩ := y
      dsimp only at HC2
      have hi1 : (k : Int) < (ks.length : Int) := by omega
      go_wp2_with fail
      refine wp_region_sch (fun W => W.cell? ⟨w.heap.size, 0, none⟩ = some (.int .u64 xa) ∧ W.cell? ⟨w.heap.size, 1, none⟩ = some (.int .u64 xb) ∧ W.cell? ⟨g, 1, none⟩ = some (.slice (some ⟨b1, o1, none⟩) ks.length cap) ∧ W.cell? ⟨b1, o1 + k * 2, none⟩ = some (.int .u64 ya) ∧ W.cell? ⟨b1, o1 + k * 2 + 1, none⟩ = some (.int .u64 yb)) [(true, 0), (true, 1), (true, 2), (true, 3), (true, 4), (true, 5), (true, 6), (true, 7), (true, 8), (true, 9), (true, 10), (true, 11), (true, 12), (true, 13), (true, 14), (true, 15), (false, 16), (true, 17)] (by kernel_rfl) (by kernel_rfl) (by kernel_rfl) (by kernel_rfl) ⟨(HC.out _ HK.out.drew).1, (HC.out _ HK.out.drew).2.1, (HC.out _ HK.out.drew).2.2, HC2.out _ HK.out.drew⟩ ?_
      (repeat (first
  | (refine wpSch_yes (v := ?_) rfl (fun _ _ _ h => h) (by rfl) ?_ ?_; rotate_left; (next => (intro w hSw; (try dsimp only at hSw); (try obtain ⟨hS1, hS2, hS3, hS4, hS5⟩ := hSw); (try obtain ⟨hS1, hS2, hS3⟩ := hSw); go_simp; (try with_reducible rfl))); (try simp only [Act.put, List.setIfInBounds_toArray, List.set_cons_zero, List.set_cons_succ]))
  | (refine wpSch_no rfl (fun _ _ _ h => h) (by rfl) ?_; (try simp only [Act.put, List.setIfInBounds_toArray, List.set_cons_zero, List.set_cons_succ]))
  | (refine wpSch_not rfl (by rfl) (by assumption) ?_; (try simp only [Act.put, List.setIfInBounds_toArray, List.set_cons_zero, List.set_cons_succ]))))
      refine wpSch_call rfl (by rfl) (fun K hK => ?_)
      go_simp
      refine (HL2.out _).mono ?_
      rintro e w2 ⟨rfl, k2⟩
      have HK2 := Lib.hid (HK.out.drew.trans k2); clear k2
      refine hK.out _ _ ⟨(HC.out _ HK2.out).1, (HC.out _ HK2.out).2.1, (HC.out _ HK2.out).2.2, HC2.out _ HK2.out⟩ (fun hHeld => ?_)
      clear hK K
      (try simp only [Act.put, List.setIfInBounds_toArray, List.set_cons_zero, List.set_cons_succ])
      (repeat (first
  | (refine wpSch_yes (v := ?_) rfl (fun _ _ _ h => h) (by rfl) ?_ ?_; rotate_left; (next => (intro w hSw; (try dsimp only at hSw); (try obtain ⟨hS1, hS2, hS3, hS4, hS5⟩ := hSw); (try obtain ⟨hS1, hS2, hS3⟩ := hSw); go_simp; (try with_reducible rfl))); (try simp only [Act.put, List.setIfInBounds_toArray, List.set_cons_zero, List.set_cons_succ]))
  | (refine wpSch_no rfl (fun _ _ _ h => h) (by rfl) ?_; (try simp only [Act.put, List.setIfInBounds_toArray, List.set_cons_zero, List.set_cons_succ]))
  | (refine wpSch_not rfl (by rfl) (by assumption) ?_; (try simp only [Act.put, List.setIfInBounds_toArray, List.set_cons_zero, List.set_cons_succ]))))
      refine wpSch_nil ?_
      by_cases hl : KLt ⟨ya, yb⟩ ⟨xa, xb⟩
      · rw [decide_eq_true hl]
        go_wp2
        go_roundw
        case rel => exact ⟨k + 1, by omega, by go_num, HY.out hl, HK2.out⟩
        case measure => simp [intOf]; omega
      · rw [decide_eq_false hl]
        have HE := Lib.hid (HN.out hl)
        go_wp2
        go_ret
        exact ⟨by rw [HE.out]; rfl, K0.out.trans HK2.out⟩
    · have HE : Hid (placeOf ks ⟨xa, xb⟩ = k) := Lib.hid (placeOf_all hk HALL.out (fun y hy => by rw [List.getElem?_eq_none (by omega)] at hy; cases hy))
      have hi1 : ¬ (k : Int) < (ks.length : Int) := by omega
      have c1 := (HC.out _ HK.out).2.2
      go_wp2
      go_quiet (fail)
      go_wp2
      go_ret
      exact ⟨by rw [HE.out]; rfl, K0.out.trans (HK.out.drewN _)⟩

set_option maxHeartbeats 1000000 in
theorem kmin_any (g : Nat) (n : Int) (a : Option Addr) (cap : Nat) (ks : List Key) (w : World) (h : KeysAt w g n a cap ks) :
    Calls Try.prog 16 #[.pointer (some ⟨g, 0, none⟩)] w fun e w' => e = .returned (.tuple #[kv (hdK ks), .bool (hdB ks)]) ∧ Keep (fun _ => False) w w' := by
  have HA := Lib.hid (h.kept ((Keep.refl _ w).alloc (.cells #[.int .u64 0, .int .u64 0] 25)))
  have KB : Hid (Keep (fun _ => False) w (w.alloc (.cells #[.int .u64 0, .int .u64 0] 25))) := Lib.hid ((Keep.refl _ w).alloc _)
  have WB := Lib.hid (Whole.new w 25 #[.int .u64 0, .int .u64 0])
  clear h
  cases ks with
  | nil =>
    have c1 := HA.out.st.cell 1
    have HV : Hid ((Value.tuple #[kv (hdK []), .bool (hdB [])]) = .tuple #[.agg #[.int .u64 0, .int .u64 0], .bool false]) := Lib.hid rfl
    obtain ⟨ra, hra⟩ : ∃ r : Int, r = 0 := ⟨0, rfl⟩
    obtain ⟨rb, hrb⟩ : ∃ r : Int, r = 0 := ⟨0, rfl⟩
    obtain ⟨fl, hfl⟩ : ∃ r : Bool, r = false := ⟨_, rfl⟩
    have WK := WB.out
    have WK1 := WK.put 0 (.int .u64 ra)
    have WK2 := WK1.put 1 (.int .u64 rb)
    have e0 := WK.cell 0; have f0 := WK.free 0
    have e1 := WK1.cell 1; have f1 := WK1.free 1
    have d0 := WK2.cell 0; have d1 := WK2.cell 1
    simp only [List.setIfInBounds_toArray, List.set_cons_zero, List.set_cons_succ, List.getElem?_toArray, List.getElem?_cons_zero, List.getElem?_cons_succ] at e0 e1 d0 d1
    clear WK WK1 WK2
    subst hra hrb hfl
    clear HA
    go_enter Try.func16, Try.ntmps16
    go_wp2
    (try simp only [Exit.inBlock, Exit.then])
    refine bodyPost_ret (v := .tuple #[.agg #[.int .u64 0, .int .u64 0], .bool false]) ?_ rfl ⟨?_, ?_⟩
    · rw [results_cell_tmp rfl]
      go_simp
    · rw [HV.out]
    · exact (Keep.refl _ w).alloc _
  | cons y l =>
    obtain ⟨b1, o1, rfl, hb1, c2, c3⟩ := HA.out.rd 0 y rfl
    have c1 := HA.out.st.cell 1
    rw [Nat.zero_mul, Nat.add_zero] at c2 c3
    obtain ⟨ra, rb⟩ := y
    dsimp only at c2 c3
    have HV : Hid ((Value.tuple #[kv (hdK (⟨ra, rb⟩ :: l)), .bool (hdB (⟨ra, rb⟩ :: l))]) = .tuple #[.agg #[.int .u64 ra, .int .u64 rb], .bool true]) := Lib.hid rfl
    have WK := WB.out
    have WK1 := WK.put 0 (.int .u64 ra)
    have WK2 := WK1.put 1 (.int .u64 rb)
    have e0 := WK.cell 0; have f0 := WK.free 0
    have e1 := WK1.cell 1; have f1 := WK1.free 1
    have d0 := WK2.cell 0; have d1 := WK2.cell 1
    simp only [List.setIfInBounds_toArray, List.set_cons_zero, List.set_cons_succ, List.getElem?_toArray, List.getElem?_cons_zero, List.getElem?_cons_succ] at e0 e1 d0 d1
    clear WK WK1 WK2
    clear HA
    go_enter Try.func16, Try.ntmps16
    go_wp2
    (try simp only [Exit.inBlock, Exit.then])
    refine bodyPost_ret (v := .tuple #[.agg #[.int .u64 ra, .int .u64 rb], .bool true]) ?_ rfl ⟨?_, ?_⟩
    · rw [results_cell_tmp rfl]
      go_simp
    · rw [HV.out]
    · exact (Keep.refl _ w).alloc _

end Go.Proofs.Ytcejgmckghadnaa
