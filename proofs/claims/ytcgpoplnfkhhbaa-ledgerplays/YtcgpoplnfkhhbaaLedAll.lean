/-
  known and All of package ledger: the counts of those of which something was accepted, rising, as All is called. Conditions: the ledger lies in memory as New makes it, or is nil.
-/
import Derived.Test.YtcgpoplnfkhhbaaLedCount
import Derived.RangeFuncNested
import Derived.RangeFuncBound
import Derived.RangeFuncCalls
import Derived.RangeFuncLeaves
import Derived.RangeFuncBox
import Derived.Shelf.Abstract
import Derived.Shelf.RegionOpen
import Derived.OwnWalkIn
import Derived.TacticsInMore
import Derived.LoopNIn
import Derived.LoopIn
namespace Go.Proofs.Ytcgpoplnfkhhbaa
open Go.RowKit Go.Shelf

attribute [local go_sem] Oper.semAt_some

theorem Try.infoCnt : (Try.prog.info? 28).map (fun i => (i.zero, i.size, i.bytes)) = some (some (.agg #[.int .i64 0, .int .i64 0, .int .i64 0, .int .i64 0, .int .i64 0, .int .i64 0, .int .i64 0, .int .i64 0]), 8, 64) := by kernel_rfl
theorem Try.hmf (fn : Fn) (first cap : Array Value) (w : World) : (Instr.makeFunc fn first cap).run Try.prog w = .ok (.func fn first cap) w := rfl
theorem Try.hnf (fn : Fn) (first cap : Array Value) (w : World) : (binOp .eql 39 (.func fn first cap) .nilFunc).run Try.prog w = .ok (.bool false) w := by kernel_rfl
theorem Try.hnf' (fn : Fn) (first cap : Array Value) (w : World) : (binOp .eql 43 (.func fn first cap) .nilFunc).run Try.prog w = .ok (.bool false) w := by kernel_rfl

/-- v holds the counts cs, in a row of its own, or is nil. -/
def OwnsC (w : World) (v : Value) (cs : List Cnt) : Prop := w.ownsRow 0 28 8 v cs.length (flatC cs)
section
variable {w w' : World} {v : Value} {cs : List Cnt}
theorem OwnsC.nil (w : World) : OwnsC w (.slice none 0 0) [] := World.ownsRow_nil _ _ _ _
theorem OwnsC.shape (h : OwnsC w v cs) : ∃ a cap, v = .slice a cs.length cap ∧ (a = none → cap = 0 ∧ cs = []) ∧ ∀ ad, a = some ad → ∃ g, ad = ⟨g, 0, none⟩ := by
  rcases h.2 with ⟨rfl, h0⟩ | ⟨g, cap, cur, rfl, _⟩
  · exact ⟨none, 0, by rw [h0], fun _ => ⟨rfl, List.eq_nil_of_length_eq_zero h0⟩, fun _ h => (by cases h)⟩
  · exact ⟨_, cap, rfl, fun h => (by cases h), fun ad h => ⟨g, by cases h; rfl⟩⟩
theorem OwnsC.keep {S : Nat → Prop} (h : OwnsC w v cs) (hk : Keep S w w') (hs : ∀ k, v.ownBlock = some k → ¬ S k) : OwnsC w' v cs := by
  refine ⟨h.1, ?_⟩
  rcases h.2 with hn | ⟨g, cap, cur, rfl, h0, hgg, rest⟩
  · exact .inl hn
  · exact .inr ⟨g, cap, cur, rfl, h0, (hk.block g (Array.getElem?_eq_some_iff.1 hgg).1 (hs g rfl)).trans hgg, rest⟩
theorem OwnsC.alloc (h : OwnsC w v cs) (o : Obj) : OwnsC (w.alloc o) v cs := World.ownsRow.alloc h o
theorem OwnsC.lt (h : OwnsC w v cs) {k : Nat} (hk : v.ownBlock = some k) : k < w.heap.size := (World.ownsRow.lt h k hk).2
theorem OwnsC.ne {g : Nat} {t : TypeId} {os : Array Value} (h : OwnsC w v cs) (hw : Whole w g t os) (hte : t ≠ 28) : v.ownBlock ≠ some g := by
  rcases h.2 with ⟨rfl, _⟩ | ⟨g', cap, cur, rfl, _, hgb, _⟩
  · simp [Value.ownBlock]
  · intro e'
    obtain rfl : g' = g := by simpa [Value.ownBlock] using e'
    have := (show w.heap[g']? = _ from hw).symm.trans hgb
    simp at this
    exact hte this.2
end

/-- Of the first k sockets: the counts of those of which something was accepted. -/
def knownL (F : Nat → Int) (k : Nat) : List Cnt := ((List.range k).filter fun i => decide (0 < F (i * 6))).map (cntN F)
theorem knownL_hit (F : Nat → Int) (k : Nat) (h : 0 < F (k * 6)) : knownL F (k + 1) = knownL F k ++ [cntN F k] := by
  simp [knownL, List.range_succ, List.filter_append, h]
theorem knownL_miss (F : Nat → Int) (k : Nat) (h : ¬ 0 < F (k * 6)) : knownL F (k + 1) = knownL F k := by
  simp [knownL, List.range_succ, List.filter_append, h]
theorem knownL_len (F : Nat → Int) (k : Nat) : (knownL F k).length ≤ k := by
  unfold knownL; rw [List.length_map]; exact Nat.le_trans (List.length_filter_le _ _) (by simp)

theorem known_nil (w : World) : Calls Try.prog 23 #[.pointer none] w fun e w' => e = .returned (.slice none 0 0) ∧ w = w' := by
  go_enter Try.func23, Try.ntmps23
  go_wp2
  go_ret
  exact ⟨rfl, rfl⟩

set_option maxHeartbeats 1000000 in
theorem known_any (g n : Nat) (F : Nat → Int) (w : World) (hn : n ≤ 1000) (h : LedAt w g n F) :
    Calls Try.prog 23 #[.pointer (some ⟨g, 0, none⟩)] w fun e w' => ∃ v, e = .returned v ∧ OwnsC w' v (knownL F 8) ∧ (∀ k, v.ownBlock = some k → w.heap.size ≤ k) ∧ Keep (fun _ => False) w w' := by
  obtain ⟨i0, hi, hz0, hz1, hz2⟩ := info_parts Try.infoCnt
  have HI := Lib.hid hi; have HZ0 := Lib.hid hz0; have HZ1 := Lib.hid hz1; have HZ2 := Lib.hid hz2; clear hi hz0 hz1 hz2
  have H := Lib.hid h; clear h
  go_enter Try.func23, Try.ntmps23
  go_wp2
  go_loopw [3, 9] (fun v i wr => ∃ k : Nat, k ≤ 8 ∧ i = .int .i64 k ∧ OwnsC wr v (knownL F k) ∧ (∀ j, v.ownBlock = some j → w.heap.size ≤ j) ∧ Keep (fun _ => False) w wr) (fun _ i _ => 8 - (intOf i).toNat)
  case atStart => exact ⟨0, by decide, rfl, OwnsC.nil _, fun j h => (by cases h), Keep.refl _ _⟩
  case round =>
    obtain ⟨k, hk, rfl, ho, hnew, hkp⟩ := hrel
    obtain ⟨a, c, hv, _⟩ := ho.shape
    subst hv
    have HO := Lib.hid ho; have HN := Lib.hid hnew; have HKP := Lib.hid hkp
    clear ho hnew hkp
    by_cases hlt : k < 8
    · have hik : (k : Int) < 8 := by omega
      have HL := Lib.hid (H.out.kept HKP.out)
      obtain ⟨x0, x1, x2, x3, x4, x5, x6, x7, hx⟩ : ∃ x0 x1 x2 x3 x4 x5 x6 x7, cntN F k = ⟨x0, x1, x2, x3, x4, x5, x6, x7⟩ := ⟨_, _, _, _, _, _, _, _, rfl⟩
      have hx1 : F (k * 6) = x1 := congrArg Cnt.a0 hx
      have hkl := knownL_len F k
      by_cases hit : 0 < F (k * 6)
      · have HK1 := Lib.hid (knownL_hit F k hit)
        rw [hx] at HK1
        rw [hx1] at hit
        have HX := Lib.hid hx
        clear hx hx1
        generalize hLL : knownL F k = L at *
        clear hLL
        go_wp2_with (first
          | (go_at_call 18; (with_reducible refine (count_any g n k F _ hlt hn HL.out).mono ?_); rintro e w2 ⟨rfl, hk2⟩; rw [HX.out, cv]; dsimp only; have HO2 := Lib.hid ((HO.out.keep hk2 (fun _ _ h => h)).alloc (.cells #[.int .i64 x0, .int .i64 x1, .int .i64 x2, .int .i64 x3, .int .i64 x4, .int .i64 x5, .int .i64 x6, .int .i64 x7] 28)); have HK2 := Lib.hid (HKP.out.trans hk2); clear hk2)
          | (at_builtin; refine wpList_append_rows rfl _ _ 41 rfl 28 i0 _ 8 64 Try.underlying41 HI.out HZ0.out HZ1.out HZ2.out rfl (by decide) (.slice a L.length c) L.length (flatC L) rfl (HO2.out.alloc _) (some ⟨w2.heap.size + 1, 0, none⟩) 1 1 (cells8 ⟨x0, x1, x2, x3, x4, x5, x6, x7⟩) rfl rfl (fun h => (by cases h)) (by have := row_news (w2.alloc (.cells #[.int .i64 x0, .int .i64 x1, .int .i64 x2, .int .i64 x3, .int .i64 x4, .int .i64 x5, .int .i64 x6, .int .i64 x7] 28)) (cells8 ⟨x0, x1, x2, x3, x4, x5, x6, x7⟩) 28; rw [World.size_alloc] at this; exact this) (one_cells8 _) (by unfold maxLen; omega) (by omega) ?_; intro v' w3 hown hk3 hnew3 _; rw [flatC_app] at hown; have HO3 := Lib.hid hown; have HK3 := Lib.hid hk3; have HN3 := Lib.hid hnew3; clear hown hk3 hnew3))
        go_roundw
        case rel =>
          refine ⟨k + 1, by omega, by go_num, ?_, fun j hj => ?_, ?_⟩
          · rw [HK1.out]; unfold OwnsC; rw [List.length_append, List.length_singleton]; exact HO3.out
          · rcases HN3.out j hj with h | h
            · exact HN.out j h
            · have := HK2.out.size; simp at h; omega
          · refine ((HK2.out.alloc _).alloc _).then HK3.out (fun j hj hl => ?_)
            have := HN.out j hj; omega
        case measure => simp [intOf]; omega
      · have HK1 := Lib.hid (knownL_miss F k hit)
        rw [hx1] at hit
        have HX := Lib.hid hx
        clear hx hx1
        generalize hLL : knownL F k = L at *
        clear hLL
        go_wp2_with (go_at_call 18; (with_reducible refine (count_any g n k F _ hlt hn HL.out).mono ?_); rintro e w2 ⟨rfl, hk2⟩; rw [HX.out, cv]; dsimp only; have HO2 := Lib.hid ((HO.out.keep hk2 (fun _ _ h => h)).alloc (.cells #[.int .i64 x0, .int .i64 x1, .int .i64 x2, .int .i64 x3, .int .i64 x4, .int .i64 x5, .int .i64 x6, .int .i64 x7] 28)); have HK2 := Lib.hid (HKP.out.trans hk2); clear hk2)
        go_roundw
        case rel => exact ⟨k + 1, by omega, by go_num, by rw [HK1.out]; exact HO2.out, HN.out, HK2.out.alloc _⟩
        case measure => simp [intOf]; omega
    · obtain rfl : k = 8 := by omega
      go_wp2
      go_ret
      exact ⟨_, rfl, HO.out, HN.out, HKP.out⟩

/-- What All hands back: the box of a slice that holds cs; the slice's row was not there ahead of n₀. -/
def TellsC (n₀ : Nat) (w : World) (B : Nat) (cs : List Cnt) : Prop := ∃ sv, Boxed w B 41 sv ∧ OwnsC w sv cs ∧ ∀ k, sv.ownBlock = some k → n₀ ≤ k

set_option maxHeartbeats 400000 in
theorem lall_nil (w : World) :
    Calls Try.prog 15 #[.pointer none] w fun e w' => ∃ B, e = .returned (.func (.func 24) #[] #[.pointer (some ⟨B, 0, none⟩)]) ∧ TellsC w.heap.size w' B [] ∧ w.heap.size ≤ B ∧ Keep (fun _ => False) w w' := by
  have hmf := Try.hmf
  go_enter Try.func15, Try.ntmps15
  go_wp2_with (go_at_call 23; (with_reducible refine (known_nil _).mono ?_); rintro e w' ⟨rfl, rfl⟩)
  go_ret
  exact ⟨_, rfl, ⟨_, Boxed.new w 41 _, OwnsC.nil _, fun k h => by cases h⟩, Nat.le_refl _, (Keep.refl _ w).alloc _⟩

set_option maxHeartbeats 400000 in
theorem lall_any (g n : Nat) (F : Nat → Int) (w : World) (hn : n ≤ 1000) (h : LedAt w g n F) :
    Calls Try.prog 15 #[.pointer (some ⟨g, 0, none⟩)] w fun e w' => ∃ B, e = .returned (.func (.func 24) #[] #[.pointer (some ⟨B, 0, none⟩)]) ∧ TellsC w.heap.size w' B (knownL F 8) ∧ w.heap.size ≤ B ∧ Keep (fun _ => False) w w' := by
  have hmf := Try.hmf
  have H := Lib.hid h; clear h
  go_enter Try.func15, Try.ntmps15
  go_wp2_with (go_at_call 23; (with_reducible refine (known_any g n F w hn H.out).mono ?_); rintro e w2 ⟨v, rfl, ho, hnew, hk⟩; obtain ⟨a, c, hv, _⟩ := ho.shape; subst hv; have HO := Lib.hid ho; have HN := Lib.hid hnew; have HK := Lib.hid hk; clear ho hnew hk)
  go_ret
  exact ⟨_, rfl, ⟨_, Boxed.new w2 41 _, HO.out.alloc _, HN.out⟩, HK.out.size, HK.out.alloc _⟩
end Go.Proofs.Ytcgpoplnfkhhbaa
