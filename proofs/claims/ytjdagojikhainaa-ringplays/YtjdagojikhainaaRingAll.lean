/-
  (*ring.Ring).All hands back a function that tells the places and what is there, in order, till it is told to stop. Conditions: the ring lies in memory as New makes it, or is nil.
-/
import Derived.Test.YtjdagojikhainaaRing
import Derived.Test.YtjdagojikhainaaSchedL
import Derived.Test.YtjdagojikhainaaOperApp
import Derived.RangeFuncNested
import Derived.RangeFuncBound
import Derived.RangeFuncCalls
import Derived.RangeFuncLeaves
import Derived.RangeFuncBox
import Derived.Shelf.Abstract
import Derived.Shelf.RegionOpen
import Derived.OwnWalkIn
import Derived.TacticsInMore
import Derived.LoopNIn
import Derived.LoopIn
namespace Go.Proofs.Ytjdagojikhainaa
open Go.RowKit Go.Shelf

attribute [local go_sem] Oper.semAt_some

theorem Try.hmf (fn : Fn) (first cap : Array Value) (w : World) : (Instr.makeFunc fn first cap).run Try.prog w = .ok (.func fn first cap) w := rfl

theorem boxed_keep {S : Nat → Prop} {W W' : World} {B : Nat} {t : TypeId} {v : Value} (h : Boxed W B t v) (hk : Keep S W W') (hs : ¬ S B) : Boxed W' B t v := (hk.block B h.lt hs).trans h
theorem whole_boxed {w : World} {g : Nat} {t : TypeId} {v : Value} (h : Whole w g t #[v]) : Boxed w g t v := h
theorem boxed_whole {w : World} {g : Nat} {t : TypeId} {v : Value} (h : Boxed w g t v) : Whole w g t #[v] := h
theorem Owns.notBox {w : World} {B : Nat} {t e : TypeId} {v u : Value} {xs : List Value} (h : Owns w e v xs) (hb : Boxed w B t u) (hte : t ≠ e) : v.ownBlock ≠ some B := h.ne (boxed_whole hb) hte
theorem take_more (l : List Int) {k : Nat} (h : k < l.length) : l.take (k + 1) = l.take k ++ [l.getD k 0] := by
  rw [List.take_succ_eq_append_getElem h]; simp [h]

/-- sv holds the numbers l, or is nil and there are none. -/
def IntsAt (W : World) (sv : Value) (l : List Int) : Prop :=
  (sv = .slice none 0 0 ∧ l = []) ∨ ∃ b cap, sv = .slice (some ⟨b, 0, none⟩) l.length cap ∧ b < W.heap.size ∧ ∀ j, j < l.length → W.cell? ⟨b, 0 + j, none⟩ = some (.int .i64 (l.getD j 0))
theorem IntsAt.keep {S : Nat → Prop} {A B : World} (h : Keep S A B) {sv : Value} {l : List Int} (hs : ∀ k, sv.ownBlock = some k → ¬ S k) : IntsAt A sv l → IntsAt B sv l
  | .inl e => .inl e
  | .inr ⟨b, cap, e, hb, hc⟩ => .inr ⟨b, cap, e, Nat.lt_of_lt_of_le hb h.size, fun j hj => (h.cell (p := ⟨b, 0 + j, none⟩) hb (hs b (by rw [e]; rfl))).trans (hc j hj)⟩
theorem IntsAt.shape {A : World} {sv : Value} {l : List Int} (h : IntsAt A sv l) : ∃ a cap, sv = .slice a l.length cap := by
  rcases h with ⟨rfl, rfl⟩ | ⟨b, cap, rfl, _⟩
  · exact ⟨none, 0, rfl⟩
  · exact ⟨_, cap, rfl⟩
theorem Owns.intsAt {w : World} {v : Value} {l : List Int} (h : Owns w 3 v (zv l)) : IntsAt w v l := by
  obtain ⟨a, cap, rfl, hn, ha⟩ := h.shape
  cases a with
  | none =>
    obtain ⟨rfl, e⟩ := hn rfl
    have : l = [] := by have := congrArg List.length e; simpa using this
    subst this
    exact .inl ⟨rfl, rfl⟩
  | some ad =>
    obtain ⟨g, rfl⟩ := ha ad rfl
    refine .inr ⟨g, cap, by rw [len_zv], h.lt rfl, fun j hj => ?_⟩
    rw [Nat.zero_add, h.cell j (by simpa using hj), get_zv]; simp [hj]

/-- What All hands back: the box of a slice that holds l; neither it nor the slice's row was there ahead of n₀. -/
def TellsZ (n₀ : Nat) (w : World) (B : Nat) (l : List Int) : Prop := ∃ sv, Boxed w B 22 sv ∧ Owns w 3 sv (zv l) ∧ ∀ k, sv.ownBlock = some k → n₀ ≤ k

set_option maxHeartbeats 400000 in
theorem rall_nil (w : World) :
    Calls Try.prog 16 #[.pointer none] w fun e w' => e = .returned (.func (.func 20) #[] #[.pointer (some ⟨w.heap.size, 0, none⟩)]) ∧ TellsZ w.heap.size w' w.heap.size [] ∧ Keep (fun _ => False) w w' := by
  have hmf := Try.hmf
  have HK : Hid (Keep (fun _ => False) w (w.alloc (.cells #[.slice none 0 0] 22))) := Lib.hid ((Keep.refl _ w).alloc _)
  go_enter Try.func16, Try.ntmps16
  go_wp2_with (go_at_call 12; (with_reducible refine (rlen_nil _).mono ?_); rintro e w' ⟨rfl, rfl⟩)
  go_loopw [7] (fun i wr => i = .int .i64 0 ∧ wr = w.alloc (.cells #[.slice none 0 0] 22)) (fun _ _ => 0)
  case atStart => exact ⟨rfl, rfl⟩
  case round =>
    obtain ⟨rfl, hw⟩ := hrel
    have HW := Lib.hid hw; clear hw
    go_wp2
    go_ret
    rw [HW.out]
    exact ⟨rfl, ⟨_, Boxed.new w 22 _, Owns.nil _ _, fun k h => by cases h⟩, HK.out⟩

set_option maxHeartbeats 2000000 in
set_option maxRecDepth 100000 in
theorem rall_any (g p N : Nat) (l : List Int) (w : World) (h : RingAt w g p N l) :
    Calls Try.prog 16 #[.pointer (some ⟨g, 0, none⟩)] w fun e w' => e = .returned (.func (.func 20) #[] #[.pointer (some ⟨w.heap.size, 0, none⟩)]) ∧ TellsZ w.heap.size w' w.heap.size l ∧ Keep (fun _ => False) w w' := by
  have hmf := Try.hmf
  have hlt := h.lt
  have hk0 : Keep (fun _ => False) w (w.alloc (.cells #[.slice none 0 0] 22)) := (Keep.refl _ w).alloc _
  have H1 := Lib.hid (h.kept hk0)
  obtain ⟨f, ps, h⟩ := h
  have hn := h.n; have hl := h.len; have hf := h.fle
  have H := Lib.hid h
  have HK := Lib.hid hk0
  have HBX := Lib.hid (Boxed.new w 22 (.slice none 0 0))
  clear h hk0
  obtain ⟨i0, hi, hz0, hz1, hz2⟩ := info_parts Try.infoInt
  have HI := Lib.hid hi; have HZ0 := Lib.hid hz0; have HZ1 := Lib.hid hz1; have HZ2 := Lib.hid hz2; clear hi hz0 hz1 hz2
  go_enter Try.func16, Try.ntmps16
  go_wp2_with (go_at_call 12; (with_reducible refine (rlen_any g p N l _ H1.out).mono ?_); rintro e w' ⟨rfl, rfl⟩)
  go_loopw [7] (fun i wr => ∃ (k : Nat) (v : Value), k ≤ l.length ∧ i = .int .i64 k ∧ Boxed wr w.heap.size 22 v ∧ Owns wr 3 v (zv (l.take k)) ∧ (∀ j, v.ownBlock = some j → w.heap.size ≤ j) ∧ Keep (fun _ => False) w wr) (fun i _ => l.length - (intOf i).toNat)
  case atStart => exact ⟨0, _, Nat.zero_le _, rfl, HBX.out, Owns.nil _ _, fun j h => (by cases h), HK.out⟩
  case round =>
    obtain ⟨k, v, hk, rfl, hb, ho, hnew, hkeep⟩ := hrel
    obtain ⟨a, c, hv, _⟩ := ho.shape
    rw [len_zv, List.length_take, Nat.min_eq_left hk] at hv
    subst hv
    have HB := Lib.hid hb; have HO := Lib.hid ho; have HN := Lib.hid hnew; have HKW := Lib.hid hkeep
    clear ho hnew hkeep HK HBX H1
    by_cases hkl : k < l.length
    · have hi1 : (k : Int) < (l.length : Int) := by omega
      have hN : 0 < N := by omega
      have hm : (f + k) % N < N := Nat.mod_lt _ hN
      have R := Lib.hid (H.out.keep HKW.out id id)
      have d0 := R.out.cells.1
      have d1 := R.out.cells.2.1
      have dx := R.out.at_cell hkl
      have db := hb.cell
      have HTK := Lib.hid (take_more l hkl)
      clear hb
      generalize hx : l.getD k 0 = x at *
      have HX := Lib.hid hx; clear hx
      generalize hM : (f + k) % N = M at *
      go_wp2
      refine wp_region_late (fun W => W.cell? ⟨w.heap.size, 0, none⟩ = some (.slice a k c) ∧ W.cell? ⟨g, 0, none⟩ = some (.slice (some ⟨p, 0, none⟩) N N) ∧ W.cell? ⟨p, M, none⟩ = some (.int .i64 x)) [12] (.yes 0 (.yes 1 (.yes 2 (.yes 3 (.yes 4 (.yes 5 (.yes 6 (.one 7 (.yes 8 (.yes 9 (.one 10 (.one 11 (.one 12 .nil))))))))))))) (by kernel_rfl) (by kernel_rfl) (by kernel_rfl) (by kernel_rfl) ⟨db, d0, dx⟩ ?_
      (repeat (refine wpSchL_yes (v := ?_) rfl (fun _ _ _ h => h) (by rfl) ?_ ?_; rotate_left; (next => (intro w hSw; (try dsimp only at hSw); obtain ⟨hS1, hS2, hS3⟩ := hSw; go_simp; (try with_reducible rfl))); (try simp only [Act.put, List.setIfInBounds_toArray, List.set_cons_zero, List.set_cons_succ])))
      refine wpSchL_one ?_
      refine wpOneL_call rfl (by rfl) (fun K hK => ?_)
      go_simp
      refine (place_is g p N f k wr.drew hM d0 d1 hN hn hf (by omega)).mono ?_
      rintro e w2 ⟨rfl, n2, hw2⟩
      have b2 : Boxed w2 w.heap.size 22 (.slice a k c) := by rw [hw2]; exact HB.out
      have o2 : Owns w2 3 (.slice a k c) (zv (l.take k)) := by rw [hw2]; exact HO.out
      have k2 : Keep (fun _ => False) w w2 := by rw [hw2]; exact (HKW.out.drew).drewN n2
      have r2 := H.out.keep k2 id id
      have hs2 : w.heap.size < w2.heap.size := b2.lt
      clear hw2
      have B2 := Lib.hid b2; have O2 := Lib.hid o2; have K2 := Lib.hid k2; have R2 := Lib.hid r2
      clear b2 o2 k2 r2 HB HO HKW R d0 d1 dx db
      have hne : Hid (¬ (Value.slice a k c).ownBlock = some w.heap.size) := Lib.hid (O2.out.notBox B2.out (by decide))
      refine hK.out _ _ ?_ (fun hHeld => ?_)
      · exact fun _ => ⟨B2.out.cell, R2.out.cells.1, by have := R2.out.at_cell hkl; rw [hM] at this; exact this.trans (by rw [HX.out])⟩
      clear hK K hHeld
      (try simp only [Act.put, List.setIfInBounds_toArray, List.set_cons_zero, List.set_cons_succ])
      (repeat (refine wpSchL_yes (v := ?_) rfl (fun _ _ _ h => h) (by rfl) ?_ ?_; rotate_left; (next => (intro w hSw; (try dsimp only at hSw); obtain ⟨hS1, hS2, hS3⟩ := hSw; go_simp; (try with_reducible rfl))); (try simp only [Act.put, List.setIfInBounds_toArray, List.set_cons_zero, List.set_cons_succ])))
      refine wpSchL_one ?_
      refine wpOneL_call rfl (by rfl) (fun K hK => ?_)
      go_simp
      have r3 := R2.out.keep ((Keep.refl (fun _ => False) w2).alloc (.cells #[.int .i64 x] 3)) id id
      refine hK.out _ _ ?_ (fun hHeld => ?_)
      · exact fun _ => ⟨(B2.out.alloc _).cell, r3.cells.1, by have := r3.at_cell hkl; rw [hM] at this; exact this.trans (by rw [HX.out])⟩
      clear hK K hHeld
      (try simp only [Act.put, List.setIfInBounds_toArray, List.set_cons_zero, List.set_cons_succ])
      refine wpSchL_one ?_
      refine wpOneL_call rfl (by rfl) (fun K hK => ?_)
      refine oper_append_owns (.tmp 10) (.tmp 20) 22 rfl 3 i0 (.int .i64 0) 8 Try.underlying22 HI.out HZ0.out HZ1.out HZ2.out rfl (.slice a k c) (zv (l.take k)) rfl (O2.out.alloc _) (some ⟨w2.heap.size, 0, none⟩) 1 1 [.int .i64 x] rfl rfl (fun h => (by cases h)) (one_news w2 _ _) (one_zv [x]) (by unfold maxLen; rw [len_zv, List.length_take]; omega) (by rw [len_zv, List.length_take]; omega) ?_
      intro v' w3 hown hk3 hnew3 _
      rw [app_zv, ← HTK.out] at hown
      obtain ⟨g', cap', hv'⟩ := hown.pos (by rw [len_zv, List.length_take]; omega)
      rw [len_zv, List.length_take, Nat.min_eq_left (by omega)] at hv'
      subst hv'
      have hgne : ∀ j, j < w.heap.size → ¬ (Value.slice a k c).ownBlock = some j := fun j hj e => by have := HN.out j e; omega
      have b3 : Boxed w3 w.heap.size 22 (.slice a k c) := boxed_keep (B2.out.alloc _) hk3 hne.out
      have r4 := r3.keep hk3 (hgne g hlt.1) (hgne p hlt.2)
      have db3 := b3.cell
      have df3 := b3.frozen
      have B3 := Lib.hid b3; have O3 := Lib.hid hown; have R4 := Lib.hid r4
      have K3 : Hid (Keep (fun _ => False) w w3) := Lib.hid ((K2.out.alloc _).then hk3 (fun j e hj => hgne j hj e))
      have N3 : Hid (∀ j, (Value.slice (some ⟨g', 0, none⟩) (k + 1) cap').ownBlock = some j → w.heap.size ≤ j) := Lib.hid (fun j e => by
        rcases hnew3 j e with h | h
        · exact HN.out j h
        · simp at h; omega)
      clear b3 r4 hown hk3 hnew3 r3
      refine hK.out _ _ ?_ (fun hHeld => ?_)
      · exact fun _ => ⟨B3.out.cell, R4.out.cells.1, by have := R4.out.at_cell hkl; rw [hM] at this; exact this.trans (by rw [HX.out])⟩
      clear hK K hHeld
      (try simp only [Act.put, List.setIfInBounds_toArray, List.set_cons_zero, List.set_cons_succ])
      refine wpSchL_one ?_
      refine wpOneL_call rfl (by rfl) (fun K hK => ?_)
      go_simp
      refine hK.out _ _ ?_ (fun hHeld => ?_)
      · exact fun h => absurd h (by decide)
      clear hK K hHeld
      (try simp only [Act.put, List.setIfInBounds_toArray, List.set_cons_zero, List.set_cons_succ])
      refine wpSchL_nil ?_
      go_wp2
      go_roundw
      case rel =>
        exact ⟨k + 1, _, by omega, by go_num, Boxed.set _ B3.out, O3.out.far (p := ⟨w.heap.size, 0, none⟩) (O3.out.notBox B3.out (by decide)) _, N3.out, K3.out.setCell (p := ⟨w.heap.size, 0, none⟩) (.inr (Nat.le_refl _)) _⟩
      case measure => simp [intOf]; omega
    · obtain rfl : k = l.length := by omega
      have HTK : Hid (l.take l.length = l) := Lib.hid (List.take_length)
      clear hb
      go_wp2
      go_ret
      refine ⟨rfl, ⟨_, HB.out, ?_, HN.out⟩, HKW.out⟩
      have := HO.out
      rwa [HTK.out] at this
end Go.Proofs.Ytjdagojikhainaa
