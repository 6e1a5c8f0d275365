/-
  (*arena.Arena).All hands back a function that tells the places that are given out, rising, till it is told to stop; canterhelp.All collects what it tells. Conditions: the arena lies in memory as New makes it, or is nil.
-/
import Derived.Test.YtlhppmffbidjnaaArena
import Derived.RangeFuncNested
import Derived.RangeFuncBound
import Derived.RangeFuncCalls
import Derived.RangeFuncLeaves
import Derived.Shelf.Abstract
import Derived.Shelf.RegionOpen
import Derived.OwnWalkIn
import Derived.TacticsInMore
import Derived.LoopNIn
import Derived.LoopIn
namespace Go.Proofs.Ytlhppmffbidjnaa
open Go.RowKit Go.Shelf

attribute [local go_sem] Oper.semAt_some

theorem Whole.boxed {w : World} {g : Nat} {t : TypeId} {v : Value} (h : Whole w g t #[v]) : Boxed w g t v := h

/-- sv holds the bools bs, in a block below n₀; or it is nil and there are none. -/
def BoolsAt (n₀ : Nat) (W : World) (sv : Value) (bs : List Bool) : Prop :=
  (sv = .slice none 0 0 ∧ bs = []) ∨ ∃ b cap, sv = .slice (some ⟨b, 0, none⟩) bs.length cap ∧ b < n₀ ∧ ∀ j, j < bs.length → W.cell? ⟨b, 0 + j, none⟩ = some (.bool (bs[j]?.getD false))
theorem BoolsAt.below {n₀ : Nat} {A B : World} (h : Below n₀ A B) {sv : Value} {bs : List Bool} : BoolsAt n₀ A sv bs → BoolsAt n₀ B sv bs
  | .inl e => .inl e
  | .inr ⟨b, cap, e, hb, hc⟩ => .inr ⟨b, cap, e, hb, fun j hj => (h.cell (p := ⟨b, 0 + j, none⟩) hb).trans (hc j hj)⟩
theorem BoolsAt.mono {n₀ n₁ : Nat} {A : World} {sv : Value} {bs : List Bool} (h : n₀ ≤ n₁) : BoolsAt n₀ A sv bs → BoolsAt n₁ A sv bs
  | .inl e => .inl e
  | .inr ⟨b, cap, e, hb, hc⟩ => .inr ⟨b, cap, e, by omega, hc⟩
theorem BoolsAt.shape {n₀ : Nat} {A : World} {sv : Value} {bs : List Bool} (h : BoolsAt n₀ A sv bs) : ∃ a cap, sv = .slice a bs.length cap := by
  rcases h with ⟨rfl, rfl⟩ | ⟨b, cap, rfl, _⟩
  · exact ⟨none, 0, rfl⟩
  · exact ⟨_, cap, rfl⟩
theorem Owns.boolsAt {w : World} {v : Value} {bs : List Bool} (h : Owns w 4 v (bools bs)) : BoolsAt w.heap.size w v bs := by
  obtain ⟨a, cap, rfl, hn, ha⟩ := h.shape
  cases a with
  | none =>
    obtain ⟨rfl, e⟩ := hn rfl
    have : bs = [] := by have := congrArg List.length e; simpa using this
    subst this
    exact .inl ⟨rfl, rfl⟩
  | some ad =>
    obtain ⟨g, rfl⟩ := ha ad rfl
    refine .inr ⟨g, cap, by rw [len_bools], h.lt rfl, fun j hj => ?_⟩
    rw [Nat.zero_add, h.cell j (by simpa using hj), get_bools]; simp [hj]

set_option maxHeartbeats 400000 in
theorem clone_any (v : Value) (bs : List Bool) (w : World) (h : Owns w 4 v (bools bs)) (hl : bs.length ≤ 4096) :
    Calls Try.prog 25 #[v] w fun e w' => ∃ v', e = .returned v' ∧ Owns w' 4 v' (bools bs) ∧ Keep (fun _ => False) w w' := by
  obtain ⟨a, cap, rfl, hn, ha⟩ := h.shape
  obtain ⟨i0, hi, hz0, hz1, hz2⟩ := info_parts Try.infoBool
  have HI := Lib.hid hi; have HZ0 := Lib.hid hz0; have HZ1 := Lib.hid hz1; have HZ2 := Lib.hid hz2; clear hi hz0 hz1 hz2
  have H := Lib.hid h; clear h
  have hq : ∀ (w : World) (a : Option Addr) (n c n' c' : Nat), (binOp .eql 43 (.slice a n c) (.slice none n' c')).run Try.prog w = .ok (.bool a.isNone) w := fun w a n c n' c' => Lib.run_eql_slice_nil w _ _ a n c n' c' Try.underlying43
  cases a with
  | none =>
    obtain ⟨rfl, e⟩ := hn rfl
    rw [e] at *
    clear hn ha
    go_enter Try.func25, Try.ntmps25
    go_wp2
    go_ret
    exact ⟨_, rfl, Owns.nil _ _, Keep.refl _ _⟩
  | some ad =>
    obtain ⟨g, rfl⟩ := ha ad rfl
    have HM := Lib.hid (H.out.alloc (.cells #[] 4)).news
    have HL := Lib.hid (Owns.lit w 4 [] (Nat.zero_le _))
    clear hn ha
    go_enter Try.func25, Try.ntmps25
    go_wp2_with (at_builtin; refine wpList_append_owns rfl _ _ 43 rfl 4 i0 (.bool false) 1 Try.underlying43 HI.out HZ0.out HZ1.out HZ2.out rfl (.slice (some ⟨w.heap.size, 0, none⟩) 0 0) [] rfl HL.out (some ⟨g, 0, none⟩) (bools bs).length cap (bools bs) rfl rfl (fun h => (by cases h)) (fun a e => by cases e; exact HM.out) (one_bools bs) (by unfold maxLen; rw [len_bools]; simp; omega) (by rw [len_bools]; simp; omega) ?_; intro v' w1 hown hk hnew hnil; rw [List.nil_append] at hown; obtain ⟨a', cap', hv, _⟩ := hown.shape; rw [len_bools] at hv; subst hv; have HO := Lib.hid hown; have HK := Lib.hid hk; clear hown hk hnew hnil)
    go_ret
    have hh : ∀ k, (Value.slice (some ⟨w.heap.size, 0, none⟩) 0 0).ownBlock = some k → k < w.heap.size → False := fun k hk hlt => by
      simp [Value.ownBlock] at hk; omega
    exact ⟨_, rfl, HO.out, ((Keep.refl _ w).alloc _).then HK.out hh⟩

/-- What All hands back: a function that tells bs. -/
def Tells (n₀ : Nat) (w : World) (B : Nat) (bs : List Bool) : Prop := ∃ sv, Boxed w B 43 sv ∧ BoolsAt n₀ w sv bs

theorem Try.hmf (fn : Fn) (first cap : Array Value) (w : World) : (Instr.makeFunc fn first cap).run Try.prog w = .ok (.func fn first cap) w := rfl

theorem Try.hnf (fn : Fn) (first cap : Array Value) (w : World) : (binOp .eql 32 (.func fn first cap) .nilFunc).run Try.prog w = .ok (.bool false) w := by kernel_rfl
theorem Try.hnf' (fn : Fn) (first cap : Array Value) (w : World) : (binOp .eql 37 (.func fn first cap) .nilFunc).run Try.prog w = .ok (.bool false) w := by kernel_rfl

set_option maxHeartbeats 400000 in
theorem all_any (S : Nat → Prop) (g : Nat) (s : St) (w : World) (h : ArenaAt 45 w S g s) :
    Calls Try.prog 20 #[.pointer (some ⟨g, 0, none⟩)] w fun e w' => e = .returned (.func (.func 26) #[] #[.pointer (some ⟨w.heap.size, 0, none⟩)]) ∧ Tells w'.heap.size w' w.heap.size s.out ∧ Keep (fun _ => False) w w' := by
  have hob : s.out.length ≤ 4096 := Nat.le_trans h.ok.len h.ok.n
  obtain ⟨ag, cg, af, cf, hraw, _, _, _, _, _, _, _⟩ := h.open
  have hr0 := hraw.alloc (.cells #[.slice none 0 0] 43)
  obtain ⟨_, c1, _⟩ := hr0.cells
  have HO := Lib.hid hr0.2.1
  have hmf := Try.hmf
  have HB := Lib.hid (Whole.new w 43 #[.slice none 0 0])
  clear h hraw hr0
  go_enter Try.func20, Try.ntmps20
  go_wp2_with (go_at_call 25; (with_reducible refine (clone_any _ _ _ HO.out hob).mono ?_); rintro e w1 ⟨v', rfl, ho, hk⟩; have hb1 := HB.out.keep hk (fun h => h); have hc1 := hb1.cell 0; have hf1 := hb1.free 0; obtain ⟨a', cap', hv, _⟩ := ho.shape; rw [len_bools] at hv; subst hv; have HO1 := Lib.hid ho; have HK := Lib.hid hk; have HB1 := Lib.hid hb1; clear ho hk hb1)
  go_ret
  refine ⟨rfl, ⟨_, (HB1.out.put 0 _), ?_⟩, ((((Keep.refl _ w).alloc _).trans HK.out).setCell (p := ⟨w.heap.size, 0, none⟩) (.inr (Nat.le_refl _)) _)⟩
  have hne := HO1.out.ne HB1.out (by decide)
  exact (HO1.out.far (p := ⟨w.heap.size, 0, none⟩) hne _).boolsAt

set_option maxHeartbeats 400000 in
theorem all_nil (w : World) :
    Calls Try.prog 20 #[.pointer none] w fun e w' => e = .returned (.func (.func 26) #[] #[.pointer (some ⟨w.heap.size, 0, none⟩)]) ∧ Tells w'.heap.size w' w.heap.size [] ∧ Keep (fun _ => False) w w' := by
  have hmf := Try.hmf
  go_enter Try.func20, Try.ntmps20
  go_wp2
  go_ret
  exact ⟨rfl, ⟨_, Boxed.new w 43 _, .inl ⟨rfl, rfl⟩⟩, (Keep.refl _ w).alloc _⟩

/-! ### slices.All -/
def upto {α : Type} (f : Nat → α) (k : Nat) : List α := (List.range k).map f
theorem upto_succ {α : Type} (f : Nat → α) (k : Nat) : upto f (k + 1) = upto f k ++ [f k] := by simp [upto, List.range_succ]
theorem upto_length {α : Type} (f : Nat → α) (k : Nat) : (upto f k).length = k := by simp [upto]
abbrev pairs (bs : List Bool) (j : Nat) : Nat × Bool := (j, bs[j]?.getD false)

set_option maxRecDepth 100000 in
set_option maxHeartbeats 2000000 in
theorem sall1_in (F : Fence) (n : Nat) (h8 : F.fn 28) (hro : F.round = none) (hn : 1 ≤ n) (l Bs n₀ b len cap : Nat) (bs : List Bool) (hreach : len ≤ 4096) (hb : b < n₀) (J Jx : List (Nat × Bool) → World → Prop)
    (hY : ∀ pre x W, J pre W → pre.length < len → YieldAt F (n - 1) Try.prog l #[.int .i64 (x.1 : Int), .bool x.2] W fun e W' =>
      (e = .returned (.bool true) ∧ J (pre ++ [x]) W' ∧ Below n₀ W W') ∨ (e = .returned (.bool false) ∧ Jx (pre ++ [x]) W'))
    (W : World) (hBs : W.cell? ⟨Bs, 0, none⟩ = some (.slice (some ⟨b, 0, none⟩) len cap)) (hc : ∀ j, j < len → W.cell? ⟨b, 0 + j, none⟩ = some (.bool (bs[j]?.getD false))) (h0 : J [] W) :
    CallsIn F n Try.prog 28 #[.func (.yield l) #[] #[], .pointer (some ⟨Bs, 0, none⟩)] W fun e W' => (∃ v, e = .returned v) ∧
      ((∃ ys, ys = upto (pairs bs) len ∧ J ys W') ∨ (∃ pre, (∃ k, k ≤ len ∧ pre = upto (pairs bs) k) ∧ Jx pre W')) := by
  refine callsIn_of_wp Try.func28 rfl h8 ?_ hro
  simp only [Try.ntmps28, List.size_toArray, List.length_cons, List.length_nil, Nat.reduceAdd, Nat.reduceSub, Array.replicate_succ, Array.replicate_zero, List.push_toArray, List.append_toArray, List.nil_append, List.cons_append]
  gi_wp2
  gi_loopw [7] (fun i wr => ∃ k : Nat, k ≤ len ∧ i = .int .i64 k ∧ J (upto (pairs bs) k) wr ∧ Below n₀ W wr)
    (fun i _ => len - (intOf i).toNat)
  case atStart => exact ⟨0, Nat.zero_le _, rfl, h0, Below.refl _ _⟩
  case round =>
    obtain ⟨k, hk, rfl, hJs, hnx⟩ := hrel
    have hcx : k < len → wr.cell? ⟨b, k, none⟩ = some (.bool (bs[k]?.getD false)) := fun h => (hnx.cell (p := ⟨b, k, none⟩) hb).trans (by have := hc k h; rwa [Nat.zero_add] at this)
    by_cases hlt : k < len
    · obtain ⟨fn, tmps, assign, body, hy, hR⟩ := hY _ (k, bs[k]?.getD false) wr hJs (by rw [upto_length]; exact hlt)
      dsimp only at hy
      have hcx' := hcx hlt
      gi_wp2
      refine hR.mono ?_
      rintro e W3 (⟨rfl, hJ3, hk3⟩ | ⟨rfl, hJx3⟩)
      · gi_wp2
        go_roundw
        case rel => exact ⟨k + 1, by omega, by go_num, by rw [upto_succ]; exact hJ3, hnx.trans hk3⟩
        case measure => simp [intOf]; omega
      · gi_wp2
        refine bodyPost_ret (results_none rfl _ _ _) rfl ?_
        exact ⟨⟨_, rfl⟩, .inr ⟨_, ⟨k + 1, by omega, (upto_succ _ _).symm⟩, hJx3⟩⟩
    · obtain rfl : k = len := by omega
      gi_wp2
      go_end0
      exact ⟨⟨_, rfl⟩, .inl ⟨_, rfl, hJs⟩⟩

set_option maxRecDepth 100000 in
set_option maxHeartbeats 1000000 in
theorem sall1_nil_in (F : Fence) (n : Nat) (h8 : F.fn 28) (hro : F.round = none) (l Bs : Nat) (J : List (Nat × Bool) → World → Prop) (W : World) (hBs : W.cell? ⟨Bs, 0, none⟩ = some (.slice none 0 0)) (h0 : J [] W) :
    CallsIn F n Try.prog 28 #[.func (.yield l) #[] #[], .pointer (some ⟨Bs, 0, none⟩)] W fun e W' => (∃ v, e = .returned v) ∧ J [] W' := by
  refine callsIn_of_wp Try.func28 rfl h8 ?_ hro
  simp only [Try.ntmps28, List.size_toArray, List.length_cons, List.length_nil, Nat.reduceAdd, Nat.reduceSub, Array.replicate_succ, Array.replicate_zero, List.push_toArray, List.append_toArray, List.nil_append, List.cons_append]
  gi_wp2
  gi_loopw [7] (fun i wr => i = .int .i64 0 ∧ J [] wr) (fun _ _ => 0)
  case atStart => exact ⟨rfl, h0⟩
  case round =>
    obtain ⟨rfl, hJs⟩ := hrel
    gi_wp2
    go_end0
    exact ⟨⟨_, rfl⟩, hJs⟩

set_option maxHeartbeats 1000000 in
theorem sall_in (F : Fence) (n : Nat) (h6 : F.fn 27) (hro : F.round = none) (a : Option Addr) (len cap : Nat) (w : World) :
    CallsIn F n Try.prog 27 #[.slice a len cap] w fun e w' => e = .returned (.func (.func 28) #[] #[.pointer (some ⟨w.heap.size, 0, none⟩)]) ∧ w' = w.alloc (.cells #[.slice a len cap] 43) := by
  refine callsIn_of_wp Try.func27 rfl h6 ?_ hro
  simp only [Try.ntmps27, List.size_toArray, List.length_cons, List.length_nil, Nat.reduceAdd, Nat.reduceSub, Array.replicate_succ, Array.replicate_zero, List.push_toArray, List.append_toArray, List.nil_append, List.cons_append]
  gi_wp2
  go_ret
  exact ⟨rfl, rfl⟩

theorem sall_stops (F : Fence) (n : Nat) (h8 : F.fn 28) (hro : F.round = none) (hn : 1 ≤ n) (Bs n₀ : Nat) (sv : Value) (bs : List Bool) (hreach : bs.length ≤ 4096) (w : World) (hBs : Bs < w.heap.size) (hn₀ : n₀ ≤ w.heap.size)
    (hc : w.cell? ⟨Bs, 0, none⟩ = some sv) (hI : BoolsAt n₀ w sv bs) :
    SeqStopsK F n Try.prog 28 #[.pointer (some ⟨Bs, 0, none⟩)] (fun x : Nat × Bool => #[Value.int .i64 (x.1 : Int), Value.bool x.2]) (Below n₀) (fun ys => ys = upto (pairs bs) bs.length)
      (fun pre => ∃ k, k ≤ bs.length ∧ pre = upto (pairs bs) k) bs.length w := fun l J Jx W hW _ _ hY h0 => by
  have hc' := (hW.cell (p := ⟨Bs, 0, none⟩) hBs).trans hc
  rcases hI.below (hW.mono hn₀) with ⟨rfl, rfl⟩ | ⟨b, cap, rfl, hb, hcs⟩
  · exact (sall1_nil_in F n h8 hro l Bs J W hc' h0).mono fun e W' ⟨he, hj⟩ => ⟨he, .inl ⟨_, rfl, hj⟩⟩
  · exact sall1_in F n h8 hro hn l Bs n₀ b bs.length cap bs hreach hb J Jx hY W hc' hcs h0

/-! ### What canterhelp.All hands over as yield -/
set_option maxHeartbeats 400000 in
theorem yield_any (n₀ Bo Bm : Nat) (m x : Int) (v : Value) (l : List Nat) (i : Nat) (hx : x = i) (W : World) (hv : Boxed W Bo 22 v) (hrow : W.ownsRow n₀ 3 1 v l.length (ints l)) (hn₀ : n₀ ≤ W.heap.size) (hle : n₀ ≤ Bo) (hBm : Bm < n₀) (hm : W.cell? ⟨Bm, 0, none⟩ = some (.int .i64 m)) (hlen : l.length ≤ 4096) :
    Calls Try.prog 24 #[.int .i64 x, .pointer (some ⟨Bo, 0, none⟩), .pointer (some ⟨Bm, 0, none⟩)] W fun e W' => e = .returned (.bool (decide (((l.length + 1 : Nat) : Int) < m))) ∧
      (∃ v', Boxed W' Bo 22 v' ∧ W'.ownsRow n₀ 3 1 v' (l ++ [i]).length (ints (l ++ [i])) ∧ v' ≠ .slice none 0 0) ∧ KeepsOthers W W' ∧ Below n₀ W W' ∧ ∀ B t u, Boxed W B t u → B ≠ Bo → t ≠ 3 → Boxed W' B t u := by
  subst hx
  obtain ⟨a, c, rfl⟩ : ∃ a c, v = .slice a l.length c := by
    rcases hrow.2 with ⟨rfl, h0⟩ | ⟨g, cap, cur, rfl, _⟩
    · exact ⟨none, 0, by rw [h0]⟩
    · exact ⟨_, _, rfl⟩
  obtain ⟨i0, hi, hz0, hz1, hz2⟩ := info_parts Try.infoInt
  have HI := Lib.hid hi; have HZ0 := Lib.hid hz0; have HZ1 := Lib.hid hz1; have HZ2 := Lib.hid hz2; clear hi hz0 hz1 hz2
  have hc := hv.cell
  have HV := Lib.hid hv; have HROW := Lib.hid hrow; clear hv hrow
  go_enter Try.func24, Try.ntmps24
  go_wp2_with (at_builtin; refine wpList_append_own _ rfl _ _ 22 rfl n₀ 3 i0 (.int .i64 0) 1 8 Try.underlying22 HI.out HZ0.out HZ1.out HZ2.out rfl (by decide) _ _ _ rfl (HROW.out.alloc _) ⟨W.heap.size, 0, none⟩ 1 1 [.int .i64 (i : Int)] rfl rfl (cell_one_new _ _ _) (one_ints [i]) (by unfold maxLen; omega) (by omega) (by simp; omega) ?_; intro v' w1 hown' hgrow _; obtain ⟨g', cap', hv'⟩ := ownsRow_succ hown'; subst hv'; obtain ⟨hv1, hv2, hr2, hk2, hb2⟩ := HV.out.appended (by decide) HROW.out hn₀ hle hown' hgrow; have hc1 := hv1.cell; have hf1 := hv1.frozen; have hm1 : (w1.setCell ⟨Bo, 0, none⟩ (.slice (some ⟨g', 0, none⟩) (l.length + 1) cap')).cell? ⟨Bm, 0, none⟩ = some (.int .i64 m) := (hb2.cell (p := ⟨Bm, 0, none⟩) hBm).trans hm; have HR := Lib.hid (⟨hv2, hr2, hk2, hb2⟩ : _ ∧ _ ∧ _ ∧ _); have HG := Lib.hid hgrow; clear hown' hgrow hv1 hv2 hr2 hk2 hb2)
  go_ret
  obtain ⟨h2, h3, h4, h5⟩ := HR.out
  refine ⟨by simp, ⟨_, h2, by rw [app_ints] at h3; simpa using h3, by simp⟩, h4, h5, fun B t u hB hne ht => ?_⟩
  exact ((hB.alloc _).kept HG.out (hB.not_row ht HROW.out)).other hne _

theorem yield_is (b : Bool) (n₀ Bo Bm : Nat) (m x : Int) (v : Value) (l : List Nat) (i : Nat) (hx : x = i) (hb : decide (((l.length + 1 : Nat) : Int) < m) = b) (W : World) (hv : Boxed W Bo 22 v) (hrow : W.ownsRow n₀ 3 1 v l.length (ints l)) (hn₀ : n₀ ≤ W.heap.size) (hle : n₀ ≤ Bo) (hBm : Bm < n₀) (hm : W.cell? ⟨Bm, 0, none⟩ = some (.int .i64 m)) (hlen : l.length ≤ 4096) :
    Calls Try.prog 24 #[.int .i64 x, .pointer (some ⟨Bo, 0, none⟩), .pointer (some ⟨Bm, 0, none⟩)] W fun e W' => e = .returned (.bool b) ∧
      (∃ v', Boxed W' Bo 22 v' ∧ W'.ownsRow n₀ 3 1 v' (l ++ [i]).length (ints (l ++ [i])) ∧ v' ≠ .slice none 0 0) ∧ KeepsOthers W W' ∧ Below n₀ W W' ∧ ∀ B t u, Boxed W B t u → B ≠ Bo → t ≠ 3 → Boxed W' B t u := by
  subst hb; exact yield_any n₀ Bo Bm m x v l i hx W hv hrow hn₀ hle hBm hm hlen

/-! ### What All$1 tells to it -/
def told (pre : List (Nat × Bool)) : List Nat := (pre.filter fun p => p.2).map fun p => p.1
theorem told_hit (pre : List (Nat × Bool)) {x : Nat × Bool} (h : x.2 = true) : told (pre ++ [x]) = told pre ++ [x.1] := by simp [told, h]
theorem told_miss (pre : List (Nat × Bool)) {x : Nat × Bool} (h : x.2 = false) : told (pre ++ [x]) = told pre := by simp [told, h]
theorem told_upto (bs : List Bool) (k : Nat) : told (upto (pairs bs) k) = (List.range k).filter fun i => bs[i]?.getD false := by
  induction k with
  | zero => rfl
  | succ k ih =>
    rw [upto_succ, List.range_succ, List.filter_append, ← ih]
    cases h : bs[k]?.getD false
    · rw [told_miss _ h]; simp [h]
    · rw [told_hit _ h]; simp [h]
theorem told_prefix (bs : List Bool) {k n : Nat} (h : k ≤ n) : told (upto (pairs bs) k) <+: told (upto (pairs bs) n) := by
  rw [told_upto, told_upto]
  obtain ⟨d, rfl⟩ : ∃ d, n = k + d := ⟨n - k, by omega⟩
  rw [List.range_add, List.filter_append]
  exact List.prefix_append _ _
theorem told_le (pre : List (Nat × Bool)) : (told pre).length ≤ pre.length := by unfold told; rw [List.length_map]; exact List.length_filter_le _ _

/-- What is told where m at most are asked for (one at the least). -/
def toldOf (bs : List Bool) (m : Int) : List Nat := (allOf bs).take (max 1 m.toNat)

set_option maxRecDepth 100000 in
set_option maxHeartbeats 2000000 in
theorem range_any (n₀ Bo Bm Bg : Nat) (m : Int) (bs : List Bool) (hlen : bs.length ≤ 4096) (w : World) (hT : Tells n₀ w Bg bs) (hv : Boxed w Bo 22 (.slice none 0 0)) (hle : n₀ ≤ Bo) (hBm : Bm < n₀) (hm : w.cell? ⟨Bm, 0, none⟩ = some (.int .i64 m)) :
    Calls Try.prog 26 #[.func (.func 24) #[] #[.pointer (some ⟨Bo, 0, none⟩), .pointer (some ⟨Bm, 0, none⟩)], .pointer (some ⟨Bg, 0, none⟩)] w fun e W' => (∃ v, e = .returned v) ∧
      (∃ v, Boxed W' Bo 22 v ∧ W'.ownsRow n₀ 3 1 v (toldOf bs m).length (ints (toldOf bs m))) ∧ Below n₀ w W' := by
  obtain ⟨sv, hbox, hbs⟩ := hT
  obtain ⟨a, cap, rfl⟩ := hbs.shape
  have hn₀ : n₀ ≤ w.heap.size := Nat.le_trans hle (Nat.le_of_lt hv.lt)
  have hbo : Bo < w.heap.size := hv.lt
  refine (callsIn_wide (n := 3)).1 ?_
  refine callsIn_of_wp_marks Try.func26 rfl trivial ?_ rfl
  have hnf := Try.hnf
  have cg := (hbox.alloc (.cells #[.func (.func 24) #[] #[.pointer (some ⟨Bo, 0, none⟩), .pointer (some ⟨Bm, 0, none⟩)]] 32)).cell
  simp only [Try.ntmps26, List.size_toArray, List.length_cons, List.length_nil, Nat.reduceAdd, Nat.reduceSub, Array.replicate_succ, Array.replicate_zero, List.push_toArray, List.append_toArray, List.nil_append, List.cons_append]
  gi_wp2_with (refine ⟨trivial, ?_⟩; gi_at_call 27; refine (sall_in Fence.wide _ trivial rfl _ _ _ _).mono ?_; rintro e w' ⟨rfl, rfl⟩)
  obtain ⟨y, hy⟩ : ∃ y : Value, y = .func (.func 24) #[] #[.pointer (some ⟨Bo, 0, none⟩), .pointer (some ⟨Bm, 0, none⟩)] := ⟨_, rfl⟩
  clear hnf
  rw [← hy] at cg ⊢
  have bY := Boxed.new w 32 y
  have bS := Boxed.new (w.alloc (.cells #[y] 32)) 43 (.slice a bs.length cap)
  rw [World.size_alloc] at bS
  have hB0 : Below n₀ w ((w.alloc (.cells #[y] 32)).alloc (.cells #[.slice a bs.length cap] 43)) := ((Below.refl _ w).alloc hn₀ _).alloc (by simp; omega) _
  refine wpIn_rangeFunc_ownG rfl (by omega) (gf := 28) (lb := #[.pointer (some ⟨w.heap.size + 1, 0, none⟩)]) rfl trivial (enters_of Try.func28 (by kernel_rfl) rfl)
    (sall_stops Fence.wide _ trivial rfl (by omega) (w.heap.size + 1) n₀ _ bs hlen _ (by simp) (by simp; omega) bS.cell (hbs.below hB0)) belowK_t (belowK_b (by simp; omega)) (Below.refl _ _) (fun _ => rfl)
    (fun pre W => ((∃ v, Boxed W Bo 22 v ∧ W.ownsRow n₀ 3 1 v (told pre).length (ints (told pre)) ∧ (told pre = [] ∨ ((told pre).length : Int) < m)) ∧ Boxed W w.heap.size 32 y) ∧ Below n₀ w W)
    (fun c pre W => ((∃ v, Boxed W Bo 22 v ∧ W.ownsRow n₀ 3 1 v (told pre).length (ints (told pre)) ∧ (told pre).length = max 1 m.toNat) ∧ c = .ret) ∧ Below n₀ w W)
    (OwnFrom.and (OwnFrom.and (Own.from (holdsRow_own n₀ Bo 22 3 1 (fun pre => (told pre).length) (fun pre => ints (told pre)) (fun pre _ => told pre = [] ∨ ((told pre).length : Int) < m)) _) (Own.from (boxed_own w.heap.size 32 (fun _ => y)) _)) (ownFrom_below hn₀ (by simp; omega)))
    (fun c => OwnFrom.and (OwnFrom.and (Own.from (holdsRow_own n₀ Bo 22 3 1 (fun pre => (told pre).length) (fun pre => ints (told pre)) (fun pre _ => (told pre).length = max 1 m.toNat)) _) (ownFrom_pure _ (fun _ => c = .ret))) (ownFrom_below hn₀ (by simp; omega)))
    ⟨⟨⟨_, (hv.alloc _).alloc _, World.ownsRow_nil _ _ _ _, .inl rfl⟩, bY.alloc _⟩, hB0⟩
    (fun x => { tmps := #[y, .pointer (some ⟨Bg, 0, none⟩), .pointer (some ⟨w.heap.size, 0, none⟩), .int .i64 (x.1 : Int), .bool x.2, y, .bool false, .slice a bs.length cap, .func (.func 28) #[] #[.pointer (some ⟨w.heap.size + 1, 0, none⟩)], .int .i64 (x.1 : Int), .bool x.2, undef, undef, undef, undef, undef, undef, undef], defers := [] }) ?assign ?body ?done ?stop
  case assign =>
    intro l x W K hK
    gi_wp2
    rw [hy] at hK
    exact hK
  case body =>
    rintro l pre ⟨i, b⟩ W ⟨⟨⟨v, hv', hrow, hcnt⟩, hY⟩, hB⟩ hpl
    have cy := hY.cell
    rw [hy] at cy
    have hle' : (told pre).length ≤ 4096 := by have := told_le pre; omega
    have hmW : W.cell? ⟨Bm, 0, none⟩ = some (.int .i64 m) := (hB.cell (p := ⟨Bm, 0, none⟩) hBm).trans hm
    have hnW : n₀ ≤ W.heap.size := Nat.le_trans hn₀ hB.size
    have HV := Lib.hid hv'; have HR := Lib.hid hrow; have HY := Lib.hid hY; have HB := Lib.hid hB; have HM := Lib.hid hmW; have HC := Lib.hid hcnt
    clear hv' hrow hY hB hmW hv bY bS hB0 hbs hbox cg hcnt
    cases b with
    | false =>
      gi_wp2
      refine ⟨fun _ h => (by cases h), ?_⟩
      gi_wp2
      exact ⟨KeepsFrom.refl _ _, Below.refl _ _, ⟨⟨v, HV.out, by rw [told_miss pre rfl]; exact HR.out, by rw [told_miss pre rfl]; exact HC.out⟩, HY.out⟩, HB.out⟩
    | true =>
      by_cases hgo : (((told pre).length + 1 : Nat) : Int) < m
      · have hd : decide ((((told pre).length + 1 : Nat) : Int) < m) = true := by simpa using hgo
        gi_wp2_with (refine ⟨trivial, ?_⟩; gi_at_call 24; refine (CallsIn.inRound l (callsIn_wide.2 (yield_is true n₀ Bo Bm m _ v (told pre) i rfl hd W HV.out HR.out hnW hle hBm HM.out hle'))).mono ?_; rintro e w' ⟨rfl, hv2, hk2, hb2, hoth⟩)
        obtain ⟨v2, h1, h2, _⟩ := hv2
        refine ⟨hk2.from _, hb2, ⟨⟨v2, h1, by rw [told_hit pre rfl]; exact h2, .inr ?_⟩, hoth _ _ _ HY.out (by omega) (by decide)⟩, HB.out.trans hb2⟩
        rw [told_hit pre rfl, List.length_append, List.length_singleton]; exact hgo
      · have hd : decide ((((told pre).length + 1 : Nat) : Int) < m) = false := by simpa using hgo
        gi_wp2_with (refine ⟨trivial, ?_⟩; gi_at_call 24; refine (CallsIn.inRound l (callsIn_wide.2 (yield_is false n₀ Bo Bm m _ v (told pre) i rfl hd W HV.out HR.out hnW hle hBm HM.out hle'))).mono ?_; rintro e w' ⟨rfl, hv2, hk2, hb2, hoth⟩)
        obtain ⟨v2, h1, h2, _⟩ := hv2
        refine ⟨hk2.from _, ⟨⟨v2, h1, by rw [told_hit pre rfl]; exact h2, ?_⟩, rfl⟩, HB.out.trans hb2⟩
        rw [told_hit pre rfl, List.length_append, List.length_singleton]
        rcases HC.out with h | h
        · rw [h] at hgo ⊢; simp at hgo ⊢; omega
        · omega
  case done =>
    rintro D ys W hD rfl ⟨⟨⟨v, hv', hrow, hcnt⟩, hY⟩, hB⟩ hK
    gi_wp2
    refine ⟨by simp, .inl ⟨_, _, rfl, run_takeDeferred hK, ?_⟩⟩
    have ht : told (upto (pairs bs) bs.length) = toldOf bs m := by
      rw [told_upto] at hcnt ⊢
      show allOf bs = (allOf bs).take _
      rw [List.take_of_length_le]
      show (allOf bs).length ≤ _
      rcases hcnt with h | h
      · rw [show allOf bs = [] from h]; simp
      · have : ((allOf bs).length : Int) < m := h
        omega
    rw [ht] at hrow
    exact ⟨_, results_none rfl _ _ _, ⟨_, rfl⟩, ⟨v, (World.putObj_heap_other (by simp at hD; omega)).trans hv', ownsRow_putObj hrow _ hK rfl⟩, hB.trans (belowK_b (w := w) hn₀ W D _ _ (by simp at hD; omega) hK rfl rfl)⟩
  case stop =>
    rintro D c pre W hD ⟨k, hk, rfl⟩ ⟨⟨⟨v, hv', hrow, hcnt⟩, rfl⟩, hB⟩ hK
    gi_wp2
    refine ⟨by simp, .inl ⟨_, _, rfl, run_takeDeferred hK, ?_⟩⟩
    have ht : told (upto (pairs bs) k) = toldOf bs m := by
      unfold toldOf
      rw [← hcnt]
      have hp := told_prefix bs hk
      rw [told_upto bs bs.length] at hp
      exact (List.prefix_iff_eq_take.1 hp)
    rw [ht] at hrow
    exact ⟨_, results_none rfl _ _ _, ⟨_, rfl⟩, ⟨v, (World.putObj_heap_other (by simp at hD; omega)).trans hv', ownsRow_putObj hrow _ hK rfl⟩, hB.trans (belowK_b (w := w) hn₀ W D _ _ (by simp at hD; omega) hK rfl rfl)⟩

theorem owns_of_row {w : World} {base : Nat} {v : Value} {l : List Nat} (h : w.ownsRow base 3 1 v l.length (ints l)) : Owns w 3 v (ints l) := by
  unfold Owns
  rw [len_ints]
  rcases h.2 with h2 | ⟨g, cap, cur, e, _, r⟩
  · exact ⟨h.1, .inl h2⟩
  · exact ⟨h.1, .inr ⟨g, cap, cur, e, Nat.zero_le _, r⟩⟩

set_option maxHeartbeats 1000000 in
/-- canterhelp.All of what All has handed back: the places told, as a slice of its own. -/
theorem hall_any (Bg : Nat) (m : Int) (bs : List Bool) (hlen : bs.length ≤ 4096) (w : World) (hT : Tells w.heap.size w Bg bs) :
    Calls Try.prog 19 #[.func (.func 26) #[] #[.pointer (some ⟨Bg, 0, none⟩)], .int .i64 m] w fun e w' =>
      ∃ v, e = .returned v ∧ Owns w' 3 v (ints (toldOf bs m)) ∧ (∀ k, v.ownBlock = some k → w.heap.size ≤ k) ∧ Keep (fun _ => False) w w' := by
  have hmf := Try.hmf
  have hnf := Try.hnf'
  obtain ⟨sv, hbox, hbs⟩ := hT
  have hB0 : Below w.heap.size w ((w.alloc (.cells #[.int .i64 m] 3)).alloc (.cells #[.slice none 0 0] 22)) := ((Below.refl _ w).alloc (Nat.le_refl _) _).alloc (by simp) _
  have bM := (Boxed.new w 3 (.int .i64 m)).alloc (.cells #[.slice none 0 0] 22)
  have bO := Boxed.new (w.alloc (.cells #[.int .i64 m] 3)) 22 (.slice none 0 0)
  rw [World.size_alloc] at bO
  have HT : Hid (Tells (w.heap.size + 1) ((w.alloc (.cells #[.int .i64 m] 3)).alloc (.cells #[.slice none 0 0] 22)) Bg bs) := Lib.hid ⟨sv, (hbox.alloc _).alloc _, (hbs.below hB0).mono (by omega)⟩
  have HO := Lib.hid bO; have HM := Lib.hid bM.cell; have HB0 := Lib.hid hB0
  clear hbox hbs hB0 bM bO
  go_enter Try.func19, Try.ntmps19
  go_wp2_with (go_at_call 26; (with_reducible refine (range_any (w.heap.size + 1) (w.heap.size + 1) w.heap.size Bg m bs hlen _ HT.out HO.out (Nat.le_refl _) (by omega) HM.out).mono ?_); rintro e w1 ⟨⟨v, rfl⟩, ⟨v', hb, hr⟩, hbel⟩; have hc := hb.cell; have ho := owns_of_row hr; obtain ⟨a', c', hv', _⟩ := ho.shape; rw [len_ints] at hv'; subst hv'; have HR := Lib.hid hr; have HO1 := Lib.hid ho; have HBEL := Lib.hid hbel; clear hb hr hbel ho)
  go_ret
  refine ⟨_, rfl, HO1.out, fun k hk => by have := (HR.out.lt k hk).1; omega, Keep.of_below (HB0.out.trans (HBEL.out.mono (by omega)))⟩
end Go.Proofs.Ytlhppmffbidjnaa
