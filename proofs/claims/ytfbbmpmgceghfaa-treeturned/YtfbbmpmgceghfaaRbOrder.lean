/-
  The order of keys: cmp.Compare, cmp.Or, rbtree.order; the call key. Conditions: none.
-/
import Derived.Test.YtfbbmpmgceghfaaRbSide
import Derived.Test.YtfbbmpmgceghfaaSched
import Derived.Laws.ResultCell
namespace Go.Proofs.Ytfbbmpmgceghfaa
open Go.RowKit
set_option maxRecDepth 100000

def kv (k : Key) : Value := .agg #[.int .u64 k.a, .int .u64 k.b]
def cmpV (x y : Int) : Int := if x < y then -1 else if y < x then 1 else 0
def orV (x y : Int) : Int := if x ≠ 0 then x else y
def ordV (x y : Key) : Int := orV (cmpV x.a y.a) (cmpV x.b y.b)
theorem ordV_lt {x y : Key} (h : KLt x y) : ordV x y = -1 := by
  unfold KLt at h; unfold ordV orV cmpV
  rcases h with h | ⟨h, h'⟩
  · simp [h]
  · simp [h, h', Int.lt_irrefl]
theorem ordV_gt {x y : Key} (h : KLt y x) : ordV x y = 1 := by
  unfold KLt at h; unfold ordV orV cmpV
  rcases h with h | ⟨h, h'⟩
  · have : ¬ x.a < y.a := by omega
    simp [h, this]
  · have : ¬ x.b < y.b := by omega
    simp [h, h', this, Int.lt_irrefl]
theorem ordV_eq (x : Key) : ordV x x = 0 := by unfold ordV orV cmpV; simp

theorem nan_any (x : Int) (w : World) : Calls Try.prog 55 #[.int .u64 x] w fun e w' => e = .returned (.bool false) ∧ w' = w := by
  have hx : (x != x) = false := by simp
  go_enter Try.func55, Try.ntmps55
  go_wp2
  go_ret
  exact ⟨rfl, rfl⟩

set_option maxHeartbeats 400000 in
theorem cmp_any (x y : Int) (w : World) : Calls Try.prog 54 #[.int .u64 x, .int .u64 y] w fun e w' => e = .returned (.int .i64 (cmpV x y)) ∧ w' = w := by
  rcases Int.lt_trichotomy x y with h | h | h
  · have HE : Hid (cmpV x y = -1) := Lib.hid (by unfold cmpV; rw [if_pos h])
    go_enter Try.func54, Try.ntmps54
    go_wp2_with (go_at_call 55; (with_reducible refine (nan_any _ _).mono ?_); rintro e w' ⟨rfl, rfl⟩)
    go_ret
    exact ⟨ret_i HE.out.symm, rfl⟩
  · subst h
    have HE : Hid (cmpV x x = 0) := Lib.hid (by unfold cmpV; simp)
    go_enter Try.func54, Try.ntmps54
    go_wp2_with (go_at_call 55; (with_reducible refine (nan_any _ _).mono ?_); rintro e w' ⟨rfl, rfl⟩)
    go_ret
    exact ⟨ret_i HE.out.symm, rfl⟩
  · have HE : Hid (cmpV x y = 1) := Lib.hid (by unfold cmpV; rw [if_neg (by omega), if_pos h])
    have h' : ¬ x < y := by omega
    go_enter Try.func54, Try.ntmps54
    go_wp2_with (go_at_call 55; (with_reducible refine (nan_any _ _).mono ?_); rintro e w' ⟨rfl, rfl⟩)
    go_ret
    exact ⟨ret_i HE.out.symm, rfl⟩

set_option maxHeartbeats 400000 in
theorem or_any (B : Nat) (x y : Int) (w : World) (h0 : w.cell? ⟨B, 0, none⟩ = some (.int .i64 x)) (h1 : w.cell? ⟨B, 1, none⟩ = some (.int .i64 y)) :
    Calls Try.prog 53 #[.slice (some ⟨B, 0, none⟩) 2 2] w fun e w' => e = .returned (.int .i64 (orV x y)) ∧ w' = w := by
  by_cases hx : x = 0
  · subst hx
    have hx' : ((0 : Int) != 0) = false := rfl
    by_cases hy : y = 0
    · subst hy
      have HE : Hid (orV 0 0 = 0) := Lib.hid rfl
      go_enter Try.func53, Try.ntmps53
      go_wp2
      go_loop [8] (fun i => i = .int .i64 0 ∨ i = .int .i64 1 ∨ i = .int .i64 2) (fun i => 2 - (intOf i).toNat)
      case atStart => exact .inl rfl
      case round =>
        rcases hrel with rfl | rfl | rfl
        · go_wp2
          go_round
          case rel => exact .inr (.inl rfl)
          case measure => simp [intOf]
        · go_wp2
          go_round
          case rel => exact .inr (.inr rfl)
          case measure => simp [intOf]
        · go_wp2
          go_ret
          exact ⟨ret_i HE.out.symm, rfl⟩
    · have hy' : (y != 0) = true := by simpa using hy
      have HE : Hid (orV 0 y = y) := Lib.hid rfl
      go_enter Try.func53, Try.ntmps53
      go_wp2
      go_loop [8] (fun i => i = .int .i64 0 ∨ i = .int .i64 1) (fun i => 2 - (intOf i).toNat)
      case atStart => exact .inl rfl
      case round =>
        rcases hrel with rfl | rfl
        · go_wp2
          go_round
          case rel => exact .inr rfl
          case measure => simp [intOf]
        · go_wp2
          try rw [Exit.noGoto_ret]
          go_ret
          exact ⟨ret_i HE.out.symm, rfl⟩
  · have hx' : (x != 0) = true := by simpa using hx
    have HE : Hid (orV x y = x) := Lib.hid (if_pos hx)
    go_enter Try.func53, Try.ntmps53
    go_wp2
    go_loop [8] (fun i => i = .int .i64 0) (fun i => 2 - (intOf i).toNat)
    case atStart => rfl
    case round =>
      subst hrel
      go_wp2
      try rw [Exit.noGoto_ret]
      go_ret
      exact ⟨ret_i HE.out.symm, rfl⟩


theorem cell_new (w : World) (cs : Array Value) (t : TypeId) (i : Nat) : (w.alloc (.cells cs t)).cell? ⟨w.heap.size, i, none⟩ = cs[i]? := (Whole.new w t cs).cell i

set_option maxHeartbeats 1000000 in
set_option maxRecDepth 100000 in
theorem order_any (x y : Key) (w : World) : Calls Try.prog 43 #[kv x, kv y] w fun e w' => e = .returned (.int .i64 (ordV x y)) ∧ Keep (fun _ => False) w w' := by
  obtain ⟨xa, xb⟩ := x
  obtain ⟨ya, yb⟩ := y
  unfold kv ordV
  dsimp only
  have K0 : Hid (Keep (fun _ => False) w ((w.alloc (.cells #[.int .u64 xa, .int .u64 xb] 30)).alloc (.cells #[.int .u64 ya, .int .u64 yb] 30))) := Lib.hid (((Keep.refl _ w).alloc _).alloc _)
  have W1 := (Whole.new w 30 #[.int .u64 xa, .int .u64 xb]).alloc (.cells #[.int .u64 ya, .int .u64 yb] 30)
  have W2 := Whole.new (w.alloc (.cells #[.int .u64 xa, .int .u64 xb] 30)) 30 #[.int .u64 ya, .int .u64 yb]
  rw [World.size_alloc] at W2
  go_enter Try.func43, Try.ntmps43
  go_wp2
  generalize ((w.alloc (.cells #[.int .u64 xa, .int .u64 xb] 30)).alloc (.cells #[.int .u64 ya, .int .u64 yb] 30)) = w1 at *
  refine wp_region_sch (fun w' => w'.cell? ⟨w.heap.size, 0, none⟩ = some (.int .u64 xa) ∧ w'.cell? ⟨w.heap.size, 1, none⟩ = some (.int .u64 xb) ∧ w'.cell? ⟨w.heap.size + 1, 0, none⟩ = some (.int .u64 ya) ∧ w'.cell? ⟨w.heap.size + 1, 1, none⟩ = some (.int .u64 yb)) [(true, 0), (true, 1), (true, 2), (true, 3), (true, 5), (true, 6), (true, 7), (true, 8), (false, 4), (false, 9), (false, 10), (false, 11), (true, 12)] (by kernel_rfl) (by kernel_rfl) (by kernel_rfl) (by kernel_rfl) ⟨W1.drew.cell 0, W1.drew.cell 1, W2.drew.cell 0, W2.drew.cell 1⟩ ?_
  (repeat (first
  | (refine wpSch_yes (v := ?_) rfl (fun _ _ _ h => h) (by rfl) ?_ ?_; rotate_left; (next => (intro w hSw; (try dsimp only at hSw); (try obtain ⟨hS1, hS2, hS3, hS4⟩ := hSw); go_simp; (try with_reducible rfl))); (try simp only [Act.put, List.setIfInBounds_toArray, List.set_cons_zero, List.set_cons_succ]))
  | (refine wpSch_no rfl (fun _ _ _ h => h) (by rfl) ?_; (try simp only [Act.put, List.setIfInBounds_toArray, List.set_cons_zero, List.set_cons_succ]))
  | (refine wpSch_not rfl (by rfl) (by assumption) ?_; (try simp only [Act.put, List.setIfInBounds_toArray, List.set_cons_zero, List.set_cons_succ]))))
  refine wpSch_call rfl (by rfl) (fun K hK => ?_); go_simp
  refine (cmp_any _ _ _).mono ?_
  rintro e w' ⟨rfl, rfl⟩
  refine hK.out _ _ ?_ (fun hHeld => ?_)
  · exact ⟨W1.drew.cell 0, W1.drew.cell 1, W2.drew.cell 0, W2.drew.cell 1⟩
  clear hK K
  (try simp only [Act.put, List.setIfInBounds_toArray, List.set_cons_zero, List.set_cons_succ])
  (repeat (first
  | (refine wpSch_yes (v := ?_) rfl (fun _ _ _ h => h) (by rfl) ?_ ?_; rotate_left; (next => (intro w hSw; (try dsimp only at hSw); (try obtain ⟨hS1, hS2, hS3, hS4⟩ := hSw); go_simp; (try with_reducible rfl))); (try simp only [Act.put, List.setIfInBounds_toArray, List.set_cons_zero, List.set_cons_succ]))
  | (refine wpSch_no rfl (fun _ _ _ h => h) (by rfl) ?_; (try simp only [Act.put, List.setIfInBounds_toArray, List.set_cons_zero, List.set_cons_succ]))
  | (refine wpSch_not rfl (by rfl) (by assumption) ?_; (try simp only [Act.put, List.setIfInBounds_toArray, List.set_cons_zero, List.set_cons_succ]))))
  refine wpSch_call rfl (by rfl) (fun K hK => ?_); go_simp
  refine (cmp_any _ _ _).mono ?_
  rintro e w' ⟨rfl, rfl⟩
  refine hK.out _ _ ?_ (fun hHeld => ?_)
  · exact ⟨W1.drew.cell 0, W1.drew.cell 1, W2.drew.cell 0, W2.drew.cell 1⟩
  clear hK K
  (try simp only [Act.put, List.setIfInBounds_toArray, List.set_cons_zero, List.set_cons_succ])
  refine wpSch_call rfl (by rfl) (fun K hK => ?_); go_simp
  refine hK.out _ _ ?_ (fun hHeld => ?_)
  · exact ⟨(W1.alloc _).drew.cell 0, (W1.alloc _).drew.cell 1, (W2.alloc _).drew.cell 0, (W2.alloc _).drew.cell 1⟩
  clear hK K
  (try simp only [Act.put, List.setIfInBounds_toArray, List.set_cons_zero, List.set_cons_succ])
  refine wpSch_call rfl (by rfl) (fun K hK => ?_); go_simp
  refine (or_any _ (cmpV xa ya) (cmpV xb yb) _ ((Whole.new _ _ _).drew.cell 0) ((Whole.new _ _ _).drew.cell 1)).mono ?_
  rintro e w' ⟨rfl, rfl⟩
  refine hK.out _ _ ?_ (fun hHeld => ?_)
  · exact ⟨(W1.alloc _).drew.cell 0, (W1.alloc _).drew.cell 1, (W2.alloc _).drew.cell 0, (W2.alloc _).drew.cell 1⟩
  clear hK K
  (try simp only [Act.put, List.setIfInBounds_toArray, List.set_cons_zero, List.set_cons_succ])
  (repeat (first
  | (refine wpSch_yes (v := ?_) rfl (fun _ _ _ h => h) (by rfl) ?_ ?_; rotate_left; (next => (intro w hSw; (try dsimp only at hSw); (try obtain ⟨hS1, hS2, hS3, hS4⟩ := hSw); go_simp; (try with_reducible rfl))); (try simp only [Act.put, List.setIfInBounds_toArray, List.set_cons_zero, List.set_cons_succ]))
  | (refine wpSch_no rfl (fun _ _ _ h => h) (by rfl) ?_; (try simp only [Act.put, List.setIfInBounds_toArray, List.set_cons_zero, List.set_cons_succ]))
  | (refine wpSch_not rfl (by rfl) (by assumption) ?_; (try simp only [Act.put, List.setIfInBounds_toArray, List.set_cons_zero, List.set_cons_succ]))))
  refine wpSch_nil ?_
  go_wp2
  go_ret
  exact ⟨rfl, (K0.out.alloc _).drew⟩

set_option maxHeartbeats 400000 in
theorem key_any {g b cap n tp : Nat} {pa : Value} {m : Nat → Nd} (at_ : Nat) (w : World) (t : Tr w g b cap pa n tp m) (ha : at_ < n) (h0 : m 0 = Nd.zero) :
    Calls Try.prog 32 #[.pointer (some ⟨g, 0, none⟩), .int .i64 (at_ : Int)] w fun e w' => e = .returned (.tuple #[kv (m at_).k, .bool (decide (at_ ≠ 0))]) ∧ Keep (fun _ => False) w w' := by
  obtain ⟨hc1, hc2⟩ := t.capB
  unfold kv
  by_cases e : at_ = 0
  · subst e
    rw [h0]
    clear t
    go_enter Try.func32, Try.ntmps32
    go_wp2
    (try simp only [Exit.inBlock, Exit.then])
    refine bodyPost_ret (v := .tuple #[.agg #[.int .u64 0, .int .u64 0], .bool false]) ?_ rfl ⟨rfl, ?_⟩
    · rw [results_cell_tmp rfl]
      go_simp
    · exact (Keep.refl _ _).alloc _
  · have e1 : ((at_ : Int) == 0) = false := by rw [beq_eq_false_iff_ne]; omega
    have HD : Hid (decide (at_ ≠ 0) = true) := Lib.hid (by simpa using e)
    have t1 := t.alloc (.cells #[.int .u64 0, .int .u64 0] 30)
    have c1 := t1.st.cell 1
    have ca : (w.alloc (.cells #[.int .u64 0, .int .u64 0] 30)).cell? ⟨b, at_ * 6, none⟩ = some (.int .u64 (m at_).k.a) := t1.cell ha (j := 0) (by decide)
    have cb : (w.alloc (.cells #[.int .u64 0, .int .u64 0] 30)).cell? ⟨b, at_ * 6 + 1, none⟩ = some (.int .u64 (m at_).k.b) := t1.cell ha (by decide)
    clear t t1
    generalize (m at_).k.a = ka at *
    generalize (m at_).k.b = kb at *
    go_enter Try.func32, Try.ntmps32
    go_wp2
    (try simp only [Exit.inBlock, Exit.then])
    refine bodyPost_ret (v := .tuple #[.agg #[.int .u64 ka, .int .u64 kb], .bool true]) ?_ rfl ⟨by rw [HD.out], ?_⟩
    · rw [results_cell_tmp rfl]
      go_simp
    · exact (Keep.refl _ _).alloc _
end Go.Proofs.Ytfbbmpmgceghfaa
