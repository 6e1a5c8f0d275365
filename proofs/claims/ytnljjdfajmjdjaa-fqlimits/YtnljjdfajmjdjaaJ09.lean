/-
  A region that draws its order, walked in one order: what yields the same in every world that meets S is taken as soon as it may come up; a call, a store, a new block where nothing else may come up. No program is spoken of. Conditions: those of each theorem.
  The order of keys: cmp.Compare, cmp.Or, rbtree.order; the call key. Conditions: none.
-/
import Derived.Test.YtnljjdfajmjdjaaJ05
import Derived.Deep.RegionHeld3
import Derived.KernelRfl
import Derived.Laws.ResultCell
namespace Go.Proofs.Ytnljjdfajmjdjaa

def nthOp : List Oper → Nat → Option Oper
  | [], _ => none
  | o :: _, 0 => some o
  | _ :: r, n + 1 => nthOp r n
theorem nthOp_get : ∀ (l : List Oper) (i : Nat), l.toArray[i]? = nthOp l i
  | [], i => by simp [nthOp]
  | o :: r, 0 => by simp [nthOp]
  | o :: r, n + 1 => by have := nthOp_get r n; simp at this; simp [nthOp, this]

/-- Is that order one in which each that is taken first may be, and each other one comes up alone? -/
def schOK (ops : List Oper) : List (Bool × Nat) → Array Bool → Bool
  | [], listed => (Region.ready .any ops.toArray listed).isEmpty
  | (true, i) :: r, listed => (Region.ready .any ops.toArray listed).contains i && Region.free .any ops.toArray listed i && schOK ops r (listed.setIfInBounds i true)
  | (false, i) :: r, listed => (Region.ready .any ops.toArray listed == [i]) && schOK ops r (listed.setIfInBounds i true)

section
variable {P : Program} {ops : List Oper} {Q : Exit → Act → World → Prop} {S : World → Prop}

/-- The walk in that order. -/
def wpSch (P : Program) (ops : List Oper) (Q : Exit → Act → World → Prop) (S : World → Prop) : List (Bool × Nat) → Act → World → Prop
  | [], a, w => Q .normal a w
  | (true, i) :: r, a, w => ∃ o v, nthOp ops i = some o ∧ (∀ c a w, Q (.panic c) (a.put o.dst v) w → Q (.panic c) a w) ∧ YieldsIf P ops.toArray S o v a ∧ wpSch P ops Q S r (a.put o.dst v) w
  | (false, i) :: r, a, w => ∃ o, nthOp ops i = some o ∧ ∀ K' : Act → World → Prop, Shut (∀ a w, S w → (S w → wpSch P ops Q S r a w) → K' a w) →
      if Region.wanted o (yielded ops.toArray a.tmps) = true then Oper.wp P o a w K' Q else K' (a.put o.dst undef) w

theorem wpAnyH_of_sch (hs : Region.noSelect ops.toArray = true) : ∀ (l : List (Bool × Nat)) (fuel : Nat) (listed : Array Bool) (a : Act) (w : World), l.length ≤ fuel → schOK ops l listed = true → S w → wpSch P ops Q S l a w → wpAnyH P .any ops.toArray Q S fuel listed a w
  | [], fuel, listed, a, w, _, hc, _, h => wpAnyH_done (by simpa [schOK] using hc) h fuel
  | (true, i) :: r, 0, listed, a, w, hf, _, _, _ => by simp at hf
  | (false, i) :: r, 0, listed, a, w, hf, _, _, _ => by simp at hf
  | (true, i) :: r, fuel + 1, listed, a, w, hf, hc, hS, h => by
    obtain ⟨o, v, ho, hQ, hy, h⟩ := h
    simp only [schOK, Bool.and_eq_true] at hc
    exact wpAnyH_take (by rw [nthOp_get, ho]) hs hc.1.2 hc.1.1 hQ hy hS (wpAnyH_of_sch hs r fuel _ _ _ (by simp at hf; omega) hc.2 hS h)
  | (false, i) :: r, fuel + 1, listed, a, w, hf, hc, hS, h => by
    obtain ⟨o, ho, h⟩ := h
    simp only [schOK, Bool.and_eq_true, beq_iff_eq] at hc
    refine wpAnyH_ready hc.1 (by simp) (AllReadyH.cons (o := o) (by rw [nthOp_get, ho]) (fun K hK => h K (fun a w hS' hW => ?_)) AllReadyH.nil)
    exact hK.out a w hS' (fun hS' => wpAnyH_of_sch hs r fuel _ _ _ (by simp at hf; omega) hc.2 hS' (hW hS'))

/-- The beginning. -/
theorem wp_region_sch (S : World → Prop) (l : List (Bool × Nat)) {id : Nat} {a : Act} {w : World} (hm : P.follows .mixedOrders = true) (hs : Region.noSelect ops.toArray = true) (hl : Nat.ble l.length ops.toArray.size = true)
    (hc : schOK ops l (Array.replicate ops.toArray.size false) = true) (hS : S w.drew) (h : wpSch P ops Q S l a w.drew) : (Code.region id ops.toArray true).wp P Q a w :=
  wp_region_held_drew hm hS (fun hS => wpAnyH_of_sch hs l _ _ _ _ (Nat.le_of_ble_eq_true hl) hc hS h)

theorem wpSch_nil {a : Act} {w : World} (h : Q .normal a w) : wpSch P ops Q S [] a w := h
/-- One that is wanted, and yields. -/
theorem wpSch_yes {i : Nat} {r : List (Bool × Nat)} {a : Act} {w : World} {o : Oper} {v : Value} (ho : nthOp ops i = some o) (hQ : ∀ c a w, Q (.panic c) (a.put o.dst v) w → Q (.panic c) a w)
    (hw : Region.wanted o (yielded ops.toArray a.tmps) = true) (hy : ∀ w, S w → (execOp a.eval o).run P w = .ok (.value v) w) (h : wpSch P ops Q S r (a.put o.dst v) w) : wpSch P ops Q S ((true, i) :: r) a w :=
  ⟨o, v, ho, hQ, .inl ⟨hw, hy⟩, h⟩
/-- One that is not wanted. -/
theorem wpSch_no {i : Nat} {r : List (Bool × Nat)} {a : Act} {w : World} {o : Oper} (ho : nthOp ops i = some o) (hQ : ∀ c a w, Q (.panic c) (a.put o.dst undef) w → Q (.panic c) a w)
    (hw : Region.wanted o (yielded ops.toArray a.tmps) = false) (h : wpSch P ops Q S r (a.put o.dst undef) w) : wpSch P ops Q S ((true, i) :: r) a w :=
  ⟨o, undef, ho, hQ, .inr ⟨hw, rfl⟩, h⟩
/-- One that is not wanted, a call. -/
theorem wpSch_not {i : Nat} {r : List (Bool × Nat)} {a : Act} {w : World} {o : Oper} (ho : nthOp ops i = some o)
    (hw : Region.wanted o (yielded ops.toArray a.tmps) = false) (hS : S w) (h : wpSch P ops Q S r (a.put o.dst undef) w) : wpSch P ops Q S ((false, i) :: r) a w :=
  ⟨o, ho, fun K hK => by rw [if_neg (by rw [hw]; simp)]; exact hK.out _ _ hS (fun _ => h)⟩
/-- A call that is wanted. -/
theorem wpSch_call {i : Nat} {r : List (Bool × Nat)} {a : Act} {w : World} {o : Oper} (ho : nthOp ops i = some o)
    (hw : Region.wanted o (yielded ops.toArray a.tmps) = true) (h : ∀ K' : Act → World → Prop, Shut (∀ a w, S w → (S w → wpSch P ops Q S r a w) → K' a w) → Oper.wp P o a w K' Q) : wpSch P ops Q S ((false, i) :: r) a w :=
  ⟨o, ho, fun K hK => by rw [if_pos hw]; exact h K hK⟩
end

/-! ### where two may come up -/
/-- An order: 'yes': it is taken as soon as it may be; 'one': it comes up alone; 'two': one of two comes up. -/
inductive Sch where
  | nil
  | yes (i : Nat) (r : Sch)
  | one (i : Nat) (r : Sch)
  | two (i : Nat) (r : Sch) (j : Nat) (s : Sch)
def Sch.len : Sch → Nat
  | .nil => 0
  | .yes _ r => r.len + 1
  | .one _ r => r.len + 1
  | .two _ r _ s => max r.len s.len + 1
def schOK2 (ops : List Oper) : Sch → Array Bool → Bool
  | .nil, listed => (Region.ready .any ops.toArray listed).isEmpty
  | .yes i r, listed => (Region.ready .any ops.toArray listed).contains i && Region.free .any ops.toArray listed i && schOK2 ops r (listed.setIfInBounds i true)
  | .one i r, listed => (Region.ready .any ops.toArray listed == [i]) && schOK2 ops r (listed.setIfInBounds i true)
  | .two i r j s, listed => (Region.ready .any ops.toArray listed == [i, j]) && schOK2 ops r (listed.setIfInBounds i true) && schOK2 ops s (listed.setIfInBounds j true)
section
variable {P : Program} {ops : List Oper} {Q : Exit → Act → World → Prop} {S : World → Prop}
def wpOne (P : Program) (ops : List Oper) (Q : Exit → Act → World → Prop) (S : World → Prop) (i : Nat) (R : Act → World → Prop) (a : Act) (w : World) : Prop :=
  ∃ o, nthOp ops i = some o ∧ ∀ K' : Act → World → Prop, Shut (∀ a w, S w → (S w → R a w) → K' a w) →
      if Region.wanted o (yielded ops.toArray a.tmps) = true then Oper.wp P o a w K' Q else K' (a.put o.dst undef) w
def wpSch2 (P : Program) (ops : List Oper) (Q : Exit → Act → World → Prop) (S : World → Prop) : Sch → Act → World → Prop
  | .nil, a, w => Q .normal a w
  | .yes i r, a, w => ∃ o v, nthOp ops i = some o ∧ (∀ c a w, Q (.panic c) (a.put o.dst v) w → Q (.panic c) a w) ∧ YieldsIf P ops.toArray S o v a ∧ wpSch2 P ops Q S r (a.put o.dst v) w
  | .one i r, a, w => wpOne P ops Q S i (wpSch2 P ops Q S r) a w
  | .two i r j s, a, w => wpOne P ops Q S i (wpSch2 P ops Q S r) a w ∧ wpOne P ops Q S j (wpSch2 P ops Q S s) a w
theorem wpAnyH_of_sch2 (hs : Region.noSelect ops.toArray = true) : ∀ (l : Sch) (fuel : Nat) (listed : Array Bool) (a : Act) (w : World), l.len ≤ fuel → schOK2 ops l listed = true → S w → wpSch2 P ops Q S l a w → wpAnyH P .any ops.toArray Q S fuel listed a w
  | .nil, fuel, listed, a, w, _, hc, _, h => wpAnyH_done (by simpa [schOK2] using hc) h fuel
  | .yes _ _, 0, _, _, _, hf, _, _, _ => by simp [Sch.len] at hf
  | .one _ _, 0, _, _, _, hf, _, _, _ => by simp [Sch.len] at hf
  | .two _ _ _ _, 0, _, _, _, hf, _, _, _ => by simp [Sch.len] at hf
  | .yes i r, fuel + 1, listed, a, w, hf, hc, hS, h => by
    obtain ⟨o, v, ho, hQ, hy, h⟩ := h
    simp only [schOK2, Bool.and_eq_true] at hc
    exact wpAnyH_take (by rw [nthOp_get, ho]) hs hc.1.2 hc.1.1 hQ hy hS (wpAnyH_of_sch2 hs r fuel _ _ _ (by simp [Sch.len] at hf; omega) hc.2 hS h)
  | .one i r, fuel + 1, listed, a, w, hf, hc, hS, h => by
    obtain ⟨o, ho, h⟩ := h
    simp only [schOK2, Bool.and_eq_true, beq_iff_eq] at hc
    refine wpAnyH_ready hc.1 (by simp) (AllReadyH.cons (o := o) (by rw [nthOp_get, ho]) (fun K hK => h K (fun a w hS' hW => ?_)) AllReadyH.nil)
    exact hK.out a w hS' (fun hS' => wpAnyH_of_sch2 hs r fuel _ _ _ (by simp [Sch.len] at hf; omega) hc.2 hS' (hW hS'))
  | .two i r j s, fuel + 1, listed, a, w, hf, hc, hS, h => by
    obtain ⟨⟨o, ho, h⟩, ⟨o', ho', h'⟩⟩ := h
    simp only [schOK2, Bool.and_eq_true, beq_iff_eq] at hc
    refine wpAnyH_ready hc.1.1 (by simp) (AllReadyH.cons (o := o) (by rw [nthOp_get, ho]) (fun K hK => h K (fun a w hS' hW => ?_)) (AllReadyH.cons (o := o') (by rw [nthOp_get, ho']) (fun K hK => h' K (fun a w hS' hW => ?_)) AllReadyH.nil))
    · exact hK.out a w hS' (fun hS' => wpAnyH_of_sch2 hs r fuel _ _ _ (by simp [Sch.len] at hf; omega) hc.1.2 hS' (hW hS'))
    · exact hK.out a w hS' (fun hS' => wpAnyH_of_sch2 hs s fuel _ _ _ (by simp [Sch.len] at hf; omega) hc.2 hS' (hW hS'))
theorem wp_region_sch2 (S : World → Prop) (l : Sch) {id : Nat} {a : Act} {w : World} (hm : P.follows .mixedOrders = true) (hs : Region.noSelect ops.toArray = true) (hl : Nat.ble l.len ops.toArray.size = true)
    (hc : schOK2 ops l (Array.replicate ops.toArray.size false) = true) (hS : S w.drew) (h : wpSch2 P ops Q S l a w.drew) : (Code.region id ops.toArray true).wp P Q a w :=
  wp_region_held_drew hm hS (fun hS => wpAnyH_of_sch2 hs l _ _ _ _ (Nat.le_of_ble_eq_true hl) hc hS h)
theorem wpSch2_nil {a : Act} {w : World} (h : Q .normal a w) : wpSch2 P ops Q S .nil a w := h
theorem wpSch2_yes {i : Nat} {r : Sch} {a : Act} {w : World} {o : Oper} {v : Value} (ho : nthOp ops i = some o) (hQ : ∀ c a w, Q (.panic c) (a.put o.dst v) w → Q (.panic c) a w)
    (hw : Region.wanted o (yielded ops.toArray a.tmps) = true) (hy : ∀ w, S w → (execOp a.eval o).run P w = .ok (.value v) w) (h : wpSch2 P ops Q S r (a.put o.dst v) w) : wpSch2 P ops Q S (.yes i r) a w :=
  ⟨o, v, ho, hQ, .inl ⟨hw, hy⟩, h⟩
theorem wpOne_call {i : Nat} {R : Act → World → Prop} {a : Act} {w : World} {o : Oper} (ho : nthOp ops i = some o)
    (hw : Region.wanted o (yielded ops.toArray a.tmps) = true) (h : ∀ K' : Act → World → Prop, Shut (∀ a w, S w → (S w → R a w) → K' a w) → Oper.wp P o a w K' Q) : wpOne P ops Q S i R a w :=
  ⟨o, ho, fun K hK => by rw [if_pos hw]; exact h K hK⟩
theorem wpSch2_one {i : Nat} {r : Sch} {a : Act} {w : World} (h : wpOne P ops Q S i (wpSch2 P ops Q S r) a w) : wpSch2 P ops Q S (.one i r) a w := h
theorem wpSch2_two {i j : Nat} {r s : Sch} {a : Act} {w : World} (h : wpOne P ops Q S i (wpSch2 P ops Q S r) a w) (h' : wpOne P ops Q S j (wpSch2 P ops Q S s) a w) : wpSch2 P ops Q S (.two i r j s) a w := ⟨h, h'⟩
end
end Go.Proofs.Ytnljjdfajmjdjaa
namespace Go.Proofs.Ytnljjdfajmjdjaa
open Go.RowKit
set_option maxRecDepth 100000

def kv (k : Key) : Value := .agg #[.int .u64 k.a, .int .u64 k.b]
def cmpV (x y : Int) : Int := if x < y then -1 else if y < x then 1 else 0
def orV (x y : Int) : Int := if x ≠ 0 then x else y
def ordV (x y : Key) : Int := orV (cmpV x.a y.a) (cmpV x.b y.b)
theorem ordV_lt {x y : Key} (h : KLt x y) : ordV x y = -1 := by
  unfold KLt at h; unfold ordV orV cmpV
  rcases h with h | ⟨h, h'⟩
  · simp [h]
  · simp [h, h', Int.lt_irrefl]
theorem ordV_gt {x y : Key} (h : KLt y x) : ordV x y = 1 := by
  unfold KLt at h; unfold ordV orV cmpV
  rcases h with h | ⟨h, h'⟩
  · have : ¬ x.a < y.a := by omega
    simp [h, this]
  · have : ¬ x.b < y.b := by omega
    simp [h, h', this, Int.lt_irrefl]
theorem ordV_eq (x : Key) : ordV x x = 0 := by unfold ordV orV cmpV; simp

theorem nan_any (x : Int) (w : World) : Calls Try.prog 101 #[.int .u64 x] w fun e w' => e = .returned (.bool false) ∧ w' = w := by
  have hx : (x != x) = false := by simp
  go_enter Try.func101, Try.ntmps101
  go_wp2
  go_ret
  exact ⟨rfl, rfl⟩

set_option maxHeartbeats 400000 in
theorem cmp_any (x y : Int) (w : World) : Calls Try.prog 97 #[.int .u64 x, .int .u64 y] w fun e w' => e = .returned (.int .i64 (cmpV x y)) ∧ w' = w := by
  rcases Int.lt_trichotomy x y with h | h | h
  · have HE : Hid (cmpV x y = -1) := Lib.hid (by unfold cmpV; rw [if_pos h])
    go_enter Try.func97, Try.ntmps97
    go_wp2_with (go_at_call 101; (with_reducible refine (nan_any _ _).mono ?_); rintro e w' ⟨rfl, rfl⟩)
    go_ret
    exact ⟨ret_i HE.out.symm, rfl⟩
  · subst h
    have HE : Hid (cmpV x x = 0) := Lib.hid (by unfold cmpV; simp)
    go_enter Try.func97, Try.ntmps97
    go_wp2_with (go_at_call 101; (with_reducible refine (nan_any _ _).mono ?_); rintro e w' ⟨rfl, rfl⟩)
    go_ret
    exact ⟨ret_i HE.out.symm, rfl⟩
  · have HE : Hid (cmpV x y = 1) := Lib.hid (by unfold cmpV; rw [if_neg (by omega), if_pos h])
    have h' : ¬ x < y := by omega
    go_enter Try.func97, Try.ntmps97
    go_wp2_with (go_at_call 101; (with_reducible refine (nan_any _ _).mono ?_); rintro e w' ⟨rfl, rfl⟩)
    go_ret
    exact ⟨ret_i HE.out.symm, rfl⟩

set_option maxHeartbeats 400000 in
theorem or_any (B : Nat) (x y : Int) (w : World) (h0 : w.cell? ⟨B, 0, none⟩ = some (.int .i64 x)) (h1 : w.cell? ⟨B, 1, none⟩ = some (.int .i64 y)) :
    Calls Try.prog 96 #[.slice (some ⟨B, 0, none⟩) 2 2] w fun e w' => e = .returned (.int .i64 (orV x y)) ∧ w' = w := by
  by_cases hx : x = 0
  · subst hx
    have hx' : ((0 : Int) != 0) = false := rfl
    by_cases hy : y = 0
    · subst hy
      have HE : Hid (orV 0 0 = 0) := Lib.hid rfl
      go_enter Try.func96, Try.ntmps96
      go_wp2
      go_loop [8] (fun i => i = .int .i64 0 ∨ i = .int .i64 1 ∨ i = .int .i64 2) (fun i => 2 - (intOf i).toNat)
      case atStart => exact .inl rfl
      case round =>
        rcases hrel with rfl | rfl | rfl
        · go_wp2
          go_round
          case rel => exact .inr (.inl rfl)
          case measure => simp [intOf]
        · go_wp2
          go_round
          case rel => exact .inr (.inr rfl)
          case measure => simp [intOf]
        · go_wp2
          go_ret
          exact ⟨ret_i HE.out.symm, rfl⟩
    · have hy' : (y != 0) = true := by simpa using hy
      have HE : Hid (orV 0 y = y) := Lib.hid rfl
      go_enter Try.func96, Try.ntmps96
      go_wp2
      go_loop [8] (fun i => i = .int .i64 0 ∨ i = .int .i64 1) (fun i => 2 - (intOf i).toNat)
      case atStart => exact .inl rfl
      case round =>
        rcases hrel with rfl | rfl
        · go_wp2
          go_round
          case rel => exact .inr rfl
          case measure => simp [intOf]
        · go_wp2
          try rw [Exit.noGoto_ret]
          go_ret
          exact ⟨ret_i HE.out.symm, rfl⟩
  · have hx' : (x != 0) = true := by simpa using hx
    have HE : Hid (orV x y = x) := Lib.hid (if_pos hx)
    go_enter Try.func96, Try.ntmps96
    go_wp2
    go_loop [8] (fun i => i = .int .i64 0) (fun i => 2 - (intOf i).toNat)
    case atStart => rfl
    case round =>
      subst hrel
      go_wp2
      try rw [Exit.noGoto_ret]
      go_ret
      exact ⟨ret_i HE.out.symm, rfl⟩


theorem cell_new (w : World) (cs : Array Value) (t : TypeId) (i : Nat) : (w.alloc (.cells cs t)).cell? ⟨w.heap.size, i, none⟩ = cs[i]? := (Whole.new w t cs).cell i

set_option maxHeartbeats 1000000 in
set_option maxRecDepth 100000 in
theorem order_any (x y : Key) (w : World) : Calls Try.prog 85 #[kv x, kv y] w fun e w' => e = .returned (.int .i64 (ordV x y)) ∧ Keep (fun _ => False) w w' := by
  obtain ⟨xa, xb⟩ := x
  obtain ⟨ya, yb⟩ := y
  unfold kv ordV
  dsimp only
  have K0 : Hid (Keep (fun _ => False) w ((w.alloc (.cells #[.int .u64 xa, .int .u64 xb] 96)).alloc (.cells #[.int .u64 ya, .int .u64 yb] 96))) := Lib.hid (((Keep.refl _ w).alloc _).alloc _)
  have W1 := (Whole.new w 96 #[.int .u64 xa, .int .u64 xb]).alloc (.cells #[.int .u64 ya, .int .u64 yb] 96)
  have W2 := Whole.new (w.alloc (.cells #[.int .u64 xa, .int .u64 xb] 96)) 96 #[.int .u64 ya, .int .u64 yb]
  rw [World.size_alloc] at W2
  go_enter Try.func85, Try.ntmps85
  go_wp2
  generalize ((w.alloc (.cells #[.int .u64 xa, .int .u64 xb] 96)).alloc (.cells #[.int .u64 ya, .int .u64 yb] 96)) = w1 at *
  refine wp_region_sch (fun w' => w'.cell? ⟨w.heap.size, 0, none⟩ = some (.int .u64 xa) ∧ w'.cell? ⟨w.heap.size, 1, none⟩ = some (.int .u64 xb) ∧ w'.cell? ⟨w.heap.size + 1, 0, none⟩ = some (.int .u64 ya) ∧ w'.cell? ⟨w.heap.size + 1, 1, none⟩ = some (.int .u64 yb)) [(true, 0), (true, 1), (true, 2), (true, 3), (true, 5), (true, 6), (true, 7), (true, 8), (false, 4), (false, 9), (false, 10), (false, 11), (true, 12)] (by kernel_rfl) (by kernel_rfl) (by kernel_rfl) (by kernel_rfl) ⟨W1.drew.cell 0, W1.drew.cell 1, W2.drew.cell 0, W2.drew.cell 1⟩ ?_
  (repeat (first
  | (refine wpSch_yes (v := ?_) rfl (fun _ _ _ h => h) (by rfl) ?_ ?_; rotate_left; (next => (intro w hSw; (try dsimp only at hSw); (try obtain ⟨hS1, hS2, hS3, hS4⟩ := hSw); go_simp; (try with_reducible rfl))); (try simp only [Act.put, List.setIfInBounds_toArray, List.set_cons_zero, List.set_cons_succ]))
  | (refine wpSch_no rfl (fun _ _ _ h => h) (by rfl) ?_; (try simp only [Act.put, List.setIfInBounds_toArray, List.set_cons_zero, List.set_cons_succ]))
  | (refine wpSch_not rfl (by rfl) (by assumption) ?_; (try simp only [Act.put, List.setIfInBounds_toArray, List.set_cons_zero, List.set_cons_succ]))))
  refine wpSch_call rfl (by rfl) (fun K hK => ?_); go_simp
  refine (cmp_any _ _ _).mono ?_
  rintro e w' ⟨rfl, rfl⟩
  refine hK.out _ _ ?_ (fun hHeld => ?_)
  · exact ⟨W1.drew.cell 0, W1.drew.cell 1, W2.drew.cell 0, W2.drew.cell 1⟩
  clear hK K
  (try simp only [Act.put, List.setIfInBounds_toArray, List.set_cons_zero, List.set_cons_succ])
  (repeat (first
  | (refine wpSch_yes (v := ?_) rfl (fun _ _ _ h => h) (by rfl) ?_ ?_; rotate_left; (next => (intro w hSw; (try dsimp only at hSw); (try obtain ⟨hS1, hS2, hS3, hS4⟩ := hSw); go_simp; (try with_reducible rfl))); (try simp only [Act.put, List.setIfInBounds_toArray, List.set_cons_zero, List.set_cons_succ]))
  | (refine wpSch_no rfl (fun _ _ _ h => h) (by rfl) ?_; (try simp only [Act.put, List.setIfInBounds_toArray, List.set_cons_zero, List.set_cons_succ]))
  | (refine wpSch_not rfl (by rfl) (by assumption) ?_; (try simp only [Act.put, List.setIfInBounds_toArray, List.set_cons_zero, List.set_cons_succ]))))
  refine wpSch_call rfl (by rfl) (fun K hK => ?_); go_simp
  refine (cmp_any _ _ _).mono ?_
  rintro e w' ⟨rfl, rfl⟩
  refine hK.out _ _ ?_ (fun hHeld => ?_)
  · exact ⟨W1.drew.cell 0, W1.drew.cell 1, W2.drew.cell 0, W2.drew.cell 1⟩
  clear hK K
  (try simp only [Act.put, List.setIfInBounds_toArray, List.set_cons_zero, List.set_cons_succ])
  refine wpSch_call rfl (by rfl) (fun K hK => ?_); go_simp
  refine hK.out _ _ ?_ (fun hHeld => ?_)
  · exact ⟨(W1.alloc _).drew.cell 0, (W1.alloc _).drew.cell 1, (W2.alloc _).drew.cell 0, (W2.alloc _).drew.cell 1⟩
  clear hK K
  (try simp only [Act.put, List.setIfInBounds_toArray, List.set_cons_zero, List.set_cons_succ])
  refine wpSch_call rfl (by rfl) (fun K hK => ?_); go_simp
  refine (or_any _ (cmpV xa ya) (cmpV xb yb) _ ((Whole.new _ _ _).drew.cell 0) ((Whole.new _ _ _).drew.cell 1)).mono ?_
  rintro e w' ⟨rfl, rfl⟩
  refine hK.out _ _ ?_ (fun hHeld => ?_)
  · exact ⟨(W1.alloc _).drew.cell 0, (W1.alloc _).drew.cell 1, (W2.alloc _).drew.cell 0, (W2.alloc _).drew.cell 1⟩
  clear hK K
  (try simp only [Act.put, List.setIfInBounds_toArray, List.set_cons_zero, List.set_cons_succ])
  (repeat (first
  | (refine wpSch_yes (v := ?_) rfl (fun _ _ _ h => h) (by rfl) ?_ ?_; rotate_left; (next => (intro w hSw; (try dsimp only at hSw); (try obtain ⟨hS1, hS2, hS3, hS4⟩ := hSw); go_simp; (try with_reducible rfl))); (try simp only [Act.put, List.setIfInBounds_toArray, List.set_cons_zero, List.set_cons_succ]))
  | (refine wpSch_no rfl (fun _ _ _ h => h) (by rfl) ?_; (try simp only [Act.put, List.setIfInBounds_toArray, List.set_cons_zero, List.set_cons_succ]))
  | (refine wpSch_not rfl (by rfl) (by assumption) ?_; (try simp only [Act.put, List.setIfInBounds_toArray, List.set_cons_zero, List.set_cons_succ]))))
  refine wpSch_nil ?_
  go_wp2
  go_ret
  exact ⟨rfl, (K0.out.alloc _).drew⟩

set_option maxHeartbeats 400000 in
theorem key_any {g b cap n tp : Nat} {pa : Value} {m : Nat → Nd} (at_ : Nat) (w : World) (t : Tr w g b cap pa n tp m) (ha : at_ < n) (h0 : m 0 = Nd.zero) :
    Calls Try.prog 73 #[.pointer (some ⟨g, 0, none⟩), .int .i64 (at_ : Int)] w fun e w' => e = .returned (.tuple #[kv (m at_).k, .bool (decide (at_ ≠ 0))]) ∧ Keep (fun _ => False) w w' := by
  obtain ⟨hc1, hc2⟩ := t.capB
  unfold kv
  by_cases e : at_ = 0
  · subst e
    rw [h0]
    clear t
    go_enter Try.func73, Try.ntmps73
    go_wp2
    (try simp only [Exit.inBlock, Exit.then])
    refine bodyPost_ret (v := .tuple #[.agg #[.int .u64 0, .int .u64 0], .bool false]) ?_ rfl ⟨rfl, ?_⟩
    · rw [results_cell_tmp rfl]
      go_simp
    · exact (Keep.refl _ _).alloc _
  · have e1 : ((at_ : Int) == 0) = false := by rw [beq_eq_false_iff_ne]; omega
    have HD : Hid (decide (at_ ≠ 0) = true) := Lib.hid (by simpa using e)
    have t1 := t.alloc (.cells #[.int .u64 0, .int .u64 0] 96)
    have c1 := t1.st.cell 1
    have ca : (w.alloc (.cells #[.int .u64 0, .int .u64 0] 96)).cell? ⟨b, at_ * 6, none⟩ = some (.int .u64 (m at_).k.a) := t1.cell ha (j := 0) (by decide)
    have cb : (w.alloc (.cells #[.int .u64 0, .int .u64 0] 96)).cell? ⟨b, at_ * 6 + 1, none⟩ = some (.int .u64 (m at_).k.b) := t1.cell ha (by decide)
    clear t t1
    generalize (m at_).k.a = ka at *
    generalize (m at_).k.b = kb at *
    go_enter Try.func73, Try.ntmps73
    go_wp2
    (try simp only [Exit.inBlock, Exit.then])
    refine bodyPost_ret (v := .tuple #[.agg #[.int .u64 ka, .int .u64 kb], .bool true]) ?_ rfl ⟨by rw [HD.out], ?_⟩
    · rw [results_cell_tmp rfl]
      go_simp
    · exact (Keep.refl _ _).alloc _
end Go.Proofs.Ytnljjdfajmjdjaa
