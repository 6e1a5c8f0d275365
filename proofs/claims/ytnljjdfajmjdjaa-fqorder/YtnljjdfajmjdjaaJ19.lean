/-
  The turns of a pull, as they lie in memory: lists, the tree's keys. No program is spoken of. Conditions: none.
  The calls of package sat (Add, Sub, Mul, Int) answer what the document says, at every pair of numbers of 64 bits. Conditions: none beyond that the arguments are numbers of their kind.
  Plain mathematics of a division bit by bit, and of products and quotients of 128 bits. No program is spoken of. Conditions: none.
  The calls of package wide (Mul, Div, MulDiv) answer what the document says, at all numbers of 64 bits. Conditions: none beyond that the arguments are numbers of their kind.
-/
import Derived.Test.YtnljjdfajmjdjaaJ18
import Derived.Test.YtnljjdfajmjdjaaChecked
import Derived.WalkKit
import Derived.WalkSpells
import Derived.WalkLawsBesides
import Derived.Lib.Mul64
import Derived.Laws.Bits64b
import Derived.Laws.Externs
import Derived.Lib.Hide
import Derived.LoopTactic
namespace Go.Proofs.Ytnljjdfajmjdjaa
open Go.RowKit
set_option maxRecDepth 100000

theorem head_moves {x : Qm} (h : LsOk x.N x.O) (hb : headB x.N x.O = true) {i : Nat} (hs : headS x.N x.O = (i : Int)) :
    x.N.erase (i : Int) = dropN x.N ∧ x.O.erase (i : Int) = dropO x.N x.O ∧ dropO x.N x.O ++ [(i : Int)] = backO x.N x.O := by
  have e2 := erase_both h hb
  rw [hs] at e2
  refine ⟨e2.1, e2.2, ?_⟩
  rw [← hs]
  generalize x.N = N at *; generalize x.O = O at *
  cases N with
  | nil =>
    cases O with
    | nil => cases hb
    | cons z r => rfl
  | cons z r => rfl
/-- The head goes back. -/
theorem seen_back {x : Qm} (h : LsOk x.N x.O) (hb : headB x.N x.O = true) {i : Nat} (hs : headS x.N x.O = (i : Int)) : Seen { x with N := dropN x.N, O := backO x.N x.O } (putQ x i 2) := by
  obtain ⟨e1, e2, e3⟩ := head_moves h hb hs
  exact seen_put x 2 (by show x.N.erase (i : Int) = _; exact e1) (by show x.O.erase (i : Int) ++ [(i : Int)] = _; rw [e2, e3])
/-- The head is in no list. -/
theorem seen_drop {x : Qm} (h : LsOk x.N x.O) (hb : headB x.N x.O = true) {i : Nat} (hs : headS x.N x.O = (i : Int)) {p : Int} (h1 : p ≠ 1) (h2 : p ≠ 2) : Seen { x with N := dropN x.N, O := dropO x.N x.O } (putQ x i p) := by
  obtain ⟨e1, e2, _⟩ := head_moves h hb hs
  refine seen_put x p ?_ ?_
  · show (if p = 1 then _ else x.N.erase (i : Int)) = _
    rw [if_neg h1, e1]
  · show (if p = 2 then _ else x.O.erase (i : Int)) = _
    rw [if_neg h2, e2]
theorem Seen.trans {x y z : Qm} (h : Seen x y) (k : Seen y z) : Seen x z :=
  ⟨k.c.trans h.c, k.N.trans h.N, k.O.trans h.O, fun i hi => (k.T i hi).trans (h.T i hi), fun i hi => (k.k i hi).trans (h.k i hi), fun i hi => (k.n i hi).trans (h.n i hi), fun i hi => (k.u i hi).trans (h.u i hi), fun i hi => (k.q i hi).trans (h.q i hi)⟩
/-- .. and it is nowhere since now. -/
theorem seen_gone {x : Qm} (h : LsOk x.N x.O) (hb : headB x.N x.O = true) {i : Nat} (hs : headS x.N x.O = (i : Int)) (now : Int) :
    Seen { x with F := upF x.F i { x.F i with u := now }, N := dropN x.N, O := dropO x.N x.O } { putQ x i 0 with F := upF (putQ x i 0).F i { (putQ x i 0).F i with u := now } } := by
  have s := seen_drop h hb hs (p := 0) (by decide) (by decide)
  refine ⟨rfl, s.N, s.O, fun _ _ => rfl, fun j _ => ?_, fun j _ => ?_, fun j _ => ?_, fun j _ => ?_⟩
  all_goals
    dsimp only
    by_cases e : j = i
    · subst e; rw [upF_at, upF_at, putQ_F]
    · rw [upF_ne _ _ e, upF_ne _ _ e, putQ_ne x 0 e]
/-- One that does not wait, and does not wait then: the keys stay. -/
theorem ks_at {x y : Qm} {ks : List Key} (hk : KsOf x ks) {i : Nat} (hne : ∀ j : Nat, j ≠ i → y.F j = x.F j) (hT : ∀ j : Nat, j ≠ i → y.T j = x.T j) (hx : (x.F i).p ≠ 3) (hy : (y.F i).p ≠ 3) : KsOf y ks := fun k => by
  rw [hk]
  constructor
  · rintro ⟨j, hj, h1, h2, h3⟩
    have e : j ≠ i := fun e => by subst e; exact hx h2
    exact ⟨j, hj, by rw [hT j e]; exact h1, by rw [hne j e]; exact h2, by unfold keyF; rw [hne j e]; exact h3⟩
  · rintro ⟨j, hj, h1, h2, h3⟩
    have e : j ≠ i := fun e => by subst e; exact hy h2
    exact ⟨j, hj, by rw [← hT j e]; exact h1, by rw [← hne j e]; exact h2, by unfold keyF at h3 ⊢; rw [← hne j e]; exact h3⟩
theorem KLt.tri' (x k : Key) : KLt x k ∨ x = k ∨ KLt k x := by
  obtain ⟨a, b⟩ := x; obtain ⟨c, d⟩ := k
  simp only [KLt, Key.mk.injEq]
  omega
theorem mem_insK {k x : Key} {ks : List Key} : x ∈ insK k ks ↔ x = k ∨ x ∈ ks := by
  unfold insK
  simp only [List.mem_append, List.mem_filter, List.mem_cons, decide_eq_true_eq]
  constructor
  · rintro (h | h | h)
    · exact .inr h.1
    · exact .inl h
    · exact .inr h.1
  · rintro (h | h)
    · exact .inr (.inl h)
    · rcases KLt.tri' x k with h' | h' | h'
      · exact .inl ⟨h, h'⟩
      · exact .inr (.inl h')
      · exact .inr (.inr ⟨h, h'⟩)
/-- One comes to wait. -/
theorem ks_ins {x y : Qm} {ks : List Key} (hk : KsOf x ks) {i : Nat} (hi : i < 8) (hne : ∀ j : Nat, j ≠ i → y.F j = x.F j) (hT : ∀ j : Nat, y.T j = x.T j) (ht : x.T i = true) (hx : (x.F i).p ≠ 3) (hy : (y.F i).p = 3) (he : keyF y i = keyF x i) :
    KsOf y (insK (keyF x i) ks) := fun k => by
  rw [mem_insK]
  constructor
  · rintro (h | h)
    · exact ⟨i, hi, by rw [hT]; exact ht, hy, by rw [he]; exact h⟩
    · obtain ⟨j, hj, h1, h2, h3⟩ := (hk k).1 h
      have e : j ≠ i := fun e => by subst e; exact hx h2
      exact ⟨j, hj, by rw [hT]; exact h1, by rw [hne j e]; exact h2, by unfold keyF; rw [hne j e]; exact h3⟩
  · rintro ⟨j, hj, h1, h2, h3⟩
    by_cases e : j = i
    · subst e; exact .inl (h3.trans he)
    · exact .inr ((hk k).2 ⟨j, hj, by rw [← hT]; exact h1, by rw [← hne j e]; exact h2, by unfold keyF at h3 ⊢; rw [← hne j e]; exact h3⟩)
/-- There is room for it. -/
theorem ks_room {x : Qm} {ks : List Key} (hk : KsOf x ks) (hs : ks.Pairwise KLt) {i : Nat} (hi : i < 8) (hx : (x.F i).p ≠ 3) : insE 8 ks (keyF x i) = 0 ∧ insS 8 ks (keyF x i) = insK (keyF x i) ks := by
  have hn : keyF x i ∉ ks := fun h => hx ((hk.at hi).1 h).2
  have hb : ∀ k ∈ ks, ∃ j : Nat, j < 8 ∧ k = keyF x j ∧ j ≠ i := fun k h => by
    obtain ⟨j, hj, _, h2, h3⟩ := (hk k).1 h
    exact ⟨j, hj, h3, fun e => by subst e; exact hx h2⟩
  have hnd : (((i : Int)) :: ks.map (·.b)).Nodup := by
    refine List.nodup_cons.2 ⟨fun h => ?_, ?_⟩
    · obtain ⟨k, h1, h2⟩ := List.mem_map.1 h
      obtain ⟨j, _, h3, h4⟩ := hb k h1
      rw [h3] at h2
      have : (j : Int) = (i : Int) := h2
      omega
    · rw [List.Nodup, List.pairwise_map]
      refine List.Pairwise.imp_of_mem (R := KLt) ?_ hs
      intro a b ha hb' hab e
      obtain ⟨j, _, h3, _⟩ := hb a ha
      obtain ⟨j', _, h5, _⟩ := hb b hb'
      have e' : (j : Int) = (j' : Int) := by rw [h3, h5] at e; exact e
      obtain rfl : j = j' := by omega
      rw [h3, h5] at hab
      unfold KLt at hab; omega
  have hl := nodup_le 8 hnd (fun z hz => by
    rcases List.mem_cons.1 hz with h | h
    · omega
    · obtain ⟨k, h1, h2⟩ := List.mem_map.1 h
      obtain ⟨j, hj, h3, _⟩ := hb k h1
      rw [h3] at h2
      have : (j : Int) = z := h2
      omega)
  simp at hl
  unfold insE insS
  rw [if_neg hn, if_neg hn, if_neg (by omega), if_neg (by omega)]
  exact ⟨rfl, rfl⟩
end Go.Proofs.Ytnljjdfajmjdjaa
namespace Go.Proofs.Ytnljjdfajmjdjaa
open Go.RowKit
set_option maxRecDepth 100000

/-! ### The plain mathematics -/
def satAdd (a b : Int) : Int := if a + b ≤ 18446744073709551615 then a + b else 18446744073709551615
def satSub (a b : Int) : Int := if a < b then 0 else a - b
def satMul (a b : Int) : Int := if a * b ≤ 18446744073709551615 then a * b else 18446744073709551615
def satInt (v : Int) : Int := if 9223372036854775807 < v then 9223372036854775807 else v

theorem satAdd_le {a b : Int} (h : a + b ≤ 18446744073709551615) : satAdd a b = a + b := if_pos h
theorem satAdd_gt {a b : Int} (h : 18446744073709551615 < a + b) : satAdd a b = 18446744073709551615 := if_neg (by omega)
theorem satSub_lt {a b : Int} (h : a < b) : satSub a b = 0 := if_pos h
theorem satSub_ge {a b : Int} (h : b ≤ a) : satSub a b = a - b := if_neg (by omega)
theorem satMul_le {a b : Int} (h : a * b ≤ 18446744073709551615) : satMul a b = a * b := if_pos h
theorem satMul_gt {a b : Int} (h : 18446744073709551615 < a * b) : satMul a b = 18446744073709551615 := if_neg (by omega)
theorem satInt_gt {a : Int} (h : 9223372036854775807 < a) : satInt a = 9223372036854775807 := if_pos h
theorem satInt_le {a : Int} (h : a ≤ 9223372036854775807) : satInt a = a := if_neg (by omega)
theorem ret_int {k : IntKind} {a b : Int} (h : a = b) : Ending.returned (.int k a) = .returned (.int k b) := by rw [h]

/-! ### math/bits.Add64, as the walk spells it -/
theorem add64_0 (x y : Int) (hx : 0 ≤ x) (hy : 0 ≤ y) (w : World) : (callFunc 58 #[.int .u64 x, .int .u64 y, .int .u64 0]).run Try.prog w =
    .ok (.value (.tuple #[.int .u64 ((x + y) % 18446744073709551616), .int .u64 ((x + y) / 18446744073709551616)])) w := by
  rw [run_callFunc_extern Try.func58 (by kernel_rfl) (by kernel_rfl) (by kernel_rfl) (e := add64Entry) (by kernel_rfl), run_add64 x y 0 hx hy (by omega) (by omega)]
  simp only [Result.andThen, Int.add_zero]

set_option maxHeartbeats 400000 in
theorem add_any (a b : Int) (ha0 : 0 ≤ a) (ha : a ≤ 18446744073709551615) (hb0 : 0 ≤ b) (hb : b ≤ 18446744073709551615) (w : World) :
    Calls Try.prog 36 #[.int .u64 a, .int .u64 b] w fun e w' => e = .returned (.int .u64 (satAdd a b)) ∧ w = w' := by
  by_cases h : a + b ≤ 18446744073709551615
  · have Hf : Hid ((a + b) % 18446744073709551616 = satAdd a b) := Lib.hid (by rw [satAdd_le h]; omega)
    have hq : ((a + b) / 18446744073709551616 != 0) = false := by
      have : (a + b) / 18446744073709551616 = 0 := by omega
      rw [this]; rfl
    go_enter Try.func36, Try.ntmps36
    go_wp2_with (simp only [add64_0 a b ha0 hb0])
    go_ret
    exact ⟨ret_int Hf.out, rfl⟩
  · have h : 18446744073709551615 < a + b := by omega
    have Hf := Lib.hid (satAdd_gt h)
    have hq : ((a + b) / 18446744073709551616 != 0) = true := by
      have : (a + b) / 18446744073709551616 = 1 := by omega
      rw [this]; rfl
    go_enter Try.func36, Try.ntmps36
    go_wp2_with (simp only [add64_0 a b ha0 hb0])
    go_ret
    exact ⟨ret_int Hf.out.symm, rfl⟩



/-! ### math/bits.Mul64: the library's own Go text, by halves -/
theorem ret_two {k l : IntKind} {a b c d : Int} (h : a = b) (g : c = d) : Ending.returned (.tuple #[.int k a, .int l c]) = .returned (.tuple #[.int k b, .int l d]) := by rw [h, g]
theorem low32 (a : Nat) (ha : a < 18446744073709551616) : bits .and .u64 (a : Int) 4294967295 = ((a % 4294967296 : Nat) : Int) := by
  have h := bits_and_u64_nat a 4294967295 ha (by omega)
  rw [show a &&& 4294967295 = a % 4294967296 from Nat.and_two_pow_sub_one_eq_mod a 32] at h
  exact h
theorem wrap_in {a : Nat} (ha : a < 18446744073709551616) : IntKind.u64.wrap (a : Int) = (a : Int) := by rw [IntKind.wrap_u64]; omega

/-- What the Go text reckons as the upper half is the upper half. -/
theorem upper (x y : Nat) (hx : x < 18446744073709551616) (hy : y < 18446744073709551616) :
    IntKind.u64.wrap (IntKind.u64.wrap (IntKind.u64.wrap ((x : Int) / 4294967296 * ((y : Int) / 4294967296)) + IntKind.u64.wrap (IntKind.u64.wrap ((x : Int) / 4294967296 * bits .and .u64 (y : Int) 4294967295) + IntKind.u64.wrap (bits .and .u64 (x : Int) 4294967295 * bits .and .u64 (y : Int) 4294967295) / 4294967296) / 4294967296) +
      IntKind.u64.wrap (bits .and .u64 (IntKind.u64.wrap (IntKind.u64.wrap ((x : Int) / 4294967296 * bits .and .u64 (y : Int) 4294967295) + IntKind.u64.wrap (bits .and .u64 (x : Int) 4294967295 * bits .and .u64 (y : Int) 4294967295) / 4294967296)) 4294967295 + IntKind.u64.wrap (bits .and .u64 (x : Int) 4294967295 * ((y : Int) / 4294967296))) / 4294967296)
      = ((x * y / 18446744073709551616 : Nat) : Int) := by
  obtain ⟨g1, g2, g3, g4⟩ := Lib.mul64_hi x y hx hy
  have e1 := Lib.half_mul_le (a := x / 4294967296) (b := y / 4294967296) (by omega) (by omega)
  have e2 := Lib.half_mul_le (a := x / 4294967296) (b := y % 4294967296) (by omega) (by omega)
  have e3 := Lib.half_mul_le (a := x % 4294967296) (b := y / 4294967296) (by omega) (by omega)
  have cx : (x : Int) / 4294967296 = ((x / 4294967296 : Nat) : Int) := by omega
  have cy : (y : Int) / 4294967296 = ((y / 4294967296 : Nat) : Int) := by omega
  rw [low32 x hx, low32 y hy, cx, cy, ← g4]
  generalize x / 4294967296 = x1 at *
  generalize y / 4294967296 = y1 at *
  generalize x % 4294967296 = x0 at *
  generalize y % 4294967296 = y0 at *
  simp only [← Int.natCast_mul]
  generalize x1 * y1 = p at *
  generalize x1 * y0 = q at *
  generalize x0 * y1 = r at *
  generalize x0 * y0 = s at *
  rw [wrap_in (a := p) (by omega), wrap_in (a := q) (by omega), wrap_in (a := r) (by omega), wrap_in (a := s) (by omega)]
  rw [show (q : Int) + (s : Int) / 4294967296 = ((q + s / 4294967296 : Nat) : Int) from by omega]
  generalize q + s / 4294967296 = t at *
  rw [wrap_in (a := t) (by omega), low32 t (by omega)]
  simp only [IntKind.wrap_u64]
  omega

set_option maxHeartbeats 1000000 in
theorem mul64_nat (x y : Nat) (hx : x < 18446744073709551616) (hy : y < 18446744073709551616) (w : World) :
    Calls Try.prog 102 #[.int .u64 x, .int .u64 y] w fun e w' => e = .returned (.tuple #[.int .u64 ((x * y / 18446744073709551616 : Nat) : Int), .int .u64 ((x * y % 18446744073709551616 : Nat) : Int)]) ∧ w = w' := by
  have Hu := Lib.hid (upper x y hx hy)
  have Hl : Hid (IntKind.u64.wrap ((x : Int) * (y : Int)) = ((x * y % 18446744073709551616 : Nat) : Int)) := Lib.hid (by rw [IntKind.wrap_u64, ← Int.natCast_mul]; omega)
  go_enter Try.func102, Try.ntmps102
  go_wp2
  go_ret2
  exact ⟨ret_two Hu.out Hl.out, rfl⟩

theorem mul64_any (x y : Int) (hx0 : 0 ≤ x) (hx : x ≤ 18446744073709551615) (hy0 : 0 ≤ y) (hy : y ≤ 18446744073709551615) (w : World) :
    Calls Try.prog 102 #[.int .u64 x, .int .u64 y] w fun e w' => e = .returned (.tuple #[.int .u64 (x * y / 18446744073709551616), .int .u64 (x * y % 18446744073709551616)]) ∧ w = w' := by
  obtain ⟨x, rfl⟩ := Int.eq_ofNat_of_zero_le hx0
  obtain ⟨y, rfl⟩ := Int.eq_ofNat_of_zero_le hy0
  refine (mul64_nat x y (by omega) (by omega) w).mono ?_
  rintro e w' ⟨rfl, rfl⟩
  exact ⟨ret_two (by rw [← Int.natCast_mul]; omega) (by rw [← Int.natCast_mul]; omega), rfl⟩


end Go.Proofs.Ytnljjdfajmjdjaa
set_option linter.unusedVariables false
namespace Go.Proofs.Ytnljjdfajmjdjaa
open Go.RowKit
set_option maxRecDepth 100000

/-- How far a division of N by c has come behind k bits: what is left (r), what is still to come (l), the quotient so far (q). -/
def DivAt (N c k r l q : Nat) : Prop := ∃ m, l = m * 2 ^ k ∧ m < 2 ^ (64 - k) ∧ N = (q * c + r) * 2 ^ (64 - k) + m ∧ r < c ∧ q < 2 ^ k

theorem DivAt.start {hi lo c : Nat} (hl : lo < 2 ^ 64) (hc : hi < c) : DivAt (hi * 2 ^ 64 + lo) c 0 hi lo 0 :=
  ⟨lo, by simp, by simpa using hl, by simp, hc, by simp⟩

theorem DivAt.lt {N c k r l q : Nat} (h : DivAt N c k r l q) (hk : k ≤ 64) : l < 18446744073709551616 ∧ r < c ∧ q < 2 ^ k := by
  obtain ⟨m, rfl, hm, _, hr, hq⟩ := h
  refine ⟨?_, hr, hq⟩
  have h1 : m * 2 ^ k < 2 ^ (64 - k) * 2 ^ k := Nat.mul_lt_mul_of_pos_right hm (Nat.pow_pos (by omega))
  rw [← Nat.pow_add, show 64 - k + k = 64 from by omega] at h1
  exact h1

theorem DivAt.split {k m : Nat} (hk : k < 64) (hm : m < 2 ^ (64 - k)) : m * 2 ^ k / 9223372036854775808 = m / 2 ^ (63 - k) ∧ 2 * (m * 2 ^ k) % 18446744073709551616 = m % 2 ^ (63 - k) * 2 ^ (k + 1) := by
  have e1 : (9223372036854775808 : Nat) = 2 ^ (63 - k) * 2 ^ k := by rw [← Nat.pow_add, show 63 - k + k = 63 from by omega]
  have e2 : (18446744073709551616 : Nat) = 2 ^ (63 - k) * 2 ^ (k + 1) := by rw [← Nat.pow_add, show 63 - k + (k + 1) = 64 from by omega]
  constructor
  · rw [e1, Nat.mul_div_mul_right _ _ (Nat.pow_pos (by omega))]
  · rw [e2, show 2 * (m * 2 ^ k) = m * 2 ^ (k + 1) from by rw [Nat.pow_succ]; grind, Nat.mul_mod_mul_right]

theorem DivAt.top {N c k r l q : Nat} (h : DivAt N c k r l q) (hk : k < 64) : l / 9223372036854775808 ≤ 1 := by
  have := (h.lt (by omega)).1
  omega

theorem DivAt.one {N c k r l q : Nat} (h : DivAt N c k r l q) (hk : k < 64) (hc : c ≤ 2 * r + l / 9223372036854775808) :
    DivAt N c (k + 1) (2 * r + l / 9223372036854775808 - c) (2 * l % 18446744073709551616) (2 * q + 1) := by
  have ht := h.top hk
  obtain ⟨m, rfl, hm, hN, hr, hq⟩ := h
  obtain ⟨e1, e2⟩ := DivAt.split hk hm
  refine ⟨m % 2 ^ (63 - k), e2, ?_, ?_, by omega, by rw [Nat.pow_succ]; omega⟩
  · rw [show 64 - (k + 1) = 63 - k from by omega]; exact Nat.mod_lt _ (Nat.pow_pos (by omega))
  · rw [e1] at hc ⊢
    rw [show 64 - k = (63 - k) + 1 from by omega, Nat.pow_succ] at hN
    rw [show 64 - (k + 1) = 63 - k from by omega, hN]
    have hd := Nat.div_add_mod m (2 ^ (63 - k))
    generalize 2 ^ (63 - k) = P at *
    generalize m / P = t at *
    generalize m % P = s at *
    obtain ⟨d, hd2⟩ := Nat.exists_eq_add_of_le hc
    rw [show 2 * r + t - c = d from by omega]
    have : (2 * r + t) * P = (c + d) * P := by rw [hd2]
    subst hd
    grind

theorem DivAt.none {N c k r l q : Nat} (h : DivAt N c k r l q) (hk : k < 64) (hc : 2 * r + l / 9223372036854775808 < c) :
    DivAt N c (k + 1) (2 * r + l / 9223372036854775808) (2 * l % 18446744073709551616) (2 * q) := by
  obtain ⟨m, rfl, hm, hN, hr, hq⟩ := h
  obtain ⟨e1, e2⟩ := DivAt.split hk hm
  refine ⟨m % 2 ^ (63 - k), e2, ?_, ?_, by omega, by rw [Nat.pow_succ]; omega⟩
  · rw [show 64 - (k + 1) = 63 - k from by omega]; exact Nat.mod_lt _ (Nat.pow_pos (by omega))
  · rw [e1] at hc ⊢
    rw [show 64 - k = (63 - k) + 1 from by omega, Nat.pow_succ] at hN
    rw [show 64 - (k + 1) = 63 - k from by omega, hN]
    have hd := Nat.div_add_mod m (2 ^ (63 - k))
    generalize 2 ^ (63 - k) = P at *
    generalize m / P = t at *
    generalize m % P = s at *
    subst hd
    grind

theorem DivAt.done {N c r l q : Nat} (h : DivAt N c 64 r l q) : q = N / c := by
  obtain ⟨m, rfl, hm, hN, hr, hq⟩ := h
  have hm0 : m = 0 := by simpa using hm
  subst hm0
  rw [hN]
  simp only [Nat.sub_self, Nat.pow_zero, Nat.mul_one, Nat.add_zero]
  rw [Nat.mul_comm q c, Nat.mul_add_div (by omega), Nat.div_eq_of_lt hr, Nat.add_zero]

theorem DivAt.empty {N c k q : Nat} (h : DivAt N c k 0 0 q) : q * 2 ^ (64 - k) = N / c := by
  obtain ⟨m, hl, hm, hN, hr, hq⟩ := h
  have hm0 : m = 0 := by
    rcases Nat.mul_eq_zero.1 hl.symm with h | h
    · exact h
    · exact absurd h (Nat.ne_of_gt (Nat.pow_pos (by omega)))
  subst hm0
  rw [hN, Nat.add_zero, Nat.add_zero, show q * c * 2 ^ (64 - k) = c * (q * 2 ^ (64 - k)) from by grind, Nat.mul_div_cancel_left _ hr]

/-! ### Bits -/
theorem or_bit (x t : Nat) (ht : t ≤ 1) (hx : 2 * x + t < 18446744073709551616) : bits .or .u64 ((2 * x : Nat) : Int) (t : Int) = ((2 * x + t : Nat) : Int) := by
  rw [bits_or_u64_nat _ _ (by omega) (by omega)]
  congr 1
  have := Nat.two_pow_add_eq_or_of_lt (i := 1) (b := t) (by omega) x
  rw [show 2 ^ 1 * x = 2 * x from rfl] at this
  exact this.symm
theorem or_next (R L : Nat) (hL : L < 18446744073709551616) :
    bits .or .u64 (IntKind.u64.wrap ((R : Int) * 2)) ((L : Int) / 9223372036854775808) = (((2 * R + L / 9223372036854775808) % 18446744073709551616 : Nat) : Int) := by
  have e := or_bit (R % 9223372036854775808) (L / 9223372036854775808) (by omega) (by omega)
  rw [IntKind.wrap_u64, show (R : Int) * 2 % 18446744073709551616 = ((2 * (R % 9223372036854775808) : Nat) : Int) from by omega,
    show (L : Int) / 9223372036854775808 = ((L / 9223372036854775808 : Nat) : Int) from by omega, e]
  congr 1
  omega
theorem or_next' (R L : Nat) (hR : R < 9223372036854775808) (hL : L < 18446744073709551616) :
    bits .or .u64 ((R : Int) * 2) ((L : Int) / 9223372036854775808) = (((2 * R + L / 9223372036854775808) % 18446744073709551616 : Nat) : Int) := by
  rw [← or_next R L hL, IntKind.wrap_u64]
  congr 1
  omega
theorem or_quot (k q : Nat) (hk : k < 64) (hq : q < 2 ^ k) :
    bits .or .u64 ((q * 2 ^ (64 - k) : Nat) : Int) (9223372036854775808 / 2 ^ k) = (((2 * q + 1) * 2 ^ (63 - k) : Nat) : Int) := by
  have e1 : (9223372036854775808 : Nat) = 2 ^ (63 - k) * 2 ^ k := by rw [← Nat.pow_add, show 63 - k + k = 63 from by omega]
  have e2 : ((9223372036854775808 : Int) / 2 ^ k) = ((2 ^ (63 - k) : Nat) : Int) := by
    have : (9223372036854775808 : Nat) / 2 ^ k = 2 ^ (63 - k) := by rw [e1, Nat.mul_div_cancel _ (Nat.pow_pos (by omega))]
    rw [← this]; simp
  have e3 : q * 2 ^ (64 - k) = 2 ^ (64 - k) * q := Nat.mul_comm _ _
  have e4 : 2 ^ (63 - k) < 2 ^ (64 - k) := Nat.pow_lt_pow_right (by omega) (by omega)
  have e5 : q * 2 ^ (64 - k) < 18446744073709551616 := by
    have h1 : q * 2 ^ (64 - k) < 2 ^ k * 2 ^ (64 - k) := Nat.mul_lt_mul_of_pos_right hq (Nat.pow_pos (by omega))
    rw [← Nat.pow_add, show k + (64 - k) = 64 from by omega] at h1
    exact h1
  have e6 : 2 ^ (63 - k) < 18446744073709551616 := Nat.lt_of_lt_of_le e4 (show 2 ^ (64 - k) ≤ 2 ^ 64 from Nat.pow_le_pow_right (by omega) (by omega))
  rw [e2, bits_or_u64_nat _ _ e5 e6]
  congr 1
  rw [e3, ← Nat.two_pow_add_eq_or_of_lt e4 q, show 64 - k = (63 - k) + 1 from by omega, Nat.pow_succ]
  generalize 2 ^ (63 - k) = P
  grind
theorem quot_lt (k q : Nat) (hk : k ≤ 64) (hq : q < 2 ^ k) : q * 2 ^ (64 - k) < 18446744073709551616 := by
  have h1 : q * 2 ^ (64 - k) < 2 ^ k * 2 ^ (64 - k) := Nat.mul_lt_mul_of_pos_right hq (Nat.pow_pos (by omega))
  rw [← Nat.pow_add, show k + (64 - k) = 64 from by omega] at h1
  exact h1
theorem or_zero (a b : Nat) (ha : a < 18446744073709551616) (hb : b < 18446744073709551616) : (bits .or .u64 (a : Int) (b : Int) == 0) = decide (a = 0 ∧ b = 0) := by
  rw [bits_or_u64_nat _ _ ha hb, Bool.eq_iff_iff]
  simp [Nat.or_eq_zero_iff]

/-! ### What the document says -/
def divV (hi lo c : Int) : Int := if c = 0 then 0 else if c ≤ hi then 0 else (hi * 18446744073709551616 + lo) / c
def divE (hi lo c : Int) : Int := if c = 0 then 1 else if c ≤ hi then 3 else 0
def mulDivV (a b c : Int) : Int := if a * b = 0 then 0 else if c = 0 then 18446744073709551615 else if 18446744073709551615 < a * b / c then 18446744073709551615 else a * b / c
theorem divV_bd {hi lo c : Int} (h0 : 0 ≤ hi) (l0 : 0 ≤ lo) (l1 : lo ≤ 18446744073709551615) (c0 : 0 ≤ c) : 0 ≤ divV hi lo c ∧ divV hi lo c ≤ 18446744073709551615 := by
  unfold divV
  split
  · omega
  · split
    · omega
    · refine ⟨Int.ediv_nonneg (by omega) c0, ?_⟩
      have : (hi * 18446744073709551616 + lo) / c < 18446744073709551616 := by
        apply Int.ediv_lt_of_lt_mul (by omega)
        have : (hi + 1) * 18446744073709551616 ≤ c * 18446744073709551616 := Int.mul_le_mul_of_nonneg_right (by omega) (by omega)
        omega
      omega
theorem mulDivV_bd {a b c : Int} (a0 : 0 ≤ a) (b0 : 0 ≤ b) (c0 : 0 ≤ c) : 0 ≤ mulDivV a b c ∧ mulDivV a b c ≤ 18446744073709551615 := by
  unfold mulDivV
  have h := Int.mul_nonneg a0 b0
  have h2 := Int.ediv_nonneg h c0
  split
  · omega
  · split
    · omega
    · split
      · omega
      · exact ⟨h2, by omega⟩
theorem over_iff {p c : Int} (hp : 0 ≤ p) (hc : 0 < c) : 18446744073709551615 < p / c ↔ c ≤ p / 18446744073709551616 := by
  rw [show (18446744073709551615 : Int) < p / c ↔ 18446744073709551616 ≤ p / c from by omega, Int.le_ediv_iff_mul_le hc, Int.le_ediv_iff_mul_le (by omega), Int.mul_comm]
end Go.Proofs.Ytnljjdfajmjdjaa
set_option linter.unusedVariables false
namespace Go.Proofs.Ytnljjdfajmjdjaa
open Go.RowKit
set_option maxRecDepth 100000

set_option maxHeartbeats 400000 in
theorem wmul_any (x y : Int) (hx0 : 0 ≤ x) (hx : x ≤ 18446744073709551615) (hy0 : 0 ≤ y) (hy : y ≤ 18446744073709551615) (w : World) :
    Calls Try.prog 98 #[.int .u64 x, .int .u64 y] w fun e w' => e = .returned (.tuple #[.int .u64 (x * y / 18446744073709551616), .int .u64 (x * y % 18446744073709551616)]) ∧ w = w' := by
  go_enter Try.func98, Try.ntmps98
  go_wp2_with (go_at_call 102; refine (mul64_any _ _ hx0 hx hy0 hy _).mono ?_; rintro e w' ⟨rfl, rfl⟩)
  go_ret2
  exact ⟨rfl, rfl⟩

set_option maxHeartbeats 1000000 in
theorem divide_nat (r0 l0 c : Nat) (hr : r0 < c) (hc : c < 18446744073709551616) (hl : l0 < 18446744073709551616) (w : World) :
    Calls Try.prog 103 #[.int .u64 r0, .int .u64 l0, .int .u64 c] w fun e w' => e = .returned (.int .u64 (((r0 * 18446744073709551616 + l0) / c : Nat) : Int)) ∧ w = w' := by
  have H0 := Lib.hid (DivAt.start (hi := r0) (lo := l0) (c := c) hl hr)
  rw [show (2 : Nat) ^ 64 = 18446744073709551616 from rfl] at H0
  generalize r0 * 18446744073709551616 + l0 = N at *
  go_enter Try.func103, Try.ntmps103
  go_wp2
  go_step3
  go_wp2
  go_step3
  go_wp2
  go_loop [0, 1, 7, 11] (fun r l q i => ∃ k R L Q z : Nat, k ≤ 64 ∧ DivAt N c k R L z ∧ Hid (z * 2 ^ (64 - k) = Q) ∧ i = .int .i64 k ∧ r = .int .u64 R ∧ l = .int .u64 L ∧ q = .int .u64 Q) (fun _ _ _ i => 64 - (intOf i).toNat)
  case atStart => exact ⟨0, r0, l0, 0, 0, by omega, H0.out, Lib.hid (by omega), rfl, rfl, rfl, rfl⟩
  case round =>
    clear H0
    obtain ⟨k, R, L, Q, z, hk, hD, HQ, rfl, rfl, rfl, rfl⟩ := hrel
    obtain ⟨hL, hR, hz⟩ := hD.lt hk
    have hQ := quot_lt k z hk hz
    rw [HQ.out] at hQ
    by_cases hlt : k < 64
    · have hz0 := or_zero R L (by omega) hL
      by_cases hzero : R = 0 ∧ L = 0
      · obtain ⟨rfl, rfl⟩ := hzero
        have HE := Lib.hid hD.empty
        rw [HQ.out] at HE
        clear hz0 hD hz
        go_wp2
        try rw [Exit.noGoto_ret]
        go_ret
        exact ⟨ret_int (by rw [HE.out]), rfl⟩
      · have hz1 : (bits .or .u64 (R : Int) (L : Int) == 0) = false := by rw [hz0]; exact decide_eq_false hzero
        clear hz0 hzero
        have HO := Lib.hid (or_quot k z hlt hz)
        rw [HQ.out] at HO
        have hL2 : IntKind.u64.wrap ((L : Int) * 2) = ((2 * L % 18446744073709551616 : Nat) : Int) := by rw [IntKind.wrap_u64]; omega
        have ht := hD.top hlt
        have hor := or_next R L hL
        by_cases hge : c ≤ 2 * R + L / 9223372036854775808
        · have HD := Lib.hid (hD.one hlt hge)
          have Hsub : Hid (IntKind.u64.wrap ((((2 * R + L / 9223372036854775808) % 18446744073709551616 : Nat) : Int) - (c : Int)) = ((2 * R + L / 9223372036854775808 - c : Nat) : Int)) := Lib.hid (by rw [IntKind.wrap_u64]; omega)
          have hQ2 := HO.out
          by_cases hov : R < 9223372036854775808
          · have ho : ((R : Int) / 9223372036854775808 == 1) = false := by rw [beq_eq_false_iff_ne]; omega
            have hor' := or_next' R L hov hL
            have hx : c ≤ (2 * R + L / 9223372036854775808) % 18446744073709551616 := by omega
            have hx2 : (2 * R + L / 9223372036854775808) % 18446744073709551616 < 18446744073709551616 := by omega
            clear hD hz HO
            generalize (2 * R + L / 9223372036854775808) % 18446744073709551616 = X at *
            generalize 2 * R + L / 9223372036854775808 - c = R' at *
            generalize 2 * L % 18446744073709551616 = L' at *
            generalize hQ' : (2 * z + 1) * 2 ^ (63 - k) = Q' at *
            have HQ' := Lib.hid hQ'; clear hQ'
            clear ht hge
            go_wp2
            go_round
            case rel => exact ⟨k + 1, R', L', Q', 2 * z + 1, by omega, HD.out, Lib.hid (by rw [show 64 - (k + 1) = 63 - k from by omega]; exact HQ'.out), by go_num, by first | rw [Hsub.out] | (have := Hsub.out; rw [IntKind.wrap_u64] at this; congr 1; omega), rfl, rfl⟩
            case measure => simp [intOf]; omega
          · have ho : ((R : Int) / 9223372036854775808 == 1) = true := by rw [beq_iff_eq]; omega
            clear hD hz HO
            generalize (2 * R + L / 9223372036854775808) % 18446744073709551616 = X at *
            generalize 2 * R + L / 9223372036854775808 - c = R' at *
            generalize 2 * L % 18446744073709551616 = L' at *
            generalize hQ' : (2 * z + 1) * 2 ^ (63 - k) = Q' at *
            have HQ' := Lib.hid hQ'; clear hQ'
            clear ht hge
            go_wp2
            go_round
            case rel => exact ⟨k + 1, R', L', Q', 2 * z + 1, by omega, HD.out, Lib.hid (by rw [show 64 - (k + 1) = 63 - k from by omega]; exact HQ'.out), by go_num, by rw [Hsub.out], rfl, rfl⟩
            case measure => simp [intOf]; omega
        · have hlt2 : 2 * R + L / 9223372036854775808 < c := by omega
          have HD := Lib.hid (hD.none hlt hlt2)
          have hov : R < 9223372036854775808 := by omega
          have ho : ((R : Int) / 9223372036854775808 == 1) = false := by rw [beq_eq_false_iff_ne]; omega
          have hor' := or_next' R L hov hL
          rw [Nat.mod_eq_of_lt (by omega)] at hor hor'
          have HQ' : Hid (2 * z * 2 ^ (64 - (k + 1)) = Q) := Lib.hid (by
            rw [← HQ.out, show 64 - k = (64 - (k + 1)) + 1 from by omega, Nat.pow_succ]
            generalize 2 ^ (64 - (k + 1)) = P
            grind)
          clear hD hz HO
          generalize 2 * R + L / 9223372036854775808 = X at *
          generalize 2 * L % 18446744073709551616 = L' at *
          clear ht hge
          go_wp2
          go_round
          case rel => exact ⟨k + 1, X, L', Q, 2 * z, by omega, HD.out, HQ', by go_num, rfl, rfl, rfl⟩
          case measure => simp [intOf]; omega
    · have hk' : k = 64 := by omega
      subst hk'
      have HE := Lib.hid hD.done
      have HQ2 : Hid (z = Q) := Lib.hid (by have := HQ.out; simpa using this)
      clear hD hz hQ
      go_wp2
      try rw [Exit.noGoto_ret]
      go_ret
      exact ⟨ret_int (by rw [← HE.out, HQ2.out]), rfl⟩

theorem divide_any (hi lo c : Int) (h0 : 0 ≤ hi) (hr : hi < c) (hc : c ≤ 18446744073709551615) (l0 : 0 ≤ lo) (hl : lo ≤ 18446744073709551615) (w : World) :
    Calls Try.prog 103 #[.int .u64 hi, .int .u64 lo, .int .u64 c] w fun e w' => e = .returned (.int .u64 (divV hi lo c)) ∧ w = w' := by
  have e : divV hi lo c = (hi * 18446744073709551616 + lo) / c := by unfold divV; rw [if_neg (by omega), if_neg (by omega)]
  obtain ⟨x, rfl⟩ := Int.eq_ofNat_of_zero_le h0
  obtain ⟨y, rfl⟩ := Int.eq_ofNat_of_zero_le l0
  obtain ⟨z, rfl⟩ := Int.eq_ofNat_of_zero_le (show 0 ≤ c by omega)
  rw [e]
  exact divide_nat x y z (by omega) (by omega) (by omega) w

set_option maxHeartbeats 400000 in
theorem wdiv_any (hi lo c : Int) (h0 : 0 ≤ hi) (h1 : hi ≤ 18446744073709551615) (l0 : 0 ≤ lo) (l1 : lo ≤ 18446744073709551615) (c0 : 0 ≤ c) (c1 : c ≤ 18446744073709551615) (w : World) :
    Calls Try.prog 99 #[.int .u64 hi, .int .u64 lo, .int .u64 c] w fun e w' => e = .returned (.tuple #[.int .u64 (divV hi lo c), .int .i64 (divE hi lo c)]) ∧ w = w' := by
  by_cases hc : c = 0
  · subst hc
    go_enter Try.func99, Try.ntmps99
    go_wp2
    go_ret2
    exact ⟨rfl, rfl⟩
  · have hcb : (c == 0) = false := by rw [beq_eq_false_iff_ne]; exact hc
    have hc' : 0 < c := by omega
    by_cases h : c ≤ hi
    · have Hv : Hid (divV hi lo c = 0) := Lib.hid (by unfold divV; rw [if_neg hc, if_pos h])
      have He : Hid (divE hi lo c = 3) := Lib.hid (by unfold divE; rw [if_neg hc, if_pos h])
      clear hc
      go_enter Try.func99, Try.ntmps99
      go_wp2
      go_ret2
      exact ⟨ret_two Hv.out.symm He.out.symm, rfl⟩
    · have He : Hid (divE hi lo c = 0) := Lib.hid (by unfold divE; rw [if_neg hc, if_neg h])
      clear hc
      go_enter Try.func99, Try.ntmps99
      go_wp2_with (go_at_call 103; refine (divide_any _ _ _ h0 (by omega) c1 l0 l1 _).mono ?_; rintro e w' ⟨rfl, rfl⟩)
      go_ret2
      exact ⟨ret_two rfl He.out.symm, rfl⟩

theorem or_zero_int {a b : Int} (a0 : 0 ≤ a) (a1 : a ≤ 18446744073709551615) (b0 : 0 ≤ b) (b1 : b ≤ 18446744073709551615) : (bits .or .u64 a b == 0) = decide (a = 0 ∧ b = 0) := by
  obtain ⟨x, rfl⟩ := Int.eq_ofNat_of_zero_le a0
  obtain ⟨y, rfl⟩ := Int.eq_ofNat_of_zero_le b0
  rw [or_zero x y (by omega) (by omega), Bool.eq_iff_iff]
  simp

set_option maxHeartbeats 400000 in
theorem wmuldiv_any (a b c : Int) (a0 : 0 ≤ a) (a1 : a ≤ 18446744073709551615) (b0 : 0 ≤ b) (b1 : b ≤ 18446744073709551615) (c0 : 0 ≤ c) (c1 : c ≤ 18446744073709551615) (w : World) :
    Calls Try.prog 88 #[.int .u64 a, .int .u64 b, .int .u64 c] w fun e w' => e = .returned (.int .u64 (mulDivV a b c)) ∧ w = w' := by
  have hp := Int.mul_nonneg a0 b0
  have hp2 : a * b ≤ 18446744073709551615 * 18446744073709551615 := Int.mul_le_mul a1 b1 b0 (by omega)
  have hdef : mulDivV a b c = if a * b = 0 then 0 else if c = 0 then 18446744073709551615 else if 18446744073709551615 < a * b / c then 18446744073709551615 else a * b / c := rfl
  have hq0 : 0 ≤ a * b / 18446744073709551616 := by omega
  have hq1 : a * b / 18446744073709551616 ≤ 18446744073709551615 := by omega
  have hr0 : 0 ≤ a * b % 18446744073709551616 := by omega
  have hr1 : a * b % 18446744073709551616 ≤ 18446744073709551615 := by omega
  have hz := or_zero_int hq0 hq1 hr0 hr1
  by_cases h : a * b = 0
  · rw [if_pos h] at hdef
    rw [h] at hz
    have Hf := Lib.hid hdef
    have hz2 : (bits .or .u64 (a * b / 18446744073709551616) (a * b % 18446744073709551616) == 0) = true := by rw [h]; exact hz
    clear hdef h hz hp hp2
    go_enter Try.func88, Try.ntmps88
    go_wp2_with (go_at_call 98; refine (wmul_any _ _ a0 a1 b0 b1 _).mono ?_; rintro e w' ⟨rfl, rfl⟩)
    go_ret
    exact ⟨ret_int Hf.out.symm, rfl⟩
  · rw [if_neg h] at hdef
    have hz2 : (bits .or .u64 (a * b / 18446744073709551616) (a * b % 18446744073709551616) == 0) = false := by rw [hz]; exact decide_eq_false (by omega)
    have hdm : a * b / 18446744073709551616 * 18446744073709551616 + a * b % 18446744073709551616 = a * b := by omega
    by_cases hg : c = 0 ∨ c ≤ a * b / 18446744073709551616
    · have Hf : Hid (mulDivV a b c = 18446744073709551615) := Lib.hid (by
        rw [hdef]
        split
        · rfl
        · rw [if_pos ((over_iff hp (by omega)).2 (by omega))])
      have he : (divE (a * b / 18446744073709551616) (a * b % 18446744073709551616) c != 0) = true := by
        rw [bne_iff_ne]; unfold divE; split
        · omega
        · rw [if_pos (by omega)]; omega
      clear hdef h hz hp hp2 hg hdm
      go_enter Try.func88, Try.ntmps88
      go_wp2_with (first
        | (go_at_call 98; refine (wmul_any _ _ a0 a1 b0 b1 _).mono ?_; rintro e w' ⟨rfl, rfl⟩)
        | (go_at_call 99; refine (wdiv_any _ _ _ hq0 hq1 hr0 hr1 c0 c1 _).mono ?_; rintro e w' ⟨rfl, rfl⟩))
      go_ret
      exact ⟨ret_int Hf.out.symm, rfl⟩
    · have Hf : Hid (mulDivV a b c = divV (a * b / 18446744073709551616) (a * b % 18446744073709551616) c) := Lib.hid (by
        rw [hdef, if_neg (by omega), if_neg (by rw [over_iff hp (by omega)]; omega)]
        unfold divV
        rw [if_neg (by omega), if_neg (by omega), hdm])
      have he : (divE (a * b / 18446744073709551616) (a * b % 18446744073709551616) c != 0) = false := by
        unfold divE; rw [if_neg (by omega), if_neg (by omega)]; rfl
      clear hdef h hz hp hp2 hg hdm
      go_enter Try.func88, Try.ntmps88
      go_wp2_with (first
        | (go_at_call 98; refine (wmul_any _ _ a0 a1 b0 b1 _).mono ?_; rintro e w' ⟨rfl, rfl⟩)
        | (go_at_call 99; refine (wdiv_any _ _ _ hq0 hq1 hr0 hr1 c0 c1 _).mono ?_; rintro e w' ⟨rfl, rfl⟩))
      go_ret
      exact ⟨ret_int Hf.out.symm, rfl⟩
end Go.Proofs.Ytnljjdfajmjdjaa
