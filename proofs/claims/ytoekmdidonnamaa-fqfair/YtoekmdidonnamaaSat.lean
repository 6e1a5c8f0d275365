/-
  The calls of package sat (Add, Sub, Mul, Int) answer what the document says, at every pair of numbers of 64 bits. Conditions: none beyond that the arguments are numbers of their kind.
-/
import Derived.Test.YtoekmdidonnamaaChecked
import Derived.WalkKit
import Derived.WalkSpells
import Derived.WalkLawsBesides
import Derived.Lib.Mul64
import Derived.Laws.Bits64b
import Derived.Laws.Externs
import Derived.Lib.Hide
namespace Go.Proofs.Ytoekmdidonnamaa
open Go.RowKit
set_option maxRecDepth 100000

/-! ### The plain mathematics -/
def satAdd (a b : Int) : Int := if a + b ≤ 18446744073709551615 then a + b else 18446744073709551615
def satSub (a b : Int) : Int := if a < b then 0 else a - b
def satMul (a b : Int) : Int := if a * b ≤ 18446744073709551615 then a * b else 18446744073709551615
def satInt (v : Int) : Int := if 9223372036854775807 < v then 9223372036854775807 else v

theorem satAdd_le {a b : Int} (h : a + b ≤ 18446744073709551615) : satAdd a b = a + b := if_pos h
theorem satAdd_gt {a b : Int} (h : 18446744073709551615 < a + b) : satAdd a b = 18446744073709551615 := if_neg (by omega)
theorem satSub_lt {a b : Int} (h : a < b) : satSub a b = 0 := if_pos h
theorem satSub_ge {a b : Int} (h : b ≤ a) : satSub a b = a - b := if_neg (by omega)
theorem satMul_le {a b : Int} (h : a * b ≤ 18446744073709551615) : satMul a b = a * b := if_pos h
theorem satMul_gt {a b : Int} (h : 18446744073709551615 < a * b) : satMul a b = 18446744073709551615 := if_neg (by omega)
theorem satInt_gt {a : Int} (h : 9223372036854775807 < a) : satInt a = 9223372036854775807 := if_pos h
theorem satInt_le {a : Int} (h : a ≤ 9223372036854775807) : satInt a = a := if_neg (by omega)
theorem ret_int {k : IntKind} {a b : Int} (h : a = b) : Ending.returned (.int k a) = .returned (.int k b) := by rw [h]

/-! ### math/bits.Add64, as the walk spells it -/
theorem add64_0 (x y : Int) (hx : 0 ≤ x) (hy : 0 ≤ y) (w : World) : (callFunc 48 #[.int .u64 x, .int .u64 y, .int .u64 0]).run Try.prog w =
    .ok (.value (.tuple #[.int .u64 ((x + y) % 18446744073709551616), .int .u64 ((x + y) / 18446744073709551616)])) w := by
  rw [run_callFunc_extern Try.func48 (by kernel_rfl) (by kernel_rfl) (by kernel_rfl) (e := add64Entry) (by kernel_rfl), run_add64 x y 0 hx hy (by omega) (by omega)]
  simp only [Result.andThen, Int.add_zero]

set_option maxHeartbeats 400000 in
theorem add_any (a b : Int) (ha0 : 0 ≤ a) (ha : a ≤ 18446744073709551615) (hb0 : 0 ≤ b) (hb : b ≤ 18446744073709551615) (w : World) :
    Calls Try.prog 27 #[.int .u64 a, .int .u64 b] w fun e w' => e = .returned (.int .u64 (satAdd a b)) ∧ w = w' := by
  by_cases h : a + b ≤ 18446744073709551615
  · have Hf : Hid ((a + b) % 18446744073709551616 = satAdd a b) := Lib.hid (by rw [satAdd_le h]; omega)
    have hq : ((a + b) / 18446744073709551616 != 0) = false := by
      have : (a + b) / 18446744073709551616 = 0 := by omega
      rw [this]; rfl
    go_enter Try.func27, Try.ntmps27
    go_wp2_with (simp only [add64_0 a b ha0 hb0])
    go_ret
    exact ⟨ret_int Hf.out, rfl⟩
  · have h : 18446744073709551615 < a + b := by omega
    have Hf := Lib.hid (satAdd_gt h)
    have hq : ((a + b) / 18446744073709551616 != 0) = true := by
      have : (a + b) / 18446744073709551616 = 1 := by omega
      rw [this]; rfl
    go_enter Try.func27, Try.ntmps27
    go_wp2_with (simp only [add64_0 a b ha0 hb0])
    go_ret
    exact ⟨ret_int Hf.out.symm, rfl⟩



/-! ### math/bits.Mul64: the library's own Go text, by halves -/
theorem ret_two {k l : IntKind} {a b c d : Int} (h : a = b) (g : c = d) : Ending.returned (.tuple #[.int k a, .int l c]) = .returned (.tuple #[.int k b, .int l d]) := by rw [h, g]
theorem low32 (a : Nat) (ha : a < 18446744073709551616) : bits .and .u64 (a : Int) 4294967295 = ((a % 4294967296 : Nat) : Int) := by
  have h := bits_and_u64_nat a 4294967295 ha (by omega)
  rw [show a &&& 4294967295 = a % 4294967296 from Nat.and_two_pow_sub_one_eq_mod a 32] at h
  exact h
theorem wrap_in {a : Nat} (ha : a < 18446744073709551616) : IntKind.u64.wrap (a : Int) = (a : Int) := by rw [IntKind.wrap_u64]; omega

/-- What the Go text reckons as the upper half is the upper half. -/
theorem upper (x y : Nat) (hx : x < 18446744073709551616) (hy : y < 18446744073709551616) :
    IntKind.u64.wrap (IntKind.u64.wrap (IntKind.u64.wrap ((x : Int) / 4294967296 * ((y : Int) / 4294967296)) + IntKind.u64.wrap (IntKind.u64.wrap ((x : Int) / 4294967296 * bits .and .u64 (y : Int) 4294967295) + IntKind.u64.wrap (bits .and .u64 (x : Int) 4294967295 * bits .and .u64 (y : Int) 4294967295) / 4294967296) / 4294967296) +
      IntKind.u64.wrap (bits .and .u64 (IntKind.u64.wrap (IntKind.u64.wrap ((x : Int) / 4294967296 * bits .and .u64 (y : Int) 4294967295) + IntKind.u64.wrap (bits .and .u64 (x : Int) 4294967295 * bits .and .u64 (y : Int) 4294967295) / 4294967296)) 4294967295 + IntKind.u64.wrap (bits .and .u64 (x : Int) 4294967295 * ((y : Int) / 4294967296))) / 4294967296)
      = ((x * y / 18446744073709551616 : Nat) : Int) := by
  obtain ⟨g1, g2, g3, g4⟩ := Lib.mul64_hi x y hx hy
  have e1 := Lib.half_mul_le (a := x / 4294967296) (b := y / 4294967296) (by omega) (by omega)
  have e2 := Lib.half_mul_le (a := x / 4294967296) (b := y % 4294967296) (by omega) (by omega)
  have e3 := Lib.half_mul_le (a := x % 4294967296) (b := y / 4294967296) (by omega) (by omega)
  have cx : (x : Int) / 4294967296 = ((x / 4294967296 : Nat) : Int) := by omega
  have cy : (y : Int) / 4294967296 = ((y / 4294967296 : Nat) : Int) := by omega
  rw [low32 x hx, low32 y hy, cx, cy, ← g4]
  generalize x / 4294967296 = x1 at *
  generalize y / 4294967296 = y1 at *
  generalize x % 4294967296 = x0 at *
  generalize y % 4294967296 = y0 at *
  simp only [← Int.natCast_mul]
  generalize x1 * y1 = p at *
  generalize x1 * y0 = q at *
  generalize x0 * y1 = r at *
  generalize x0 * y0 = s at *
  rw [wrap_in (a := p) (by omega), wrap_in (a := q) (by omega), wrap_in (a := r) (by omega), wrap_in (a := s) (by omega)]
  rw [show (q : Int) + (s : Int) / 4294967296 = ((q + s / 4294967296 : Nat) : Int) from by omega]
  generalize q + s / 4294967296 = t at *
  rw [wrap_in (a := t) (by omega), low32 t (by omega)]
  simp only [IntKind.wrap_u64]
  omega

set_option maxHeartbeats 1000000 in
theorem mul64_nat (x y : Nat) (hx : x < 18446744073709551616) (hy : y < 18446744073709551616) (w : World) :
    Calls Try.prog 94 #[.int .u64 x, .int .u64 y] w fun e w' => e = .returned (.tuple #[.int .u64 ((x * y / 18446744073709551616 : Nat) : Int), .int .u64 ((x * y % 18446744073709551616 : Nat) : Int)]) ∧ w = w' := by
  have Hu := Lib.hid (upper x y hx hy)
  have Hl : Hid (IntKind.u64.wrap ((x : Int) * (y : Int)) = ((x * y % 18446744073709551616 : Nat) : Int)) := Lib.hid (by rw [IntKind.wrap_u64, ← Int.natCast_mul]; omega)
  go_enter Try.func94, Try.ntmps94
  go_wp2
  go_ret2
  exact ⟨ret_two Hu.out Hl.out, rfl⟩

theorem mul64_any (x y : Int) (hx0 : 0 ≤ x) (hx : x ≤ 18446744073709551615) (hy0 : 0 ≤ y) (hy : y ≤ 18446744073709551615) (w : World) :
    Calls Try.prog 94 #[.int .u64 x, .int .u64 y] w fun e w' => e = .returned (.tuple #[.int .u64 (x * y / 18446744073709551616), .int .u64 (x * y % 18446744073709551616)]) ∧ w = w' := by
  obtain ⟨x, rfl⟩ := Int.eq_ofNat_of_zero_le hx0
  obtain ⟨y, rfl⟩ := Int.eq_ofNat_of_zero_le hy0
  refine (mul64_nat x y (by omega) (by omega) w).mono ?_
  rintro e w' ⟨rfl, rfl⟩
  exact ⟨ret_two (by rw [← Int.natCast_mul]; omega) (by rw [← Int.natCast_mul]; omega), rfl⟩


end Go.Proofs.Ytoekmdidonnamaa
