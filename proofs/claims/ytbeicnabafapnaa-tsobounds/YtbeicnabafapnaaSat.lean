/-
  The calls of package sat (Add, Sub, Mul, Int) answer what the document says, at every pair of numbers of 64 bits. Conditions: none beyond that the arguments are numbers of their kind.
-/
import Derived.Test.YtbeicnabafapnaaChecked
import Derived.WalkKit
import Derived.WalkSpells
import Derived.WalkLawsBesides
import Derived.Lib.Mul64
import Derived.Laws.Bits64b
import Derived.Laws.Externs
import Derived.Lib.Hide
namespace Go.Proofs.Ytbeicnabafapnaa
open Go.RowKit

/-! ### The plain mathematics -/
def satAdd (a b : Int) : Int := if a + b ≤ 18446744073709551615 then a + b else 18446744073709551615
def satSub (a b : Int) : Int := if a < b then 0 else a - b
def satMul (a b : Int) : Int := if a * b ≤ 18446744073709551615 then a * b else 18446744073709551615
def satInt (v : Int) : Int := if 9223372036854775807 < v then 9223372036854775807 else v

theorem satAdd_le {a b : Int} (h : a + b ≤ 18446744073709551615) : satAdd a b = a + b := if_pos h
theorem satAdd_gt {a b : Int} (h : 18446744073709551615 < a + b) : satAdd a b = 18446744073709551615 := if_neg (by omega)
theorem satSub_lt {a b : Int} (h : a < b) : satSub a b = 0 := if_pos h
theorem satSub_ge {a b : Int} (h : b ≤ a) : satSub a b = a - b := if_neg (by omega)
theorem satMul_le {a b : Int} (h : a * b ≤ 18446744073709551615) : satMul a b = a * b := if_pos h
theorem satMul_gt {a b : Int} (h : 18446744073709551615 < a * b) : satMul a b = 18446744073709551615 := if_neg (by omega)
theorem satInt_gt {a : Int} (h : 9223372036854775807 < a) : satInt a = 9223372036854775807 := if_pos h
theorem satInt_le {a : Int} (h : a ≤ 9223372036854775807) : satInt a = a := if_neg (by omega)
theorem ret_int {k : IntKind} {a b : Int} (h : a = b) : Ending.returned (.int k a) = .returned (.int k b) := by rw [h]





/-! ### math/bits.Mul64: the library's own Go text, by halves -/
theorem ret_two {k l : IntKind} {a b c d : Int} (h : a = b) (g : c = d) : Ending.returned (.tuple #[.int k a, .int l c]) = .returned (.tuple #[.int k b, .int l d]) := by rw [h, g]
theorem low32 (a : Nat) (ha : a < 18446744073709551616) : bits .and .u64 (a : Int) 4294967295 = ((a % 4294967296 : Nat) : Int) := by
  have h := bits_and_u64_nat a 4294967295 ha (by omega)
  rw [show a &&& 4294967295 = a % 4294967296 from Nat.and_two_pow_sub_one_eq_mod a 32] at h
  exact h
theorem wrap_in {a : Nat} (ha : a < 18446744073709551616) : IntKind.u64.wrap (a : Int) = (a : Int) := by rw [IntKind.wrap_u64]; omega

/-- What the Go text reckons as the upper half is the upper half. -/
theorem upper (x y : Nat) (hx : x < 18446744073709551616) (hy : y < 18446744073709551616) :
    IntKind.u64.wrap (IntKind.u64.wrap (IntKind.u64.wrap ((x : Int) / 4294967296 * ((y : Int) / 4294967296)) + IntKind.u64.wrap (IntKind.u64.wrap ((x : Int) / 4294967296 * bits .and .u64 (y : Int) 4294967295) + IntKind.u64.wrap (bits .and .u64 (x : Int) 4294967295 * bits .and .u64 (y : Int) 4294967295) / 4294967296) / 4294967296) +
      IntKind.u64.wrap (bits .and .u64 (IntKind.u64.wrap (IntKind.u64.wrap ((x : Int) / 4294967296 * bits .and .u64 (y : Int) 4294967295) + IntKind.u64.wrap (bits .and .u64 (x : Int) 4294967295 * bits .and .u64 (y : Int) 4294967295) / 4294967296)) 4294967295 + IntKind.u64.wrap (bits .and .u64 (x : Int) 4294967295 * ((y : Int) / 4294967296))) / 4294967296)
      = ((x * y / 18446744073709551616 : Nat) : Int) := by
  obtain ⟨g1, g2, g3, g4⟩ := Lib.mul64_hi x y hx hy
  have e1 := Lib.half_mul_le (a := x / 4294967296) (b := y / 4294967296) (by omega) (by omega)
  have e2 := Lib.half_mul_le (a := x / 4294967296) (b := y % 4294967296) (by omega) (by omega)
  have e3 := Lib.half_mul_le (a := x % 4294967296) (b := y / 4294967296) (by omega) (by omega)
  have cx : (x : Int) / 4294967296 = ((x / 4294967296 : Nat) : Int) := by omega
  have cy : (y : Int) / 4294967296 = ((y / 4294967296 : Nat) : Int) := by omega
  rw [low32 x hx, low32 y hy, cx, cy, ← g4]
  generalize x / 4294967296 = x1 at *
  generalize y / 4294967296 = y1 at *
  generalize x % 4294967296 = x0 at *
  generalize y % 4294967296 = y0 at *
  simp only [← Int.natCast_mul]
  generalize x1 * y1 = p at *
  generalize x1 * y0 = q at *
  generalize x0 * y1 = r at *
  generalize x0 * y0 = s at *
  rw [wrap_in (a := p) (by omega), wrap_in (a := q) (by omega), wrap_in (a := r) (by omega), wrap_in (a := s) (by omega)]
  rw [show (q : Int) + (s : Int) / 4294967296 = ((q + s / 4294967296 : Nat) : Int) from by omega]
  generalize q + s / 4294967296 = t at *
  rw [wrap_in (a := t) (by omega), low32 t (by omega)]
  simp only [IntKind.wrap_u64]
  omega



end Go.Proofs.Ytbeicnabafapnaa
