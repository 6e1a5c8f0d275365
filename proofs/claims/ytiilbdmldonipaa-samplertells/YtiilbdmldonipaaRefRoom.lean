/-
  The program's sampler and the document's own beside it, among other things in memory: their calls leave the others. Conditions: the numbers are of their kind.
-/
import Derived.Test.YtiilbdmldonipaaSamRow
import Derived.Test.YtiilbdmldonipaaRefTake
namespace Go.Proofs.Ytiilbdmldonipaa
open Go.RowKit

def rsamT (g : Nat) (x : Smp) : Thing := ⟨fun w => RSamAt w g x, fun k => k = g, fun h hk hs => h.keep hk (hs g rfl), fun h e => e ▸ h.lt⟩
section
variable {wB w : World} {L : List Thing} {t : Thing} {g : Nat} {x y : Smp} {now fl size lost : Int}
theorem Room.rsent {v : Snt} (h : Room wB w (t :: rsamT g x :: L)) (e : sentV x now fl = v ∧ sentS x now fl = y) (hn : Num now) :
    Calls Try.prog 16 #[.pointer (some ⟨g, 0, none⟩), .int .u64 now, .int .u64 fl] w fun e w' => e = .returned v.v ∧ Room wB w' (t :: rsamT g y :: L) :=
  (rsent_any g now fl x w h.get1 hn).mono fun _ _ ⟨he, h1, k1⟩ => ⟨e.1 ▸ he, h.step1 (t' := rsamT g y) (e.2 ▸ h1) k1 own_same⟩
theorem Room.rsack {z : Snt} (h : Room wB w (t :: rsamT g x :: L)) (e : ackS x now size z = y) (hn : Num now) (hs : Num size) (hz : z.Fit) :
    Calls Try.prog 10 #[.pointer (some ⟨g, 0, none⟩), .int .u64 now, .int .u64 size, z.v] w fun e w' => (∃ v, e = .returned v) ∧ Room wB w' (t :: rsamT g y :: L) :=
  (rsack_any g now size x z w h.get1 hn hs hz).mono fun _ _ ⟨he, h1, k1⟩ => ⟨he, h.step1 (t' := rsamT g y) (e ▸ h1) k1 own_same⟩
theorem Room.rstake {v : Spl} (h : Room wB w (t :: rsamT g x :: L)) (e : takeV x now lost fl = v ∧ takeR x = y) (hn : Num now) :
    Calls Try.prog 12 #[.pointer (some ⟨g, 0, none⟩), .int .u64 now, .int .u64 lost, .int .u64 fl] w fun e w' => e = .returned v.v ∧ Room wB w' (t :: rsamT g y :: L) :=
  (rstake_any g now lost fl x w h.get1 hn).mono fun _ _ ⟨he, h1, k1⟩ => ⟨e.1 ▸ he, h.step1 (t' := rsamT g y) (e.2 ▸ h1) k1 own_same⟩
theorem Room.rslim (h : Room wB w (t :: rsamT g x :: L)) (e : limS x fl = y) (hf : Num fl) :
    Calls Try.prog 14 #[.pointer (some ⟨g, 0, none⟩), .int .u64 fl] w fun e w' => (∃ v, e = .returned v) ∧ Room wB w' (t :: rsamT g y :: L) :=
  (rslim_any g fl x w h.get1 hf).mono fun _ _ ⟨he, h1, k1⟩ => ⟨he, h.step1 (t' := rsamT g y) (e ▸ h1) k1 own_same⟩
end
theorem Try.eqSnt (a b c d : Int) (l : Bool) (w : World) : (binOp .eql 32 (.agg #[.int .u64 a, .int .u64 b, .int .u64 c, .int .u64 d, .bool l]) (.agg #[.int .u64 a, .int .u64 b, .int .u64 c, .int .u64 d, .bool l])).run Try.prog w = .ok (.bool true) w := by
  go_simp
theorem Try.eqSpl (a b c d e f g h : Int) (l : Bool) (w : World) : (binOp .eql 38 (.agg #[.int .u64 a, .int .u64 b, .int .u64 c, .int .u64 d, .int .u64 e, .int .u64 f, .int .u64 g, .int .u64 h, .bool l]) (.agg #[.int .u64 a, .int .u64 b, .int .u64 c, .int .u64 d, .int .u64 e, .int .u64 f, .int .u64 g, .int .u64 h, .bool l])).run Try.prog w = .ok (.bool true) w := by
  go_simp
end Go.Proofs.Ytiilbdmldonipaa
