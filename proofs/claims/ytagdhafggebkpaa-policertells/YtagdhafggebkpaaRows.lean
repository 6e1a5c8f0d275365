/-
  No cell of these rows narrows 'for every input' (looked for: loops, veiled, ifaces, maps, wideKeys, modest, calm, conditions, laid).
  DERIVED. THE GIVEN ROWS OF THIS SEAT. 3 by the template 'for every input the law returns true; each argument reads behind the call as it read before'; 0 by the template 'total and deterministic' (their statements: YtagdhafggebkpaaTotals.lean).
  GIVEN WITH THE SEED: the statements are not yours to turn. If you find one false, say at which input.
  Laid BY PROGRAM, IN A SANDBOX (cutbox-rows.mjs): the forced cells as the released guide's own fill.sh prints them over the translation 8ac6e4b7f7f00ad9… (all of the seat's roots in one cut). By AI agents, Wed Nov 11 2026. No macro, syntax, notation, axiom, sorry.
-/
import Derived.Test.YtagdhafggebkpaaChecked
import GoSem.Claim
import GoSem.ClaimJoined
import GoSem.ClaimMapViews
import Derived.JoinedTies
import Derived.KernelRfl
namespace Go.Proofs.Ytagdhafggebkpaa
/- THE CELL 'sum', in the pinned program and in every row, IS THE sha256 OF THE DUMP (.gsa) THAT YtagdhafggebkpaaProg.lean LOADS. Nothing in Lean hashes anything: it is a label: what it is worth is what the hold of that sum in a sandbox is worth. -/
noncomputable def Try.pinned : Pinned := { name := "ytagdhafggebkpaa", sum := "8ac6e4b7f7f00ad9763c9b3c4224fe096e5e08ab93fe5e09ddd86fcf1699c39f", checked := Try.checked }
namespace Rows
def none {H : Type} : Left H := { results := [], args := [] }

/-- 'canterlaw16.PolicerTells': WHATEVER THE INPUT: true; the input reads as it did. -/
def policerTellsSpec : ChangeSpec := { name := "policerTells", fn := fun _ => fun
  | [d] => { results := [.lit (.bool true)], args := [d] }
  | _ => none }
def policerTellsRow : OpenClaim := { program := "ytagdhafggebkpaa", sum := "8ac6e4b7f7f00ad9763c9b3c4224fe096e5e08ab93fe5e09ddd86fcf1699c39f", func := "canter/canterlaw16.PolicerTells", spec := "policerTells", inPlace := ["math/bits.Add64"], apart := false }
def PolicerTellsSaid : Prop := policerTellsRow.holds Try.pinned (OpenSpec.ofChange policerTellsSpec)

/-- ITS FALSE NEIGHBOUR: 'it returns false'. Refute it at one input. -/
def policerTellsWrong : ChangeSpec := { name := "policerTells", fn := fun _ => fun
  | [d] => { results := [.lit (.bool false)], args := [d] }
  | _ => none }
def PolicerTellsWrongFalsely : Prop := policerTellsRow.holds Try.pinned (OpenSpec.ofChange policerTellsWrong)

/-- 'canterlaw16.PolicerSteady': WHATEVER THE INPUT: true; the input reads as it did. -/
def policerSteadySpec : ChangeSpec := { name := "policerSteady", fn := fun _ => fun
  | [d1, d2, d3] => { results := [.lit (.bool true)], args := [d1, d2, d3] }
  | _ => none }
def policerSteadyRow : OpenClaim := { program := "ytagdhafggebkpaa", sum := "8ac6e4b7f7f00ad9763c9b3c4224fe096e5e08ab93fe5e09ddd86fcf1699c39f", func := "canter/canterlaw16.PolicerSteady", spec := "policerSteady", inPlace := ["math/bits.Add64"], apart := false }
def PolicerSteadySaid : Prop := policerSteadyRow.holds Try.pinned (OpenSpec.ofChange policerSteadySpec)

/-- ITS FALSE NEIGHBOUR: 'it returns false'. Refute it at one input. -/
def policerSteadyWrong : ChangeSpec := { name := "policerSteady", fn := fun _ => fun
  | [d1, d2, d3] => { results := [.lit (.bool false)], args := [d1, d2, d3] }
  | _ => none }
def PolicerSteadyWrongFalsely : Prop := policerSteadyRow.holds Try.pinned (OpenSpec.ofChange policerSteadyWrong)

/-- 'canterlaw16.PolicerNone': WHATEVER THE INPUT: true; the input reads as it did. -/
def policerNoneSpec : ChangeSpec := { name := "policerNone", fn := fun _ => fun
  | [d] => { results := [.lit (.bool true)], args := [d] }
  | _ => none }
def policerNoneRow : OpenClaim := { program := "ytagdhafggebkpaa", sum := "8ac6e4b7f7f00ad9763c9b3c4224fe096e5e08ab93fe5e09ddd86fcf1699c39f", func := "canter/canterlaw16.PolicerNone", spec := "policerNone", inPlace := ["math/bits.Add64"], apart := false }
def PolicerNoneSaid : Prop := policerNoneRow.holds Try.pinned (OpenSpec.ofChange policerNoneSpec)

/-- ITS FALSE NEIGHBOUR: 'it returns false'. Refute it at one input. -/
def policerNoneWrong : ChangeSpec := { name := "policerNone", fn := fun _ => fun
  | [d] => { results := [.lit (.bool false)], args := [d] }
  | _ => none }
def PolicerNoneWrongFalsely : Prop := policerNoneRow.holds Try.pinned (OpenSpec.ofChange policerNoneWrong)

/- THE SECOND FORM. 'bulk': how many values and letters a reading holds, each counted each time it is reached (what is shared counts as often as it is met; a slice's spare places count too). A statement '..UptoSaid' is the law's where the arguments, and the package variables that the reading takes, are together of bulk at most 1048576: NARROWER than '..Said'. Prove '..Said' where nothing that the law and all that it calls make is longer than what came in: it says more and counts as full. Else prove '..UptoSaid'. A law counts once. -/
mutual
def uptoBulk {H : Type} : DataW H → Nat
  | .lit (.string bytes) => bytes.length + 1
  | .lit _ => 1
  | .nil => 1
  | .ptr d => uptoBulk d + 1
  | .slice elems spare => uptoBulkAll elems + uptoBulkAll spare + 1
  | .agg parts => uptoBulkAll parts + 1
  | .iface _ d => uptoBulk d + 1
  | .map entries => uptoBulkEntries entries + 1
  | .held _ => 1
def uptoBulkAll {H : Type} : List (DataW H) → Nat
  | [] => 0
  | d :: r => uptoBulk d + uptoBulkAll r
def uptoBulkEntries {H : Type} : List (Lit × DataW H) → Nat
  | [] => 0
  | x :: r => uptoBulkEntry x + uptoBulkEntries r
def uptoBulkEntry {H : Type} : Lit × DataW H → Nat
  | (.string bytes, d) => bytes.length + uptoBulk d + 1
  | (_, d) => uptoBulk d + 1
 end
def uptoSmall : (H : Type) → List (DataW H) → Bool := fun _ ds => decide (uptoBulkAll ds ≤ 1048576)
def OpenSpec.upto (s : _root_.Go.ChangeSpec) : _root_.Go.OpenSpec := { _root_.Go.OpenSpec.ofChange s with cond := some uptoSmall }

/-- 'canterlaw16.PolicerTells', WHERE WHAT IT READS IS OF BULK AT MOST 1048576: true; the input reads as it did. -/
def policerTellsUptoRow : OpenClaim := { program := "ytagdhafggebkpaa", sum := "8ac6e4b7f7f00ad9763c9b3c4224fe096e5e08ab93fe5e09ddd86fcf1699c39f", func := "canter/canterlaw16.PolicerTells", spec := "policerTells", inPlace := ["math/bits.Add64"], apart := false, narrowed := true }
def PolicerTellsUptoSaid : Prop := policerTellsUptoRow.holds Try.pinned (OpenSpec.upto policerTellsSpec)

/-- 'canterlaw16.PolicerSteady', WHERE WHAT IT READS IS OF BULK AT MOST 1048576: true; the input reads as it did. -/
def policerSteadyUptoRow : OpenClaim := { program := "ytagdhafggebkpaa", sum := "8ac6e4b7f7f00ad9763c9b3c4224fe096e5e08ab93fe5e09ddd86fcf1699c39f", func := "canter/canterlaw16.PolicerSteady", spec := "policerSteady", inPlace := ["math/bits.Add64"], apart := false, narrowed := true }
def PolicerSteadyUptoSaid : Prop := policerSteadyUptoRow.holds Try.pinned (OpenSpec.upto policerSteadySpec)

/-- 'canterlaw16.PolicerNone', WHERE WHAT IT READS IS OF BULK AT MOST 1048576: true; the input reads as it did. -/
def policerNoneUptoRow : OpenClaim := { program := "ytagdhafggebkpaa", sum := "8ac6e4b7f7f00ad9763c9b3c4224fe096e5e08ab93fe5e09ddd86fcf1699c39f", func := "canter/canterlaw16.PolicerNone", spec := "policerNone", inPlace := ["math/bits.Add64"], apart := false, narrowed := true }
def PolicerNoneUptoSaid : Prop := policerNoneUptoRow.holds Try.pinned (OpenSpec.upto policerNoneSpec)

end Rows
end Go.Proofs.Ytagdhafggebkpaa
