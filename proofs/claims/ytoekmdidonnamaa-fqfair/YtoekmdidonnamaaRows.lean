/-
  No cell of these rows narrows 'for every input' (looked for: loops, veiled, ifaces, maps, wideKeys, modest, calm, conditions, laid).
  DERIVED. THE GIVEN ROWS OF THIS SEAT. 4 by the template 'for every input the law returns true; each argument reads behind the call as it read before'; 0 by the template 'total and deterministic' (their statements: YtoekmdidonnamaaTotals.lean).
  GIVEN WITH THE SEED: the statements are not yours to turn. If you find one false, say at which input.
  Laid BY PROGRAM, IN A SANDBOX (cutbox-rows.mjs): the forced cells as the released guide's own fill.sh prints them over the translation ee3391d9dd96c13b… (all of the seat's roots in one cut). By AI agents, Wed Nov 11 2026. No macro, syntax, notation, axiom, sorry.
-/
import Derived.Test.YtoekmdidonnamaaChecked
import GoSem.Claim
import GoSem.ClaimJoined
import GoSem.ClaimMapViews
import Derived.JoinedTies
import Derived.KernelRfl
namespace Go.Proofs.Ytoekmdidonnamaa
/- THE CELL 'sum', in the pinned program and in every row, IS THE sha256 OF THE DUMP (.gsa) THAT YtoekmdidonnamaaProg.lean LOADS. Nothing in Lean hashes anything: it is a label: what it is worth is what the hold of that sum in a sandbox is worth. -/
noncomputable def Try.pinned : Pinned := { name := "ytoekmdidonnamaa", sum := "ee3391d9dd96c13b49e92d9fd75208367d9a6f242fa1aa51899d25f6f49d0343", checked := Try.checked }
namespace Rows
def none {H : Type} : Left H := { results := [], args := [] }

/-- 'canterlaw20.FqPaces': WHATEVER THE INPUT: true; the input reads as it did. -/
def fqPacesSpec : ChangeSpec := { name := "fqPaces", fn := fun _ => fun
  | [d1, d2] => { results := [.lit (.bool true)], args := [d1, d2] }
  | _ => none }
def fqPacesRow : OpenClaim := { program := "ytoekmdidonnamaa", sum := "ee3391d9dd96c13b49e92d9fd75208367d9a6f242fa1aa51899d25f6f49d0343", func := "canter/canterlaw20.FqPaces", spec := "fqPaces", inPlace := ["math/bits.Add64"], unfollowed := true, recurses := true, apart := false }
def FqPacesSaid : Prop := fqPacesRow.holds Try.pinned (OpenSpec.ofChange fqPacesSpec)

/-- ITS FALSE NEIGHBOUR: 'it returns false'. Refute it at one input. -/
def fqPacesWrong : ChangeSpec := { name := "fqPaces", fn := fun _ => fun
  | [d1, d2] => { results := [.lit (.bool false)], args := [d1, d2] }
  | _ => none }
def FqPacesWrongFalsely : Prop := fqPacesRow.holds Try.pinned (OpenSpec.ofChange fqPacesWrong)

/-- 'canterlaw20.FqWorks': WHATEVER THE INPUT: true; the input reads as it did. -/
def fqWorksSpec : ChangeSpec := { name := "fqWorks", fn := fun _ => fun
  | [d1, d2] => { results := [.lit (.bool true)], args := [d1, d2] }
  | _ => none }
def fqWorksRow : OpenClaim := { program := "ytoekmdidonnamaa", sum := "ee3391d9dd96c13b49e92d9fd75208367d9a6f242fa1aa51899d25f6f49d0343", func := "canter/canterlaw20.FqWorks", spec := "fqWorks", inPlace := ["math/bits.Add64"], unfollowed := true, recurses := true, apart := false }
def FqWorksSaid : Prop := fqWorksRow.holds Try.pinned (OpenSpec.ofChange fqWorksSpec)

/-- ITS FALSE NEIGHBOUR: 'it returns false'. Refute it at one input. -/
def fqWorksWrong : ChangeSpec := { name := "fqWorks", fn := fun _ => fun
  | [d1, d2] => { results := [.lit (.bool false)], args := [d1, d2] }
  | _ => none }
def FqWorksWrongFalsely : Prop := fqWorksRow.holds Try.pinned (OpenSpec.ofChange fqWorksWrong)

/-- 'canterlaw20.FqFair': WHATEVER THE INPUT: true; the input reads as it did. -/
def fqFairSpec : ChangeSpec := { name := "fqFair", fn := fun _ => fun
  | [d1, d2, d3, d4, d5, d6] => { results := [.lit (.bool true)], args := [d1, d2, d3, d4, d5, d6] }
  | _ => none }
def fqFairRow : OpenClaim := { program := "ytoekmdidonnamaa", sum := "ee3391d9dd96c13b49e92d9fd75208367d9a6f242fa1aa51899d25f6f49d0343", func := "canter/canterlaw20.FqFair", spec := "fqFair", inPlace := ["math/bits.Add64"], unfollowed := true, recurses := true, apart := false }
def FqFairSaid : Prop := fqFairRow.holds Try.pinned (OpenSpec.ofChange fqFairSpec)

/-- ITS FALSE NEIGHBOUR: 'it returns false'. Refute it at one input. -/
def fqFairWrong : ChangeSpec := { name := "fqFair", fn := fun _ => fun
  | [d1, d2, d3, d4, d5, d6] => { results := [.lit (.bool false)], args := [d1, d2, d3, d4, d5, d6] }
  | _ => none }
def FqFairWrongFalsely : Prop := fqFairRow.holds Try.pinned (OpenSpec.ofChange fqFairWrong)

/-- 'canterlaw20.FqOrder': WHATEVER THE INPUT: true; the input reads as it did. -/
def fqOrderSpec : ChangeSpec := { name := "fqOrder", fn := fun _ => fun
  | [d1, d2] => { results := [.lit (.bool true)], args := [d1, d2] }
  | _ => none }
def fqOrderRow : OpenClaim := { program := "ytoekmdidonnamaa", sum := "ee3391d9dd96c13b49e92d9fd75208367d9a6f242fa1aa51899d25f6f49d0343", func := "canter/canterlaw20.FqOrder", spec := "fqOrder", inPlace := ["math/bits.Add64"], unfollowed := true, recurses := true, apart := false }
def FqOrderSaid : Prop := fqOrderRow.holds Try.pinned (OpenSpec.ofChange fqOrderSpec)

/-- ITS FALSE NEIGHBOUR: 'it returns false'. Refute it at one input. -/
def fqOrderWrong : ChangeSpec := { name := "fqOrder", fn := fun _ => fun
  | [d1, d2] => { results := [.lit (.bool false)], args := [d1, d2] }
  | _ => none }
def FqOrderWrongFalsely : Prop := fqOrderRow.holds Try.pinned (OpenSpec.ofChange fqOrderWrong)

/- THE SECOND FORM. 'bulk': how many values and letters a reading holds, each counted each time it is reached (what is shared counts as often as it is met; a slice's spare places count too). A statement '..UptoSaid' is the law's where the arguments, and the package variables that the reading takes, are together of bulk at most 1048576: NARROWER than '..Said'. Prove '..Said' where nothing that the law and all that it calls make is longer than what came in: it says more and counts as full. Else prove '..UptoSaid'. A law counts once. -/
mutual
def uptoBulk {H : Type} : DataW H → Nat
  | .lit (.string bytes) => bytes.length + 1
  | .lit _ => 1
  | .nil => 1
  | .ptr d => uptoBulk d + 1
  | .slice elems spare => uptoBulkAll elems + uptoBulkAll spare + 1
  | .agg parts => uptoBulkAll parts + 1
  | .iface _ d => uptoBulk d + 1
  | .map entries => uptoBulkEntries entries + 1
  | .held _ => 1
def uptoBulkAll {H : Type} : List (DataW H) → Nat
  | [] => 0
  | d :: r => uptoBulk d + uptoBulkAll r
def uptoBulkEntries {H : Type} : List (Lit × DataW H) → Nat
  | [] => 0
  | x :: r => uptoBulkEntry x + uptoBulkEntries r
def uptoBulkEntry {H : Type} : Lit × DataW H → Nat
  | (.string bytes, d) => bytes.length + uptoBulk d + 1
  | (_, d) => uptoBulk d + 1
 end
def uptoSmall : (H : Type) → List (DataW H) → Bool := fun _ ds => decide (uptoBulkAll ds ≤ 1048576)
def OpenSpec.upto (s : _root_.Go.ChangeSpec) : _root_.Go.OpenSpec := { _root_.Go.OpenSpec.ofChange s with cond := some uptoSmall }

/-- 'canterlaw20.FqPaces', WHERE WHAT IT READS IS OF BULK AT MOST 1048576: true; the input reads as it did. -/
def fqPacesUptoRow : OpenClaim := { program := "ytoekmdidonnamaa", sum := "ee3391d9dd96c13b49e92d9fd75208367d9a6f242fa1aa51899d25f6f49d0343", func := "canter/canterlaw20.FqPaces", spec := "fqPaces", inPlace := ["math/bits.Add64"], unfollowed := true, recurses := true, apart := false, narrowed := true }
def FqPacesUptoSaid : Prop := fqPacesUptoRow.holds Try.pinned (OpenSpec.upto fqPacesSpec)

/-- 'canterlaw20.FqWorks', WHERE WHAT IT READS IS OF BULK AT MOST 1048576: true; the input reads as it did. -/
def fqWorksUptoRow : OpenClaim := { program := "ytoekmdidonnamaa", sum := "ee3391d9dd96c13b49e92d9fd75208367d9a6f242fa1aa51899d25f6f49d0343", func := "canter/canterlaw20.FqWorks", spec := "fqWorks", inPlace := ["math/bits.Add64"], unfollowed := true, recurses := true, apart := false, narrowed := true }
def FqWorksUptoSaid : Prop := fqWorksUptoRow.holds Try.pinned (OpenSpec.upto fqWorksSpec)

/-- 'canterlaw20.FqFair', WHERE WHAT IT READS IS OF BULK AT MOST 1048576: true; the input reads as it did. -/
def fqFairUptoRow : OpenClaim := { program := "ytoekmdidonnamaa", sum := "ee3391d9dd96c13b49e92d9fd75208367d9a6f242fa1aa51899d25f6f49d0343", func := "canter/canterlaw20.FqFair", spec := "fqFair", inPlace := ["math/bits.Add64"], unfollowed := true, recurses := true, apart := false, narrowed := true }
def FqFairUptoSaid : Prop := fqFairUptoRow.holds Try.pinned (OpenSpec.upto fqFairSpec)

/-- 'canterlaw20.FqOrder', WHERE WHAT IT READS IS OF BULK AT MOST 1048576: true; the input reads as it did. -/
def fqOrderUptoRow : OpenClaim := { program := "ytoekmdidonnamaa", sum := "ee3391d9dd96c13b49e92d9fd75208367d9a6f242fa1aa51899d25f6f49d0343", func := "canter/canterlaw20.FqOrder", spec := "fqOrder", inPlace := ["math/bits.Add64"], unfollowed := true, recurses := true, apart := false, narrowed := true }
def FqOrderUptoSaid : Prop := fqOrderUptoRow.holds Try.pinned (OpenSpec.upto fqOrderSpec)

end Rows
end Go.Proofs.Ytoekmdidonnamaa
