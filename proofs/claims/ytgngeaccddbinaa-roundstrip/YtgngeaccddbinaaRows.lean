/-
  No cell of these rows narrows 'for every input' (looked for: loops, veiled, ifaces, maps, wideKeys, modest, calm, conditions, laid).
  DERIVED. THE GIVEN ROWS OF THIS SEAT. 3 by the template 'for every input the law returns true; each argument reads behind the call as it read before'; 0 by the template 'total and deterministic' (their statements: YtgngeaccddbinaaTotals.lean).
  GIVEN WITH THE SEED: the statements are not yours to turn. If you find one false, say at which input.
  Laid BY PROGRAM, IN A SANDBOX (cutbox-rows.mjs): the forced cells as the released guide's own fill.sh prints them over the translation 35fafff6acdc8a5f… (all of the seat's roots in one cut). By AI agents, Wed Nov 11 2026. No macro, syntax, notation, axiom, sorry.
-/
import Derived.Test.YtgngeaccddbinaaChecked
import GoSem.Claim
import GoSem.ClaimJoined
import GoSem.ClaimMapViews
import Derived.JoinedTies
import Derived.KernelRfl
namespace Go.Proofs.Ytgngeaccddbinaa
/- THE CELL 'sum', in the pinned program and in every row, IS THE sha256 OF THE DUMP (.gsa) THAT YtgngeaccddbinaaProg.lean LOADS. Nothing in Lean hashes anything: it is a label: what it is worth is what the hold of that sum in a sandbox is worth. -/
noncomputable def Try.pinned : Pinned := { name := "ytgngeaccddbinaa", sum := "35fafff6acdc8a5f1117deebdf125a41219ac72a9426544144c1203c2074a011", checked := Try.checked }
namespace Rows
def none {H : Type} : Left H := { results := [], args := [] }

/-- 'canterlaw11.RoundsTell': WHATEVER THE INPUT: true; the input reads as it did. -/
def roundsTellSpec : ChangeSpec := { name := "roundsTell", fn := fun _ => fun
  | [d] => { results := [.lit (.bool true)], args := [d] }
  | _ => none }
def roundsTellRow : OpenClaim := { program := "ytgngeaccddbinaa", sum := "35fafff6acdc8a5f1117deebdf125a41219ac72a9426544144c1203c2074a011", func := "canter/canterlaw11.RoundsTell", spec := "roundsTell", apart := false }
def RoundsTellSaid : Prop := roundsTellRow.holds Try.pinned (OpenSpec.ofChange roundsTellSpec)

/-- ITS FALSE NEIGHBOUR: 'it returns false'. Refute it at one input. -/
def roundsTellWrong : ChangeSpec := { name := "roundsTell", fn := fun _ => fun
  | [d] => { results := [.lit (.bool false)], args := [d] }
  | _ => none }
def RoundsTellWrongFalsely : Prop := roundsTellRow.holds Try.pinned (OpenSpec.ofChange roundsTellWrong)

/-- 'canterlaw11.RoundsTrip': WHATEVER THE INPUT: true; the input reads as it did. -/
def roundsTripSpec : ChangeSpec := { name := "roundsTrip", fn := fun _ => fun
  | [d1, d2, d3] => { results := [.lit (.bool true)], args := [d1, d2, d3] }
  | _ => none }
def roundsTripRow : OpenClaim := { program := "ytgngeaccddbinaa", sum := "35fafff6acdc8a5f1117deebdf125a41219ac72a9426544144c1203c2074a011", func := "canter/canterlaw11.RoundsTrip", spec := "roundsTrip", apart := false }
def RoundsTripSaid : Prop := roundsTripRow.holds Try.pinned (OpenSpec.ofChange roundsTripSpec)

/-- ITS FALSE NEIGHBOUR: 'it returns false'. Refute it at one input. -/
def roundsTripWrong : ChangeSpec := { name := "roundsTrip", fn := fun _ => fun
  | [d1, d2, d3] => { results := [.lit (.bool false)], args := [d1, d2, d3] }
  | _ => none }
def RoundsTripWrongFalsely : Prop := roundsTripRow.holds Try.pinned (OpenSpec.ofChange roundsTripWrong)

/-- 'canterlaw11.RoundsNone': WHATEVER THE INPUT: true; the input reads as it did. -/
def roundsNoneSpec : ChangeSpec := { name := "roundsNone", fn := fun _ => fun
  | [d] => { results := [.lit (.bool true)], args := [d] }
  | _ => none }
def roundsNoneRow : OpenClaim := { program := "ytgngeaccddbinaa", sum := "35fafff6acdc8a5f1117deebdf125a41219ac72a9426544144c1203c2074a011", func := "canter/canterlaw11.RoundsNone", spec := "roundsNone", apart := false }
def RoundsNoneSaid : Prop := roundsNoneRow.holds Try.pinned (OpenSpec.ofChange roundsNoneSpec)

/-- ITS FALSE NEIGHBOUR: 'it returns false'. Refute it at one input. -/
def roundsNoneWrong : ChangeSpec := { name := "roundsNone", fn := fun _ => fun
  | [d] => { results := [.lit (.bool false)], args := [d] }
  | _ => none }
def RoundsNoneWrongFalsely : Prop := roundsNoneRow.holds Try.pinned (OpenSpec.ofChange roundsNoneWrong)

/- THE SECOND FORM. 'bulk': how many values and letters a reading holds, each counted each time it is reached (what is shared counts as often as it is met; a slice's spare places count too). A statement '..UptoSaid' is the law's where the arguments, and the package variables that the reading takes, are together of bulk at most 1048576: NARROWER than '..Said'. Prove '..Said' where nothing that the law and all that it calls make is longer than what came in: it says more and counts as full. Else prove '..UptoSaid'. A law counts once. -/
mutual
def uptoBulk {H : Type} : DataW H → Nat
  | .lit (.string bytes) => bytes.length + 1
  | .lit _ => 1
  | .nil => 1
  | .ptr d => uptoBulk d + 1
  | .slice elems spare => uptoBulkAll elems + uptoBulkAll spare + 1
  | .agg parts => uptoBulkAll parts + 1
  | .iface _ d => uptoBulk d + 1
  | .map entries => uptoBulkEntries entries + 1
  | .held _ => 1
def uptoBulkAll {H : Type} : List (DataW H) → Nat
  | [] => 0
  | d :: r => uptoBulk d + uptoBulkAll r
def uptoBulkEntries {H : Type} : List (Lit × DataW H) → Nat
  | [] => 0
  | x :: r => uptoBulkEntry x + uptoBulkEntries r
def uptoBulkEntry {H : Type} : Lit × DataW H → Nat
  | (.string bytes, d) => bytes.length + uptoBulk d + 1
  | (_, d) => uptoBulk d + 1
 end
def uptoSmall : (H : Type) → List (DataW H) → Bool := fun _ ds => decide (uptoBulkAll ds ≤ 1048576)
def OpenSpec.upto (s : _root_.Go.ChangeSpec) : _root_.Go.OpenSpec := { _root_.Go.OpenSpec.ofChange s with cond := some uptoSmall }

/-- 'canterlaw11.RoundsTell', WHERE WHAT IT READS IS OF BULK AT MOST 1048576: true; the input reads as it did. -/
def roundsTellUptoRow : OpenClaim := { program := "ytgngeaccddbinaa", sum := "35fafff6acdc8a5f1117deebdf125a41219ac72a9426544144c1203c2074a011", func := "canter/canterlaw11.RoundsTell", spec := "roundsTell", apart := false, narrowed := true }
def RoundsTellUptoSaid : Prop := roundsTellUptoRow.holds Try.pinned (OpenSpec.upto roundsTellSpec)

/-- 'canterlaw11.RoundsTrip', WHERE WHAT IT READS IS OF BULK AT MOST 1048576: true; the input reads as it did. -/
def roundsTripUptoRow : OpenClaim := { program := "ytgngeaccddbinaa", sum := "35fafff6acdc8a5f1117deebdf125a41219ac72a9426544144c1203c2074a011", func := "canter/canterlaw11.RoundsTrip", spec := "roundsTrip", apart := false, narrowed := true }
def RoundsTripUptoSaid : Prop := roundsTripUptoRow.holds Try.pinned (OpenSpec.upto roundsTripSpec)

/-- 'canterlaw11.RoundsNone', WHERE WHAT IT READS IS OF BULK AT MOST 1048576: true; the input reads as it did. -/
def roundsNoneUptoRow : OpenClaim := { program := "ytgngeaccddbinaa", sum := "35fafff6acdc8a5f1117deebdf125a41219ac72a9426544144c1203c2074a011", func := "canter/canterlaw11.RoundsNone", spec := "roundsNone", apart := false, narrowed := true }
def RoundsNoneUptoSaid : Prop := roundsNoneUptoRow.holds Try.pinned (OpenSpec.upto roundsNoneSpec)

end Rows
end Go.Proofs.Ytgngeaccddbinaa
