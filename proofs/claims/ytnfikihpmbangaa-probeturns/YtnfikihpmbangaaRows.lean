/-
  No cell of these rows narrows 'for every input' (looked for: loops, veiled, ifaces, maps, wideKeys, modest, calm, conditions, laid).
  DERIVED. THE GIVEN ROWS OF THIS SEAT. 4 by the template 'for every input the law returns true; each argument reads behind the call as it read before'; 0 by the template 'total and deterministic' (their statements: YtnfikihpmbangaaTotals.lean).
  GIVEN WITH THE SEED: the statements are not yours to turn. If you find one false, say at which input.
  Laid BY PROGRAM, IN A SANDBOX (cutbox-rows.mjs): the forced cells as the released guide's own fill.sh prints them over the translation 4a72922a26544a53… (all of the seat's roots in one cut). By AI agents, Wed Nov 11 2026. No macro, syntax, notation, axiom, sorry.
-/
import Derived.Test.YtnfikihpmbangaaChecked
import GoSem.Claim
import GoSem.ClaimJoined
import GoSem.ClaimMapViews
import Derived.JoinedTies
import Derived.KernelRfl
namespace Go.Proofs.Ytnfikihpmbangaa
/- THE CELL 'sum', in the pinned program and in every row, IS THE sha256 OF THE DUMP (.gsa) THAT YtnfikihpmbangaaProg.lean LOADS. Nothing in Lean hashes anything: it is a label: what it is worth is what the hold of that sum in a sandbox is worth. -/
noncomputable def Try.pinned : Pinned := { name := "ytnfikihpmbangaa", sum := "4a72922a26544a53dd7641098f3f8dbc279a7b89de12fe79c14af8dccf7b7321", checked := Try.checked }
namespace Rows
def none {H : Type} : Left H := { results := [], args := [] }

/-- 'canterlaw15.ProbeTells': WHATEVER THE INPUT: true; the input reads as it did. -/
def probeTellsSpec : ChangeSpec := { name := "probeTells", fn := fun _ => fun
  | [d] => { results := [.lit (.bool true)], args := [d] }
  | _ => none }
def probeTellsRow : OpenClaim := { program := "ytnfikihpmbangaa", sum := "4a72922a26544a53dd7641098f3f8dbc279a7b89de12fe79c14af8dccf7b7321", func := "canter/canterlaw15.ProbeTells", spec := "probeTells", inPlace := ["math/bits.Add64"], apart := false }
def ProbeTellsSaid : Prop := probeTellsRow.holds Try.pinned (OpenSpec.ofChange probeTellsSpec)

/-- ITS FALSE NEIGHBOUR: 'it returns false'. Refute it at one input. -/
def probeTellsWrong : ChangeSpec := { name := "probeTells", fn := fun _ => fun
  | [d] => { results := [.lit (.bool false)], args := [d] }
  | _ => none }
def ProbeTellsWrongFalsely : Prop := probeTellsRow.holds Try.pinned (OpenSpec.ofChange probeTellsWrong)

/-- 'canterlaw15.ProbeTurns': WHATEVER THE INPUT: true; the input reads as it did. -/
def probeTurnsSpec : ChangeSpec := { name := "probeTurns", fn := fun _ => fun
  | [d] => { results := [.lit (.bool true)], args := [d] }
  | _ => none }
def probeTurnsRow : OpenClaim := { program := "ytnfikihpmbangaa", sum := "4a72922a26544a53dd7641098f3f8dbc279a7b89de12fe79c14af8dccf7b7321", func := "canter/canterlaw15.ProbeTurns", spec := "probeTurns", inPlace := ["math/bits.Add64"], apart := false }
def ProbeTurnsSaid : Prop := probeTurnsRow.holds Try.pinned (OpenSpec.ofChange probeTurnsSpec)

/-- ITS FALSE NEIGHBOUR: 'it returns false'. Refute it at one input. -/
def probeTurnsWrong : ChangeSpec := { name := "probeTurns", fn := fun _ => fun
  | [d] => { results := [.lit (.bool false)], args := [d] }
  | _ => none }
def ProbeTurnsWrongFalsely : Prop := probeTurnsRow.holds Try.pinned (OpenSpec.ofChange probeTurnsWrong)

/-- 'canterlaw15.ProbeWay': WHATEVER THE INPUT: true; the input reads as it did. -/
def probeWaySpec : ChangeSpec := { name := "probeWay", fn := fun _ => fun
  | [d1, d2, d3] => { results := [.lit (.bool true)], args := [d1, d2, d3] }
  | _ => none }
def probeWayRow : OpenClaim := { program := "ytnfikihpmbangaa", sum := "4a72922a26544a53dd7641098f3f8dbc279a7b89de12fe79c14af8dccf7b7321", func := "canter/canterlaw15.ProbeWay", spec := "probeWay", inPlace := ["math/bits.Add64"], apart := false }
def ProbeWaySaid : Prop := probeWayRow.holds Try.pinned (OpenSpec.ofChange probeWaySpec)

/-- ITS FALSE NEIGHBOUR: 'it returns false'. Refute it at one input. -/
def probeWayWrong : ChangeSpec := { name := "probeWay", fn := fun _ => fun
  | [d1, d2, d3] => { results := [.lit (.bool false)], args := [d1, d2, d3] }
  | _ => none }
def ProbeWayWrongFalsely : Prop := probeWayRow.holds Try.pinned (OpenSpec.ofChange probeWayWrong)

/-- 'canterlaw15.ProbeLeast': WHATEVER THE INPUT: true; the input reads as it did. -/
def probeLeastSpec : ChangeSpec := { name := "probeLeast", fn := fun _ => fun
  | [d1, d2] => { results := [.lit (.bool true)], args := [d1, d2] }
  | _ => none }
def probeLeastRow : OpenClaim := { program := "ytnfikihpmbangaa", sum := "4a72922a26544a53dd7641098f3f8dbc279a7b89de12fe79c14af8dccf7b7321", func := "canter/canterlaw15.ProbeLeast", spec := "probeLeast", inPlace := ["math/bits.Add64"], apart := false }
def ProbeLeastSaid : Prop := probeLeastRow.holds Try.pinned (OpenSpec.ofChange probeLeastSpec)

/-- ITS FALSE NEIGHBOUR: 'it returns false'. Refute it at one input. -/
def probeLeastWrong : ChangeSpec := { name := "probeLeast", fn := fun _ => fun
  | [d1, d2] => { results := [.lit (.bool false)], args := [d1, d2] }
  | _ => none }
def ProbeLeastWrongFalsely : Prop := probeLeastRow.holds Try.pinned (OpenSpec.ofChange probeLeastWrong)

/- THE SECOND FORM. 'bulk': how many values and letters a reading holds, each counted each time it is reached (what is shared counts as often as it is met; a slice's spare places count too). A statement '..UptoSaid' is the law's where the arguments, and the package variables that the reading takes, are together of bulk at most 1048576: NARROWER than '..Said'. Prove '..Said' where nothing that the law and all that it calls make is longer than what came in: it says more and counts as full. Else prove '..UptoSaid'. A law counts once. -/
mutual
def uptoBulk {H : Type} : DataW H → Nat
  | .lit (.string bytes) => bytes.length + 1
  | .lit _ => 1
  | .nil => 1
  | .ptr d => uptoBulk d + 1
  | .slice elems spare => uptoBulkAll elems + uptoBulkAll spare + 1
  | .agg parts => uptoBulkAll parts + 1
  | .iface _ d => uptoBulk d + 1
  | .map entries => uptoBulkEntries entries + 1
  | .held _ => 1
def uptoBulkAll {H : Type} : List (DataW H) → Nat
  | [] => 0
  | d :: r => uptoBulk d + uptoBulkAll r
def uptoBulkEntries {H : Type} : List (Lit × DataW H) → Nat
  | [] => 0
  | x :: r => uptoBulkEntry x + uptoBulkEntries r
def uptoBulkEntry {H : Type} : Lit × DataW H → Nat
  | (.string bytes, d) => bytes.length + uptoBulk d + 1
  | (_, d) => uptoBulk d + 1
 end
def uptoSmall : (H : Type) → List (DataW H) → Bool := fun _ ds => decide (uptoBulkAll ds ≤ 1048576)
def OpenSpec.upto (s : _root_.Go.ChangeSpec) : _root_.Go.OpenSpec := { _root_.Go.OpenSpec.ofChange s with cond := some uptoSmall }

/-- 'canterlaw15.ProbeTells', WHERE WHAT IT READS IS OF BULK AT MOST 1048576: true; the input reads as it did. -/
def probeTellsUptoRow : OpenClaim := { program := "ytnfikihpmbangaa", sum := "4a72922a26544a53dd7641098f3f8dbc279a7b89de12fe79c14af8dccf7b7321", func := "canter/canterlaw15.ProbeTells", spec := "probeTells", inPlace := ["math/bits.Add64"], apart := false, narrowed := true }
def ProbeTellsUptoSaid : Prop := probeTellsUptoRow.holds Try.pinned (OpenSpec.upto probeTellsSpec)

/-- 'canterlaw15.ProbeTurns', WHERE WHAT IT READS IS OF BULK AT MOST 1048576: true; the input reads as it did. -/
def probeTurnsUptoRow : OpenClaim := { program := "ytnfikihpmbangaa", sum := "4a72922a26544a53dd7641098f3f8dbc279a7b89de12fe79c14af8dccf7b7321", func := "canter/canterlaw15.ProbeTurns", spec := "probeTurns", inPlace := ["math/bits.Add64"], apart := false, narrowed := true }
def ProbeTurnsUptoSaid : Prop := probeTurnsUptoRow.holds Try.pinned (OpenSpec.upto probeTurnsSpec)

/-- 'canterlaw15.ProbeWay', WHERE WHAT IT READS IS OF BULK AT MOST 1048576: true; the input reads as it did. -/
def probeWayUptoRow : OpenClaim := { program := "ytnfikihpmbangaa", sum := "4a72922a26544a53dd7641098f3f8dbc279a7b89de12fe79c14af8dccf7b7321", func := "canter/canterlaw15.ProbeWay", spec := "probeWay", inPlace := ["math/bits.Add64"], apart := false, narrowed := true }
def ProbeWayUptoSaid : Prop := probeWayUptoRow.holds Try.pinned (OpenSpec.upto probeWaySpec)

/-- 'canterlaw15.ProbeLeast', WHERE WHAT IT READS IS OF BULK AT MOST 1048576: true; the input reads as it did. -/
def probeLeastUptoRow : OpenClaim := { program := "ytnfikihpmbangaa", sum := "4a72922a26544a53dd7641098f3f8dbc279a7b89de12fe79c14af8dccf7b7321", func := "canter/canterlaw15.ProbeLeast", spec := "probeLeast", inPlace := ["math/bits.Add64"], apart := false, narrowed := true }
def ProbeLeastUptoSaid : Prop := probeLeastUptoRow.holds Try.pinned (OpenSpec.upto probeLeastSpec)

end Rows
end Go.Proofs.Ytnfikihpmbangaa
