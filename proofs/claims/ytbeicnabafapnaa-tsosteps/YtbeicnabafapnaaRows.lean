/-
  No cell of these rows narrows 'for every input' (looked for: loops, veiled, ifaces, maps, wideKeys, modest, calm, conditions, laid).
  DERIVED. THE GIVEN ROWS OF THIS SEAT. 4 by the template 'for every input the law returns true; each argument reads behind the call as it read before'; 0 by the template 'total and deterministic' (their statements: YtbeicnabafapnaaTotals.lean).
  GIVEN WITH THE SEED: the statements are not yours to turn. If you find one false, say at which input.
  Laid BY PROGRAM, IN A SANDBOX (cutbox-rows.mjs): the forced cells as the released guide's own fill.sh prints them over the translation c1a8e30ef858bbfb… (all of the seat's roots in one cut). By AI agents, Wed Nov 11 2026. No macro, syntax, notation, axiom, sorry.
-/
import Derived.Test.YtbeicnabafapnaaChecked
import GoSem.Claim
import GoSem.ClaimJoined
import GoSem.ClaimMapViews
import Derived.JoinedTies
import Derived.KernelRfl
namespace Go.Proofs.Ytbeicnabafapnaa
/- THE CELL 'sum', in the pinned program and in every row, IS THE sha256 OF THE DUMP (.gsa) THAT YtbeicnabafapnaaProg.lean LOADS. Nothing in Lean hashes anything: it is a label: what it is worth is what the hold of that sum in a sandbox is worth. -/
noncomputable def Try.pinned : Pinned := { name := "ytbeicnabafapnaa", sum := "c1a8e30ef858bbfb582dba4487ef420e0e6a70f2485b7b7dcd67ef628e074abd", checked := Try.checked }
namespace Rows
def none {H : Type} : Left H := { results := [], args := [] }

/-- 'canterlaw22.TsoTells': WHATEVER THE INPUT: true; the input reads as it did. -/
def tsoTellsSpec : ChangeSpec := { name := "tsoTells", fn := fun _ => fun
  | [d1, d2] => { results := [.lit (.bool true)], args := [d1, d2] }
  | _ => none }
def tsoTellsRow : OpenClaim := { program := "ytbeicnabafapnaa", sum := "c1a8e30ef858bbfb582dba4487ef420e0e6a70f2485b7b7dcd67ef628e074abd", func := "canter/canterlaw22.TsoTells", spec := "tsoTells", apart := false }
def TsoTellsSaid : Prop := tsoTellsRow.holds Try.pinned (OpenSpec.ofChange tsoTellsSpec)

/-- ITS FALSE NEIGHBOUR: 'it returns false'. Refute it at one input. -/
def tsoTellsWrong : ChangeSpec := { name := "tsoTells", fn := fun _ => fun
  | [d1, d2] => { results := [.lit (.bool false)], args := [d1, d2] }
  | _ => none }
def TsoTellsWrongFalsely : Prop := tsoTellsRow.holds Try.pinned (OpenSpec.ofChange tsoTellsWrong)

/-- 'canterlaw22.TsoBounds': WHATEVER THE INPUT: true; the input reads as it did. -/
def tsoBoundsSpec : ChangeSpec := { name := "tsoBounds", fn := fun _ => fun
  | [d1, d2, d3] => { results := [.lit (.bool true)], args := [d1, d2, d3] }
  | _ => none }
def tsoBoundsRow : OpenClaim := { program := "ytbeicnabafapnaa", sum := "c1a8e30ef858bbfb582dba4487ef420e0e6a70f2485b7b7dcd67ef628e074abd", func := "canter/canterlaw22.TsoBounds", spec := "tsoBounds", apart := false }
def TsoBoundsSaid : Prop := tsoBoundsRow.holds Try.pinned (OpenSpec.ofChange tsoBoundsSpec)

/-- ITS FALSE NEIGHBOUR: 'it returns false'. Refute it at one input. -/
def tsoBoundsWrong : ChangeSpec := { name := "tsoBounds", fn := fun _ => fun
  | [d1, d2, d3] => { results := [.lit (.bool false)], args := [d1, d2, d3] }
  | _ => none }
def TsoBoundsWrongFalsely : Prop := tsoBoundsRow.holds Try.pinned (OpenSpec.ofChange tsoBoundsWrong)

/-- 'canterlaw22.TsoHeld': WHATEVER THE INPUT: true; the input reads as it did. -/
def tsoHeldSpec : ChangeSpec := { name := "tsoHeld", fn := fun _ => fun
  | [d1, d2] => { results := [.lit (.bool true)], args := [d1, d2] }
  | _ => none }
def tsoHeldRow : OpenClaim := { program := "ytbeicnabafapnaa", sum := "c1a8e30ef858bbfb582dba4487ef420e0e6a70f2485b7b7dcd67ef628e074abd", func := "canter/canterlaw22.TsoHeld", spec := "tsoHeld", apart := false }
def TsoHeldSaid : Prop := tsoHeldRow.holds Try.pinned (OpenSpec.ofChange tsoHeldSpec)

/-- ITS FALSE NEIGHBOUR: 'it returns false'. Refute it at one input. -/
def tsoHeldWrong : ChangeSpec := { name := "tsoHeld", fn := fun _ => fun
  | [d1, d2] => { results := [.lit (.bool false)], args := [d1, d2] }
  | _ => none }
def TsoHeldWrongFalsely : Prop := tsoHeldRow.holds Try.pinned (OpenSpec.ofChange tsoHeldWrong)

/-- 'canterlaw22.TsoSteps': WHATEVER THE INPUT: true; the input reads as it did. -/
def tsoStepsSpec : ChangeSpec := { name := "tsoSteps", fn := fun _ => fun
  | [d1, d2, d3] => { results := [.lit (.bool true)], args := [d1, d2, d3] }
  | _ => none }
def tsoStepsRow : OpenClaim := { program := "ytbeicnabafapnaa", sum := "c1a8e30ef858bbfb582dba4487ef420e0e6a70f2485b7b7dcd67ef628e074abd", func := "canter/canterlaw22.TsoSteps", spec := "tsoSteps", apart := false }
def TsoStepsSaid : Prop := tsoStepsRow.holds Try.pinned (OpenSpec.ofChange tsoStepsSpec)

/-- ITS FALSE NEIGHBOUR: 'it returns false'. Refute it at one input. -/
def tsoStepsWrong : ChangeSpec := { name := "tsoSteps", fn := fun _ => fun
  | [d1, d2, d3] => { results := [.lit (.bool false)], args := [d1, d2, d3] }
  | _ => none }
def TsoStepsWrongFalsely : Prop := tsoStepsRow.holds Try.pinned (OpenSpec.ofChange tsoStepsWrong)

/- THE SECOND FORM. 'bulk': how many values and letters a reading holds, each counted each time it is reached (what is shared counts as often as it is met; a slice's spare places count too). A statement '..UptoSaid' is the law's where the arguments, and the package variables that the reading takes, are together of bulk at most 1048576: NARROWER than '..Said'. Prove '..Said' where nothing that the law and all that it calls make is longer than what came in: it says more and counts as full. Else prove '..UptoSaid'. A law counts once. -/
mutual
def uptoBulk {H : Type} : DataW H → Nat
  | .lit (.string bytes) => bytes.length + 1
  | .lit _ => 1
  | .nil => 1
  | .ptr d => uptoBulk d + 1
  | .slice elems spare => uptoBulkAll elems + uptoBulkAll spare + 1
  | .agg parts => uptoBulkAll parts + 1
  | .iface _ d => uptoBulk d + 1
  | .map entries => uptoBulkEntries entries + 1
  | .held _ => 1
def uptoBulkAll {H : Type} : List (DataW H) → Nat
  | [] => 0
  | d :: r => uptoBulk d + uptoBulkAll r
def uptoBulkEntries {H : Type} : List (Lit × DataW H) → Nat
  | [] => 0
  | x :: r => uptoBulkEntry x + uptoBulkEntries r
def uptoBulkEntry {H : Type} : Lit × DataW H → Nat
  | (.string bytes, d) => bytes.length + uptoBulk d + 1
  | (_, d) => uptoBulk d + 1
 end
def uptoSmall : (H : Type) → List (DataW H) → Bool := fun _ ds => decide (uptoBulkAll ds ≤ 1048576)
def OpenSpec.upto (s : _root_.Go.ChangeSpec) : _root_.Go.OpenSpec := { _root_.Go.OpenSpec.ofChange s with cond := some uptoSmall }

/-- 'canterlaw22.TsoTells', WHERE WHAT IT READS IS OF BULK AT MOST 1048576: true; the input reads as it did. -/
def tsoTellsUptoRow : OpenClaim := { program := "ytbeicnabafapnaa", sum := "c1a8e30ef858bbfb582dba4487ef420e0e6a70f2485b7b7dcd67ef628e074abd", func := "canter/canterlaw22.TsoTells", spec := "tsoTells", apart := false, narrowed := true }
def TsoTellsUptoSaid : Prop := tsoTellsUptoRow.holds Try.pinned (OpenSpec.upto tsoTellsSpec)

/-- 'canterlaw22.TsoBounds', WHERE WHAT IT READS IS OF BULK AT MOST 1048576: true; the input reads as it did. -/
def tsoBoundsUptoRow : OpenClaim := { program := "ytbeicnabafapnaa", sum := "c1a8e30ef858bbfb582dba4487ef420e0e6a70f2485b7b7dcd67ef628e074abd", func := "canter/canterlaw22.TsoBounds", spec := "tsoBounds", apart := false, narrowed := true }
def TsoBoundsUptoSaid : Prop := tsoBoundsUptoRow.holds Try.pinned (OpenSpec.upto tsoBoundsSpec)

/-- 'canterlaw22.TsoHeld', WHERE WHAT IT READS IS OF BULK AT MOST 1048576: true; the input reads as it did. -/
def tsoHeldUptoRow : OpenClaim := { program := "ytbeicnabafapnaa", sum := "c1a8e30ef858bbfb582dba4487ef420e0e6a70f2485b7b7dcd67ef628e074abd", func := "canter/canterlaw22.TsoHeld", spec := "tsoHeld", apart := false, narrowed := true }
def TsoHeldUptoSaid : Prop := tsoHeldUptoRow.holds Try.pinned (OpenSpec.upto tsoHeldSpec)

/-- 'canterlaw22.TsoSteps', WHERE WHAT IT READS IS OF BULK AT MOST 1048576: true; the input reads as it did. -/
def tsoStepsUptoRow : OpenClaim := { program := "ytbeicnabafapnaa", sum := "c1a8e30ef858bbfb582dba4487ef420e0e6a70f2485b7b7dcd67ef628e074abd", func := "canter/canterlaw22.TsoSteps", spec := "tsoSteps", apart := false, narrowed := true }
def TsoStepsUptoSaid : Prop := tsoStepsUptoRow.holds Try.pinned (OpenSpec.upto tsoStepsSpec)

end Rows
end Go.Proofs.Ytbeicnabafapnaa
