/-
  No cell of these rows narrows 'for every input' (looked for: loops, veiled, ifaces, maps, wideKeys, modest, calm, conditions, laid).
  DERIVED. THE GIVEN ROWS OF THIS SEAT. 4 by the template 'for every input the law returns true; each argument reads behind the call as it read before'; 0 by the template 'total and deterministic' (their statements: YtiilbdmldonipaaTotals.lean).
  GIVEN WITH THE SEED: the statements are not yours to turn. If you find one false, say at which input.
  Laid BY PROGRAM, IN A SANDBOX (cutbox-rows.mjs): the forced cells as the released guide's own fill.sh prints them over the translation 4fc0532ccba4c77d… (all of the seat's roots in one cut). By AI agents, Wed Nov 11 2026. No macro, syntax, notation, axiom, sorry.
-/
import Derived.Test.YtiilbdmldonipaaChecked
import GoSem.Claim
import GoSem.ClaimJoined
import GoSem.ClaimMapViews
import Derived.JoinedTies
import Derived.KernelRfl
namespace Go.Proofs.Ytiilbdmldonipaa
/- THE CELL 'sum', in the pinned program and in every row, IS THE sha256 OF THE DUMP (.gsa) THAT YtiilbdmldonipaaProg.lean LOADS. Nothing in Lean hashes anything: it is a label: what it is worth is what the hold of that sum in a sandbox is worth. -/
noncomputable def Try.pinned : Pinned := { name := "ytiilbdmldonipaa", sum := "4fc0532ccba4c77d12997db4a6aa054c135051c918e9e3d0630c5a3234724084", checked := Try.checked }
namespace Rows
def none {H : Type} : Left H := { results := [], args := [] }

/-- 'canterlaw10.SamplerTells': WHATEVER THE INPUT: true; the input reads as it did. -/
def samplerTellsSpec : ChangeSpec := { name := "samplerTells", fn := fun _ => fun
  | [d] => { results := [.lit (.bool true)], args := [d] }
  | _ => none }
def samplerTellsRow : OpenClaim := { program := "ytiilbdmldonipaa", sum := "4fc0532ccba4c77d12997db4a6aa054c135051c918e9e3d0630c5a3234724084", func := "canter/canterlaw10.SamplerTells", spec := "samplerTells", inPlace := ["math/bits.Add64"], apart := false }
def SamplerTellsSaid : Prop := samplerTellsRow.holds Try.pinned (OpenSpec.ofChange samplerTellsSpec)

/-- ITS FALSE NEIGHBOUR: 'it returns false'. Refute it at one input. -/
def samplerTellsWrong : ChangeSpec := { name := "samplerTells", fn := fun _ => fun
  | [d] => { results := [.lit (.bool false)], args := [d] }
  | _ => none }
def SamplerTellsWrongFalsely : Prop := samplerTellsRow.holds Try.pinned (OpenSpec.ofChange samplerTellsWrong)

/-- 'canterlaw10.SamplerSteady': WHATEVER THE INPUT: true; the input reads as it did. -/
def samplerSteadySpec : ChangeSpec := { name := "samplerSteady", fn := fun _ => fun
  | [d1, d2, d3, d4] => { results := [.lit (.bool true)], args := [d1, d2, d3, d4] }
  | _ => none }
def samplerSteadyRow : OpenClaim := { program := "ytiilbdmldonipaa", sum := "4fc0532ccba4c77d12997db4a6aa054c135051c918e9e3d0630c5a3234724084", func := "canter/canterlaw10.SamplerSteady", spec := "samplerSteady", inPlace := ["math/bits.Add64"], apart := false }
def SamplerSteadySaid : Prop := samplerSteadyRow.holds Try.pinned (OpenSpec.ofChange samplerSteadySpec)

/-- ITS FALSE NEIGHBOUR: 'it returns false'. Refute it at one input. -/
def samplerSteadyWrong : ChangeSpec := { name := "samplerSteady", fn := fun _ => fun
  | [d1, d2, d3, d4] => { results := [.lit (.bool false)], args := [d1, d2, d3, d4] }
  | _ => none }
def SamplerSteadyWrongFalsely : Prop := samplerSteadyRow.holds Try.pinned (OpenSpec.ofChange samplerSteadyWrong)

/-- 'canterlaw10.SamplerLimited': WHATEVER THE INPUT: true; the input reads as it did. -/
def samplerLimitedSpec : ChangeSpec := { name := "samplerLimited", fn := fun _ => fun
  | [d] => { results := [.lit (.bool true)], args := [d] }
  | _ => none }
def samplerLimitedRow : OpenClaim := { program := "ytiilbdmldonipaa", sum := "4fc0532ccba4c77d12997db4a6aa054c135051c918e9e3d0630c5a3234724084", func := "canter/canterlaw10.SamplerLimited", spec := "samplerLimited", inPlace := ["math/bits.Add64"], apart := false }
def SamplerLimitedSaid : Prop := samplerLimitedRow.holds Try.pinned (OpenSpec.ofChange samplerLimitedSpec)

/-- ITS FALSE NEIGHBOUR: 'it returns false'. Refute it at one input. -/
def samplerLimitedWrong : ChangeSpec := { name := "samplerLimited", fn := fun _ => fun
  | [d] => { results := [.lit (.bool false)], args := [d] }
  | _ => none }
def SamplerLimitedWrongFalsely : Prop := samplerLimitedRow.holds Try.pinned (OpenSpec.ofChange samplerLimitedWrong)

/-- 'canterlaw10.SamplerSums': WHATEVER THE INPUT: true; the input reads as it did. -/
def samplerSumsSpec : ChangeSpec := { name := "samplerSums", fn := fun _ => fun
  | [d1, d2] => { results := [.lit (.bool true)], args := [d1, d2] }
  | _ => none }
def samplerSumsRow : OpenClaim := { program := "ytiilbdmldonipaa", sum := "4fc0532ccba4c77d12997db4a6aa054c135051c918e9e3d0630c5a3234724084", func := "canter/canterlaw10.SamplerSums", spec := "samplerSums", inPlace := ["math/bits.Add64"], apart := false }
def SamplerSumsSaid : Prop := samplerSumsRow.holds Try.pinned (OpenSpec.ofChange samplerSumsSpec)

/-- ITS FALSE NEIGHBOUR: 'it returns false'. Refute it at one input. -/
def samplerSumsWrong : ChangeSpec := { name := "samplerSums", fn := fun _ => fun
  | [d1, d2] => { results := [.lit (.bool false)], args := [d1, d2] }
  | _ => none }
def SamplerSumsWrongFalsely : Prop := samplerSumsRow.holds Try.pinned (OpenSpec.ofChange samplerSumsWrong)

/- THE SECOND FORM. 'bulk': how many values and letters a reading holds, each counted each time it is reached (what is shared counts as often as it is met; a slice's spare places count too). A statement '..UptoSaid' is the law's where the arguments, and the package variables that the reading takes, are together of bulk at most 1048576: NARROWER than '..Said'. Prove '..Said' where nothing that the law and all that it calls make is longer than what came in: it says more and counts as full. Else prove '..UptoSaid'. A law counts once. -/
mutual
def uptoBulk {H : Type} : DataW H → Nat
  | .lit (.string bytes) => bytes.length + 1
  | .lit _ => 1
  | .nil => 1
  | .ptr d => uptoBulk d + 1
  | .slice elems spare => uptoBulkAll elems + uptoBulkAll spare + 1
  | .agg parts => uptoBulkAll parts + 1
  | .iface _ d => uptoBulk d + 1
  | .map entries => uptoBulkEntries entries + 1
  | .held _ => 1
def uptoBulkAll {H : Type} : List (DataW H) → Nat
  | [] => 0
  | d :: r => uptoBulk d + uptoBulkAll r
def uptoBulkEntries {H : Type} : List (Lit × DataW H) → Nat
  | [] => 0
  | x :: r => uptoBulkEntry x + uptoBulkEntries r
def uptoBulkEntry {H : Type} : Lit × DataW H → Nat
  | (.string bytes, d) => bytes.length + uptoBulk d + 1
  | (_, d) => uptoBulk d + 1
 end
def uptoSmall : (H : Type) → List (DataW H) → Bool := fun _ ds => decide (uptoBulkAll ds ≤ 1048576)
def OpenSpec.upto (s : _root_.Go.ChangeSpec) : _root_.Go.OpenSpec := { _root_.Go.OpenSpec.ofChange s with cond := some uptoSmall }

/-- 'canterlaw10.SamplerTells', WHERE WHAT IT READS IS OF BULK AT MOST 1048576: true; the input reads as it did. -/
def samplerTellsUptoRow : OpenClaim := { program := "ytiilbdmldonipaa", sum := "4fc0532ccba4c77d12997db4a6aa054c135051c918e9e3d0630c5a3234724084", func := "canter/canterlaw10.SamplerTells", spec := "samplerTells", inPlace := ["math/bits.Add64"], apart := false, narrowed := true }
def SamplerTellsUptoSaid : Prop := samplerTellsUptoRow.holds Try.pinned (OpenSpec.upto samplerTellsSpec)

/-- 'canterlaw10.SamplerSteady', WHERE WHAT IT READS IS OF BULK AT MOST 1048576: true; the input reads as it did. -/
def samplerSteadyUptoRow : OpenClaim := { program := "ytiilbdmldonipaa", sum := "4fc0532ccba4c77d12997db4a6aa054c135051c918e9e3d0630c5a3234724084", func := "canter/canterlaw10.SamplerSteady", spec := "samplerSteady", inPlace := ["math/bits.Add64"], apart := false, narrowed := true }
def SamplerSteadyUptoSaid : Prop := samplerSteadyUptoRow.holds Try.pinned (OpenSpec.upto samplerSteadySpec)

/-- 'canterlaw10.SamplerLimited', WHERE WHAT IT READS IS OF BULK AT MOST 1048576: true; the input reads as it did. -/
def samplerLimitedUptoRow : OpenClaim := { program := "ytiilbdmldonipaa", sum := "4fc0532ccba4c77d12997db4a6aa054c135051c918e9e3d0630c5a3234724084", func := "canter/canterlaw10.SamplerLimited", spec := "samplerLimited", inPlace := ["math/bits.Add64"], apart := false, narrowed := true }
def SamplerLimitedUptoSaid : Prop := samplerLimitedUptoRow.holds Try.pinned (OpenSpec.upto samplerLimitedSpec)

/-- 'canterlaw10.SamplerSums', WHERE WHAT IT READS IS OF BULK AT MOST 1048576: true; the input reads as it did. -/
def samplerSumsUptoRow : OpenClaim := { program := "ytiilbdmldonipaa", sum := "4fc0532ccba4c77d12997db4a6aa054c135051c918e9e3d0630c5a3234724084", func := "canter/canterlaw10.SamplerSums", spec := "samplerSums", inPlace := ["math/bits.Add64"], apart := false, narrowed := true }
def SamplerSumsUptoSaid : Prop := samplerSumsUptoRow.holds Try.pinned (OpenSpec.upto samplerSumsSpec)

end Rows
end Go.Proofs.Ytiilbdmldonipaa
