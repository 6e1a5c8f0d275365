/-
  No cell of these rows narrows 'for every input' (looked for: loops, veiled, ifaces, maps, wideKeys, modest, calm, conditions, laid).
  DERIVED. THE GIVEN ROWS OF THIS SEAT. 4 by the template 'for every input the law returns true; each argument reads behind the call as it read before'; 0 by the template 'total and deterministic' (their statements: YtcllgfkmjleckaaTotals.lean).
  GIVEN WITH THE SEED: the statements are not yours to turn. If you find one false, say at which input.
  Laid BY PROGRAM, IN A SANDBOX (cutbox-rows.mjs): the forced cells as the released guide's own fill.sh prints them over the translation 4259e17f40bee763… (all of the seat's roots in one cut). By AI agents, Wed Nov 11 2026. No macro, syntax, notation, axiom, sorry.
-/
import Derived.Test.YtcllgfkmjleckaaChecked
import GoSem.Claim
import GoSem.ClaimJoined
import GoSem.ClaimMapViews
import Derived.JoinedTies
import Derived.KernelRfl
namespace Go.Proofs.Ytcllgfkmjleckaa
/- THE CELL 'sum', in the pinned program and in every row, IS THE sha256 OF THE DUMP (.gsa) THAT YtcllgfkmjleckaaProg.lean LOADS. Nothing in Lean hashes anything: it is a label: what it is worth is what the hold of that sum in a sandbox is worth. -/
noncomputable def Try.pinned : Pinned := { name := "ytcllgfkmjleckaa", sum := "4259e17f40bee763d0c2240287516e913a037f063f2c7fc66085fe123800ccdf", checked := Try.checked }
namespace Rows
def none {H : Type} : Left H := { results := [], args := [] }

/-- 'canterlaw19.ListsPlay': WHATEVER THE INPUT: true; the input reads as it did. -/
def listsPlaySpec : ChangeSpec := { name := "listsPlay", fn := fun _ => fun
  | [d] => { results := [.lit (.bool true)], args := [d] }
  | _ => none }
def listsPlayRow : OpenClaim := { program := "ytcllgfkmjleckaa", sum := "4259e17f40bee763d0c2240287516e913a037f063f2c7fc66085fe123800ccdf", func := "canter/canterlaw19.ListsPlay", spec := "listsPlay", unfollowed := true, recurses := true, apart := false }
def ListsPlaySaid : Prop := listsPlayRow.holds Try.pinned (OpenSpec.ofChange listsPlaySpec)

/-- ITS FALSE NEIGHBOUR: 'it returns false'. Refute it at one input. -/
def listsPlayWrong : ChangeSpec := { name := "listsPlay", fn := fun _ => fun
  | [d] => { results := [.lit (.bool false)], args := [d] }
  | _ => none }
def ListsPlayWrongFalsely : Prop := listsPlayRow.holds Try.pinned (OpenSpec.ofChange listsPlayWrong)

/-- 'canterlaw19.ListsRound': WHATEVER THE INPUT: true; the input reads as it did. -/
def listsRoundSpec : ChangeSpec := { name := "listsRound", fn := fun _ => fun
  | [d1, d2, d3] => { results := [.lit (.bool true)], args := [d1, d2, d3] }
  | _ => none }
def listsRoundRow : OpenClaim := { program := "ytcllgfkmjleckaa", sum := "4259e17f40bee763d0c2240287516e913a037f063f2c7fc66085fe123800ccdf", func := "canter/canterlaw19.ListsRound", spec := "listsRound", unfollowed := true, recurses := true, apart := false }
def ListsRoundSaid : Prop := listsRoundRow.holds Try.pinned (OpenSpec.ofChange listsRoundSpec)

/-- ITS FALSE NEIGHBOUR: 'it returns false'. Refute it at one input. -/
def listsRoundWrong : ChangeSpec := { name := "listsRound", fn := fun _ => fun
  | [d1, d2, d3] => { results := [.lit (.bool false)], args := [d1, d2, d3] }
  | _ => none }
def ListsRoundWrongFalsely : Prop := listsRoundRow.holds Try.pinned (OpenSpec.ofChange listsRoundWrong)

/-- 'canterlaw19.ListsNew': WHATEVER THE INPUT: true; the input reads as it did. -/
def listsNewSpec : ChangeSpec := { name := "listsNew", fn := fun _ => fun
  | [d1, d2] => { results := [.lit (.bool true)], args := [d1, d2] }
  | _ => none }
def listsNewRow : OpenClaim := { program := "ytcllgfkmjleckaa", sum := "4259e17f40bee763d0c2240287516e913a037f063f2c7fc66085fe123800ccdf", func := "canter/canterlaw19.ListsNew", spec := "listsNew", unfollowed := true, recurses := true, apart := false }
def ListsNewSaid : Prop := listsNewRow.holds Try.pinned (OpenSpec.ofChange listsNewSpec)

/-- ITS FALSE NEIGHBOUR: 'it returns false'. Refute it at one input. -/
def listsNewWrong : ChangeSpec := { name := "listsNew", fn := fun _ => fun
  | [d1, d2] => { results := [.lit (.bool false)], args := [d1, d2] }
  | _ => none }
def ListsNewWrongFalsely : Prop := listsNewRow.holds Try.pinned (OpenSpec.ofChange listsNewWrong)

/-- 'canterlaw19.ListsRemove': WHATEVER THE INPUT: true; the input reads as it did. -/
def listsRemoveSpec : ChangeSpec := { name := "listsRemove", fn := fun _ => fun
  | [d1, d2] => { results := [.lit (.bool true)], args := [d1, d2] }
  | _ => none }
def listsRemoveRow : OpenClaim := { program := "ytcllgfkmjleckaa", sum := "4259e17f40bee763d0c2240287516e913a037f063f2c7fc66085fe123800ccdf", func := "canter/canterlaw19.ListsRemove", spec := "listsRemove", unfollowed := true, recurses := true, apart := false }
def ListsRemoveSaid : Prop := listsRemoveRow.holds Try.pinned (OpenSpec.ofChange listsRemoveSpec)

/-- ITS FALSE NEIGHBOUR: 'it returns false'. Refute it at one input. -/
def listsRemoveWrong : ChangeSpec := { name := "listsRemove", fn := fun _ => fun
  | [d1, d2] => { results := [.lit (.bool false)], args := [d1, d2] }
  | _ => none }
def ListsRemoveWrongFalsely : Prop := listsRemoveRow.holds Try.pinned (OpenSpec.ofChange listsRemoveWrong)

/- THE SECOND FORM. 'bulk': how many values and letters a reading holds, each counted each time it is reached (what is shared counts as often as it is met; a slice's spare places count too). A statement '..UptoSaid' is the law's where the arguments, and the package variables that the reading takes, are together of bulk at most 1048576: NARROWER than '..Said'. Prove '..Said' where nothing that the law and all that it calls make is longer than what came in: it says more and counts as full. Else prove '..UptoSaid'. A law counts once. -/
mutual
def uptoBulk {H : Type} : DataW H → Nat
  | .lit (.string bytes) => bytes.length + 1
  | .lit _ => 1
  | .nil => 1
  | .ptr d => uptoBulk d + 1
  | .slice elems spare => uptoBulkAll elems + uptoBulkAll spare + 1
  | .agg parts => uptoBulkAll parts + 1
  | .iface _ d => uptoBulk d + 1
  | .map entries => uptoBulkEntries entries + 1
  | .held _ => 1
def uptoBulkAll {H : Type} : List (DataW H) → Nat
  | [] => 0
  | d :: r => uptoBulk d + uptoBulkAll r
def uptoBulkEntries {H : Type} : List (Lit × DataW H) → Nat
  | [] => 0
  | x :: r => uptoBulkEntry x + uptoBulkEntries r
def uptoBulkEntry {H : Type} : Lit × DataW H → Nat
  | (.string bytes, d) => bytes.length + uptoBulk d + 1
  | (_, d) => uptoBulk d + 1
 end
def uptoSmall : (H : Type) → List (DataW H) → Bool := fun _ ds => decide (uptoBulkAll ds ≤ 1048576)
def OpenSpec.upto (s : _root_.Go.ChangeSpec) : _root_.Go.OpenSpec := { _root_.Go.OpenSpec.ofChange s with cond := some uptoSmall }

/-- 'canterlaw19.ListsPlay', WHERE WHAT IT READS IS OF BULK AT MOST 1048576: true; the input reads as it did. -/
def listsPlayUptoRow : OpenClaim := { program := "ytcllgfkmjleckaa", sum := "4259e17f40bee763d0c2240287516e913a037f063f2c7fc66085fe123800ccdf", func := "canter/canterlaw19.ListsPlay", spec := "listsPlay", unfollowed := true, recurses := true, apart := false, narrowed := true }
def ListsPlayUptoSaid : Prop := listsPlayUptoRow.holds Try.pinned (OpenSpec.upto listsPlaySpec)

/-- 'canterlaw19.ListsRound', WHERE WHAT IT READS IS OF BULK AT MOST 1048576: true; the input reads as it did. -/
def listsRoundUptoRow : OpenClaim := { program := "ytcllgfkmjleckaa", sum := "4259e17f40bee763d0c2240287516e913a037f063f2c7fc66085fe123800ccdf", func := "canter/canterlaw19.ListsRound", spec := "listsRound", unfollowed := true, recurses := true, apart := false, narrowed := true }
def ListsRoundUptoSaid : Prop := listsRoundUptoRow.holds Try.pinned (OpenSpec.upto listsRoundSpec)

/-- 'canterlaw19.ListsNew', WHERE WHAT IT READS IS OF BULK AT MOST 1048576: true; the input reads as it did. -/
def listsNewUptoRow : OpenClaim := { program := "ytcllgfkmjleckaa", sum := "4259e17f40bee763d0c2240287516e913a037f063f2c7fc66085fe123800ccdf", func := "canter/canterlaw19.ListsNew", spec := "listsNew", unfollowed := true, recurses := true, apart := false, narrowed := true }
def ListsNewUptoSaid : Prop := listsNewUptoRow.holds Try.pinned (OpenSpec.upto listsNewSpec)

/-- 'canterlaw19.ListsRemove', WHERE WHAT IT READS IS OF BULK AT MOST 1048576: true; the input reads as it did. -/
def listsRemoveUptoRow : OpenClaim := { program := "ytcllgfkmjleckaa", sum := "4259e17f40bee763d0c2240287516e913a037f063f2c7fc66085fe123800ccdf", func := "canter/canterlaw19.ListsRemove", spec := "listsRemove", unfollowed := true, recurses := true, apart := false, narrowed := true }
def ListsRemoveUptoSaid : Prop := listsRemoveUptoRow.holds Try.pinned (OpenSpec.upto listsRemoveSpec)

end Rows
end Go.Proofs.Ytcllgfkmjleckaa
