/-
  No cell of these rows narrows 'for every input' (looked for: loops, veiled, ifaces, maps, wideKeys, modest, calm, conditions, laid).
  DERIVED. THE GIVEN ROWS OF THIS SEAT. 3 by the template 'for every input the law returns true; each argument reads behind the call as it read before'; 0 by the template 'total and deterministic' (their statements: YtgdaaohlongmlaaTotals.lean).
  GIVEN WITH THE SEED: the statements are not yours to turn. If you find one false, say at which input.
  Laid BY PROGRAM, IN A SANDBOX (cutbox-rows.mjs): the forced cells as the released guide's own fill.sh prints them over the translation 7fad3e1f96da20d2… (all of the seat's roots in one cut). By AI agents, Wed Nov 11 2026. No macro, syntax, notation, axiom, sorry.
-/
import Derived.Test.YtgdaaohlongmlaaChecked
import GoSem.Claim
import GoSem.ClaimJoined
import GoSem.ClaimMapViews
import Derived.JoinedTies
import Derived.KernelRfl
namespace Go.Proofs.Ytgdaaohlongmlaa
/- THE CELL 'sum', in the pinned program and in every row, IS THE sha256 OF THE DUMP (.gsa) THAT YtgdaaohlongmlaaProg.lean LOADS. Nothing in Lean hashes anything: it is a label: what it is worth is what the hold of that sum in a sandbox is worth. -/
noncomputable def Try.pinned : Pinned := { name := "ytgdaaohlongmlaa", sum := "7fad3e1f96da20d2d15dec64ca8df2a636058d2ecc5dabc9bf1a6a770fb3bc06", checked := Try.checked }
namespace Rows
def none {H : Type} : Left H := { results := [], args := [] }

/-- 'gantrylaw17.ProtoBack': WHATEVER THE INPUT: true; the input reads as it did. -/
def protoBackSpec : ChangeSpec := { name := "protoBack", fn := fun _ => fun
  | [d1, d2, d3, d4] => { results := [.lit (.bool true)], args := [d1, d2, d3, d4] }
  | _ => none }
def protoBackRow : OpenClaim := { program := "ytgdaaohlongmlaa", sum := "7fad3e1f96da20d2d15dec64ca8df2a636058d2ecc5dabc9bf1a6a770fb3bc06", func := "gantry/gantrylaw17.ProtoBack", spec := "protoBack", unfollowed := true, recurses := true, apart := false }
def ProtoBackSaid : Prop := protoBackRow.holds Try.pinned (OpenSpec.ofChange protoBackSpec)

/-- ITS FALSE NEIGHBOUR: 'it returns false'. Refute it at one input. -/
def protoBackWrong : ChangeSpec := { name := "protoBack", fn := fun _ => fun
  | [d1, d2, d3, d4] => { results := [.lit (.bool false)], args := [d1, d2, d3, d4] }
  | _ => none }
def ProtoBackWrongFalsely : Prop := protoBackRow.holds Try.pinned (OpenSpec.ofChange protoBackWrong)

/-- 'gantrylaw17.ProtoCanon': WHATEVER THE INPUT: true; the input reads as it did. -/
def protoCanonSpec : ChangeSpec := { name := "protoCanon", fn := fun _ => fun
  | [d] => { results := [.lit (.bool true)], args := [d] }
  | _ => none }
def protoCanonRow : OpenClaim := { program := "ytgdaaohlongmlaa", sum := "7fad3e1f96da20d2d15dec64ca8df2a636058d2ecc5dabc9bf1a6a770fb3bc06", func := "gantry/gantrylaw17.ProtoCanon", spec := "protoCanon", unfollowed := true, recurses := true, apart := false }
def ProtoCanonSaid : Prop := protoCanonRow.holds Try.pinned (OpenSpec.ofChange protoCanonSpec)

/-- ITS FALSE NEIGHBOUR: 'it returns false'. Refute it at one input. -/
def protoCanonWrong : ChangeSpec := { name := "protoCanon", fn := fun _ => fun
  | [d] => { results := [.lit (.bool false)], args := [d] }
  | _ => none }
def ProtoCanonWrongFalsely : Prop := protoCanonRow.holds Try.pinned (OpenSpec.ofChange protoCanonWrong)

/-- 'gantrylaw17.ProtoUnused': WHATEVER THE INPUT: true; the input reads as it did. -/
def protoUnusedSpec : ChangeSpec := { name := "protoUnused", fn := fun _ => fun
  | [d1, d2] => { results := [.lit (.bool true)], args := [d1, d2] }
  | _ => none }
def protoUnusedRow : OpenClaim := { program := "ytgdaaohlongmlaa", sum := "7fad3e1f96da20d2d15dec64ca8df2a636058d2ecc5dabc9bf1a6a770fb3bc06", func := "gantry/gantrylaw17.ProtoUnused", spec := "protoUnused", unfollowed := true, recurses := true, apart := false }
def ProtoUnusedSaid : Prop := protoUnusedRow.holds Try.pinned (OpenSpec.ofChange protoUnusedSpec)

/-- ITS FALSE NEIGHBOUR: 'it returns false'. Refute it at one input. -/
def protoUnusedWrong : ChangeSpec := { name := "protoUnused", fn := fun _ => fun
  | [d1, d2] => { results := [.lit (.bool false)], args := [d1, d2] }
  | _ => none }
def ProtoUnusedWrongFalsely : Prop := protoUnusedRow.holds Try.pinned (OpenSpec.ofChange protoUnusedWrong)

/- THE SECOND FORM. 'bulk': how many values and letters a reading holds, each counted each time it is reached (what is shared counts as often as it is met; a slice's spare places count too). A statement '..UptoSaid' is the law's where the arguments, and the package variables that the reading takes, are together of bulk at most 1048576: NARROWER than '..Said'. Prove '..Said' where nothing that the law and all that it calls make is longer than what came in: it says more and counts as full. Else prove '..UptoSaid'. A law counts once. -/
mutual
def uptoBulk {H : Type} : DataW H → Nat
  | .lit (.string bytes) => bytes.length + 1
  | .lit _ => 1
  | .nil => 1
  | .ptr d => uptoBulk d + 1
  | .slice elems spare => uptoBulkAll elems + uptoBulkAll spare + 1
  | .agg parts => uptoBulkAll parts + 1
  | .iface _ d => uptoBulk d + 1
  | .map entries => uptoBulkEntries entries + 1
  | .held _ => 1
def uptoBulkAll {H : Type} : List (DataW H) → Nat
  | [] => 0
  | d :: r => uptoBulk d + uptoBulkAll r
def uptoBulkEntries {H : Type} : List (Lit × DataW H) → Nat
  | [] => 0
  | x :: r => uptoBulkEntry x + uptoBulkEntries r
def uptoBulkEntry {H : Type} : Lit × DataW H → Nat
  | (.string bytes, d) => bytes.length + uptoBulk d + 1
  | (_, d) => uptoBulk d + 1
 end
def uptoSmall : (H : Type) → List (DataW H) → Bool := fun _ ds => decide (uptoBulkAll ds ≤ 1048576)
def OpenSpec.upto (s : _root_.Go.ChangeSpec) : _root_.Go.OpenSpec := { _root_.Go.OpenSpec.ofChange s with cond := some uptoSmall }

/-- 'gantrylaw17.ProtoBack', WHERE WHAT IT READS IS OF BULK AT MOST 1048576: true; the input reads as it did. -/
def protoBackUptoRow : OpenClaim := { program := "ytgdaaohlongmlaa", sum := "7fad3e1f96da20d2d15dec64ca8df2a636058d2ecc5dabc9bf1a6a770fb3bc06", func := "gantry/gantrylaw17.ProtoBack", spec := "protoBack", unfollowed := true, recurses := true, apart := false, narrowed := true }
def ProtoBackUptoSaid : Prop := protoBackUptoRow.holds Try.pinned (OpenSpec.upto protoBackSpec)

/-- 'gantrylaw17.ProtoCanon', WHERE WHAT IT READS IS OF BULK AT MOST 1048576: true; the input reads as it did. -/
def protoCanonUptoRow : OpenClaim := { program := "ytgdaaohlongmlaa", sum := "7fad3e1f96da20d2d15dec64ca8df2a636058d2ecc5dabc9bf1a6a770fb3bc06", func := "gantry/gantrylaw17.ProtoCanon", spec := "protoCanon", unfollowed := true, recurses := true, apart := false, narrowed := true }
def ProtoCanonUptoSaid : Prop := protoCanonUptoRow.holds Try.pinned (OpenSpec.upto protoCanonSpec)

/-- 'gantrylaw17.ProtoUnused', WHERE WHAT IT READS IS OF BULK AT MOST 1048576: true; the input reads as it did. -/
def protoUnusedUptoRow : OpenClaim := { program := "ytgdaaohlongmlaa", sum := "7fad3e1f96da20d2d15dec64ca8df2a636058d2ecc5dabc9bf1a6a770fb3bc06", func := "gantry/gantrylaw17.ProtoUnused", spec := "protoUnused", unfollowed := true, recurses := true, apart := false, narrowed := true }
def ProtoUnusedUptoSaid : Prop := protoUnusedUptoRow.holds Try.pinned (OpenSpec.upto protoUnusedSpec)

end Rows
end Go.Proofs.Ytgdaaohlongmlaa
