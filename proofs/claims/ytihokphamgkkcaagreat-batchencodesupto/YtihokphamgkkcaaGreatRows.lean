/-
  No cell of these rows narrows 'for every input' (looked for: loops, veiled, ifaces, maps, wideKeys, modest, calm, conditions, laid).
  DERIVED. THE GIVEN ROWS OF THIS SEAT. 5 by the template 'for every input the law returns true; each argument reads behind the call as it read before'; 0 by the template 'total and deterministic' (their statements: YtihokphamgkkcaaGreatTotals.lean).
  GIVEN WITH THE SEED: the statements are not yours to turn. If you find one false, say at which input.
  Laid BY PROGRAM, IN A SANDBOX (cutbox-rows.mjs): the forced cells as the released guide's own fill.sh prints them over the translation 5e87ac2692bfd3b9… (all of the seat's roots in one cut). By AI agents, Wed Nov 11 2026. No macro, syntax, notation, axiom, sorry.
-/
import Derived.Test.YtihokphamgkkcaaGreatChecked
import GoSem.Claim
import GoSem.ClaimJoined
import GoSem.ClaimMapViews
import Derived.JoinedTies
import Derived.KernelRfl
namespace Go.Proofs.YtihokphamgkkcaaGreat
/- THE CELL 'sum', in the pinned program and in every row, IS THE sha256 OF THE DUMP (.gsa) THAT YtihokphamgkkcaaGreatProg.lean LOADS. Nothing in Lean hashes anything: it is a label: what it is worth is what the hold of that sum in a sandbox is worth. -/
noncomputable def Tryz.pinned : Pinned := { name := "ytihokphamgkkcaagreat", sum := "5e87ac2692bfd3b9335dcbc77e783ad4f3cc5852874c0961906114aa87eacde9", checked := Tryz.checked }
namespace Rows
def none {H : Type} : Left H := { results := [], args := [] }

/-- 'gantrylaw06.BatchEncodes': WHATEVER THE INPUT: true; the input reads as it did. -/
def batchEncodesSpec : ChangeSpec := { name := "batchEncodes", fn := fun _ => fun
  | [d] => { results := [.lit (.bool true)], args := [d] }
  | _ => none }
def batchEncodesRow : OpenClaim := { program := "ytihokphamgkkcaagreat", sum := "5e87ac2692bfd3b9335dcbc77e783ad4f3cc5852874c0961906114aa87eacde9", func := "gantry/gantrylaw06.BatchEncodes", spec := "batchEncodes", unfollowed := true, recurses := true, apart := false }
def BatchEncodesSaid : Prop := batchEncodesRow.holds Tryz.pinned (OpenSpec.ofChange batchEncodesSpec)

/-- ITS FALSE NEIGHBOUR: 'it returns false'. Refute it at one input. -/
def batchEncodesWrong : ChangeSpec := { name := "batchEncodes", fn := fun _ => fun
  | [d] => { results := [.lit (.bool false)], args := [d] }
  | _ => none }
def BatchEncodesWrongFalsely : Prop := batchEncodesRow.holds Tryz.pinned (OpenSpec.ofChange batchEncodesWrong)

/-- 'gantrylaw06.BatchChecks': WHATEVER THE INPUT: true; the input reads as it did. -/
def batchChecksSpec : ChangeSpec := { name := "batchChecks", fn := fun _ => fun
  | [d1, d2] => { results := [.lit (.bool true)], args := [d1, d2] }
  | _ => none }
def batchChecksRow : OpenClaim := { program := "ytihokphamgkkcaagreat", sum := "5e87ac2692bfd3b9335dcbc77e783ad4f3cc5852874c0961906114aa87eacde9", func := "gantry/gantrylaw06.BatchChecks", spec := "batchChecks", unfollowed := true, recurses := true, apart := false }
def BatchChecksSaid : Prop := batchChecksRow.holds Tryz.pinned (OpenSpec.ofChange batchChecksSpec)

/-- ITS FALSE NEIGHBOUR: 'it returns false'. Refute it at one input. -/
def batchChecksWrong : ChangeSpec := { name := "batchChecks", fn := fun _ => fun
  | [d1, d2] => { results := [.lit (.bool false)], args := [d1, d2] }
  | _ => none }
def BatchChecksWrongFalsely : Prop := batchChecksRow.holds Tryz.pinned (OpenSpec.ofChange batchChecksWrong)

/-- 'gantrylaw06.BatchSames': WHATEVER THE INPUT: true; the input reads as it did. -/
def batchSamesSpec : ChangeSpec := { name := "batchSames", fn := fun _ => fun
  | [d1, d2] => { results := [.lit (.bool true)], args := [d1, d2] }
  | _ => none }
def batchSamesRow : OpenClaim := { program := "ytihokphamgkkcaagreat", sum := "5e87ac2692bfd3b9335dcbc77e783ad4f3cc5852874c0961906114aa87eacde9", func := "gantry/gantrylaw06.BatchSames", spec := "batchSames", unfollowed := true, recurses := true, apart := false }
def BatchSamesSaid : Prop := batchSamesRow.holds Tryz.pinned (OpenSpec.ofChange batchSamesSpec)

/-- ITS FALSE NEIGHBOUR: 'it returns false'. Refute it at one input. -/
def batchSamesWrong : ChangeSpec := { name := "batchSames", fn := fun _ => fun
  | [d1, d2] => { results := [.lit (.bool false)], args := [d1, d2] }
  | _ => none }
def BatchSamesWrongFalsely : Prop := batchSamesRow.holds Tryz.pinned (OpenSpec.ofChange batchSamesWrong)

/-- 'gantrylaw06.BatchTurns': WHATEVER THE INPUT: true; the input reads as it did. -/
def batchTurnsSpec : ChangeSpec := { name := "batchTurns", fn := fun _ => fun
  | [d1, d2, d3] => { results := [.lit (.bool true)], args := [d1, d2, d3] }
  | _ => none }
def batchTurnsRow : OpenClaim := { program := "ytihokphamgkkcaagreat", sum := "5e87ac2692bfd3b9335dcbc77e783ad4f3cc5852874c0961906114aa87eacde9", func := "gantry/gantrylaw06.BatchTurns", spec := "batchTurns", unfollowed := true, recurses := true, apart := false }
def BatchTurnsSaid : Prop := batchTurnsRow.holds Tryz.pinned (OpenSpec.ofChange batchTurnsSpec)

/-- ITS FALSE NEIGHBOUR: 'it returns false'. Refute it at one input. -/
def batchTurnsWrong : ChangeSpec := { name := "batchTurns", fn := fun _ => fun
  | [d1, d2, d3] => { results := [.lit (.bool false)], args := [d1, d2, d3] }
  | _ => none }
def BatchTurnsWrongFalsely : Prop := batchTurnsRow.holds Tryz.pinned (OpenSpec.ofChange batchTurnsWrong)

/-- 'gantrylaw06.BatchKeeps': WHATEVER THE INPUT: true; the input reads as it did. -/
def batchKeepsSpec : ChangeSpec := { name := "batchKeeps", fn := fun _ => fun
  | [d] => { results := [.lit (.bool true)], args := [d] }
  | _ => none }
def batchKeepsRow : OpenClaim := { program := "ytihokphamgkkcaagreat", sum := "5e87ac2692bfd3b9335dcbc77e783ad4f3cc5852874c0961906114aa87eacde9", func := "gantry/gantrylaw06.BatchKeeps", spec := "batchKeeps", unfollowed := true, recurses := true, apart := false }
def BatchKeepsSaid : Prop := batchKeepsRow.holds Tryz.pinned (OpenSpec.ofChange batchKeepsSpec)

/-- ITS FALSE NEIGHBOUR: 'it returns false'. Refute it at one input. -/
def batchKeepsWrong : ChangeSpec := { name := "batchKeeps", fn := fun _ => fun
  | [d] => { results := [.lit (.bool false)], args := [d] }
  | _ => none }
def BatchKeepsWrongFalsely : Prop := batchKeepsRow.holds Tryz.pinned (OpenSpec.ofChange batchKeepsWrong)

/- THE SECOND FORM. 'bulk': how many values and letters a reading holds, each counted each time it is reached (what is shared counts as often as it is met; a slice's spare places count too). A statement '..UptoSaid' is the law's where the arguments, and the package variables that the reading takes, are together of bulk at most 1048576: NARROWER than '..Said'. Prove '..Said' where nothing that the law and all that it calls make is longer than what came in: it says more and counts as full. Else prove '..UptoSaid'. A law counts once. -/
mutual
def uptoBulk {H : Type} : DataW H → Nat
  | .lit (.string bytes) => bytes.length + 1
  | .lit _ => 1
  | .nil => 1
  | .ptr d => uptoBulk d + 1
  | .slice elems spare => uptoBulkAll elems + uptoBulkAll spare + 1
  | .agg parts => uptoBulkAll parts + 1
  | .iface _ d => uptoBulk d + 1
  | .map entries => uptoBulkEntries entries + 1
  | .held _ => 1
def uptoBulkAll {H : Type} : List (DataW H) → Nat
  | [] => 0
  | d :: r => uptoBulk d + uptoBulkAll r
def uptoBulkEntries {H : Type} : List (Lit × DataW H) → Nat
  | [] => 0
  | x :: r => uptoBulkEntry x + uptoBulkEntries r
def uptoBulkEntry {H : Type} : Lit × DataW H → Nat
  | (.string bytes, d) => bytes.length + uptoBulk d + 1
  | (_, d) => uptoBulk d + 1
 end
def uptoSmall : (H : Type) → List (DataW H) → Bool := fun _ ds => decide (uptoBulkAll ds ≤ 1048576)
def OpenSpec.upto (s : _root_.Go.ChangeSpec) : _root_.Go.OpenSpec := { _root_.Go.OpenSpec.ofChange s with cond := some uptoSmall }

/-- 'gantrylaw06.BatchEncodes', WHERE WHAT IT READS IS OF BULK AT MOST 1048576: true; the input reads as it did. -/
def batchEncodesUptoRow : OpenClaim := { program := "ytihokphamgkkcaagreat", sum := "5e87ac2692bfd3b9335dcbc77e783ad4f3cc5852874c0961906114aa87eacde9", func := "gantry/gantrylaw06.BatchEncodes", spec := "batchEncodes", unfollowed := true, recurses := true, apart := false, narrowed := true }
def BatchEncodesUptoSaid : Prop := batchEncodesUptoRow.holds Tryz.pinned (OpenSpec.upto batchEncodesSpec)

/-- 'gantrylaw06.BatchChecks', WHERE WHAT IT READS IS OF BULK AT MOST 1048576: true; the input reads as it did. -/
def batchChecksUptoRow : OpenClaim := { program := "ytihokphamgkkcaagreat", sum := "5e87ac2692bfd3b9335dcbc77e783ad4f3cc5852874c0961906114aa87eacde9", func := "gantry/gantrylaw06.BatchChecks", spec := "batchChecks", unfollowed := true, recurses := true, apart := false, narrowed := true }
def BatchChecksUptoSaid : Prop := batchChecksUptoRow.holds Tryz.pinned (OpenSpec.upto batchChecksSpec)

/-- 'gantrylaw06.BatchSames', WHERE WHAT IT READS IS OF BULK AT MOST 1048576: true; the input reads as it did. -/
def batchSamesUptoRow : OpenClaim := { program := "ytihokphamgkkcaagreat", sum := "5e87ac2692bfd3b9335dcbc77e783ad4f3cc5852874c0961906114aa87eacde9", func := "gantry/gantrylaw06.BatchSames", spec := "batchSames", unfollowed := true, recurses := true, apart := false, narrowed := true }
def BatchSamesUptoSaid : Prop := batchSamesUptoRow.holds Tryz.pinned (OpenSpec.upto batchSamesSpec)

/-- 'gantrylaw06.BatchTurns', WHERE WHAT IT READS IS OF BULK AT MOST 1048576: true; the input reads as it did. -/
def batchTurnsUptoRow : OpenClaim := { program := "ytihokphamgkkcaagreat", sum := "5e87ac2692bfd3b9335dcbc77e783ad4f3cc5852874c0961906114aa87eacde9", func := "gantry/gantrylaw06.BatchTurns", spec := "batchTurns", unfollowed := true, recurses := true, apart := false, narrowed := true }
def BatchTurnsUptoSaid : Prop := batchTurnsUptoRow.holds Tryz.pinned (OpenSpec.upto batchTurnsSpec)

/-- 'gantrylaw06.BatchKeeps', WHERE WHAT IT READS IS OF BULK AT MOST 1048576: true; the input reads as it did. -/
def batchKeepsUptoRow : OpenClaim := { program := "ytihokphamgkkcaagreat", sum := "5e87ac2692bfd3b9335dcbc77e783ad4f3cc5852874c0961906114aa87eacde9", func := "gantry/gantrylaw06.BatchKeeps", spec := "batchKeeps", unfollowed := true, recurses := true, apart := false, narrowed := true }
def BatchKeepsUptoSaid : Prop := batchKeepsUptoRow.holds Tryz.pinned (OpenSpec.upto batchKeepsSpec)

end Rows
end Go.Proofs.YtihokphamgkkcaaGreat
