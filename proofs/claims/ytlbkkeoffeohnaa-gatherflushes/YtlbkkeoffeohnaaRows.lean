/-
  No cell of these rows narrows 'for every input' (looked for: loops, veiled, ifaces, maps, wideKeys, modest, calm, conditions, laid).
  DERIVED. THE GIVEN ROWS OF THIS SEAT. 5 by the template 'for every input the law returns true; each argument reads behind the call as it read before'; 0 by the template 'total and deterministic' (their statements: YtlbkkeoffeohnaaTotals.lean).
  GIVEN WITH THE SEED: the statements are not yours to turn. If you find one false, say at which input.
  Laid BY PROGRAM, IN A SANDBOX (cutbox-rows.mjs): the forced cells as the released guide's own fill.sh prints them over the translation e24f1c20b0b86558… (all of the seat's roots in one cut). By AI agents, Wed Nov 11 2026. No macro, syntax, notation, axiom, sorry.
-/
import Derived.Test.YtlbkkeoffeohnaaChecked
import GoSem.Claim
import GoSem.ClaimJoined
import GoSem.ClaimMapViews
import Derived.JoinedTies
import Derived.KernelRfl
namespace Go.Proofs.Ytlbkkeoffeohnaa
/- THE CELL 'sum', in the pinned program and in every row, IS THE sha256 OF THE DUMP (.gsa) THAT YtlbkkeoffeohnaaProg.lean LOADS. Nothing in Lean hashes anything: it is a label: what it is worth is what the hold of that sum in a sandbox is worth. -/
noncomputable def Try.pinned : Pinned := { name := "ytlbkkeoffeohnaa", sum := "e24f1c20b0b86558a45157b515b39fac8bb09fa22f7efea2934b4efb9c5aded3", checked := Try.checked }
namespace Rows
def none {H : Type} : Left H := { results := [], args := [] }

/-- 'gantrylaw19.GatherPlays': WHATEVER THE INPUT: true; the input reads as it did. -/
def gatherPlaysSpec : ChangeSpec := { name := "gatherPlays", fn := fun _ => fun
  | [d1, d2] => { results := [.lit (.bool true)], args := [d1, d2] }
  | _ => none }
def gatherPlaysRow : OpenClaim := { program := "ytlbkkeoffeohnaa", sum := "e24f1c20b0b86558a45157b515b39fac8bb09fa22f7efea2934b4efb9c5aded3", func := "gantry/gantrylaw19.GatherPlays", spec := "gatherPlays", unfollowed := true, recurses := true, apart := false }
def GatherPlaysSaid : Prop := gatherPlaysRow.holds Try.pinned (OpenSpec.ofChange gatherPlaysSpec)

/-- ITS FALSE NEIGHBOUR: 'it returns false'. Refute it at one input. -/
def gatherPlaysWrong : ChangeSpec := { name := "gatherPlays", fn := fun _ => fun
  | [d1, d2] => { results := [.lit (.bool false)], args := [d1, d2] }
  | _ => none }
def GatherPlaysWrongFalsely : Prop := gatherPlaysRow.holds Try.pinned (OpenSpec.ofChange gatherPlaysWrong)

/-- 'gantrylaw19.GatherSplits': WHATEVER THE INPUT: true; the input reads as it did. -/
def gatherSplitsSpec : ChangeSpec := { name := "gatherSplits", fn := fun _ => fun
  | [d1, d2] => { results := [.lit (.bool true)], args := [d1, d2] }
  | _ => none }
def gatherSplitsRow : OpenClaim := { program := "ytlbkkeoffeohnaa", sum := "e24f1c20b0b86558a45157b515b39fac8bb09fa22f7efea2934b4efb9c5aded3", func := "gantry/gantrylaw19.GatherSplits", spec := "gatherSplits", unfollowed := true, recurses := true, apart := false }
def GatherSplitsSaid : Prop := gatherSplitsRow.holds Try.pinned (OpenSpec.ofChange gatherSplitsSpec)

/-- ITS FALSE NEIGHBOUR: 'it returns false'. Refute it at one input. -/
def gatherSplitsWrong : ChangeSpec := { name := "gatherSplits", fn := fun _ => fun
  | [d1, d2] => { results := [.lit (.bool false)], args := [d1, d2] }
  | _ => none }
def GatherSplitsWrongFalsely : Prop := gatherSplitsRow.holds Try.pinned (OpenSpec.ofChange gatherSplitsWrong)

/-- 'gantrylaw19.GatherMost': WHATEVER THE INPUT: true; the input reads as it did. -/
def gatherMostSpec : ChangeSpec := { name := "gatherMost", fn := fun _ => fun
  | [d1, d2] => { results := [.lit (.bool true)], args := [d1, d2] }
  | _ => none }
def gatherMostRow : OpenClaim := { program := "ytlbkkeoffeohnaa", sum := "e24f1c20b0b86558a45157b515b39fac8bb09fa22f7efea2934b4efb9c5aded3", func := "gantry/gantrylaw19.GatherMost", spec := "gatherMost", unfollowed := true, recurses := true, apart := false }
def GatherMostSaid : Prop := gatherMostRow.holds Try.pinned (OpenSpec.ofChange gatherMostSpec)

/-- ITS FALSE NEIGHBOUR: 'it returns false'. Refute it at one input. -/
def gatherMostWrong : ChangeSpec := { name := "gatherMost", fn := fun _ => fun
  | [d1, d2] => { results := [.lit (.bool false)], args := [d1, d2] }
  | _ => none }
def GatherMostWrongFalsely : Prop := gatherMostRow.holds Try.pinned (OpenSpec.ofChange gatherMostWrong)

/-- 'gantrylaw19.GatherFlushes': WHATEVER THE INPUT: true; the input reads as it did. -/
def gatherFlushesSpec : ChangeSpec := { name := "gatherFlushes", fn := fun _ => fun
  | [d1, d2] => { results := [.lit (.bool true)], args := [d1, d2] }
  | _ => none }
def gatherFlushesRow : OpenClaim := { program := "ytlbkkeoffeohnaa", sum := "e24f1c20b0b86558a45157b515b39fac8bb09fa22f7efea2934b4efb9c5aded3", func := "gantry/gantrylaw19.GatherFlushes", spec := "gatherFlushes", unfollowed := true, recurses := true, apart := false }
def GatherFlushesSaid : Prop := gatherFlushesRow.holds Try.pinned (OpenSpec.ofChange gatherFlushesSpec)

/-- ITS FALSE NEIGHBOUR: 'it returns false'. Refute it at one input. -/
def gatherFlushesWrong : ChangeSpec := { name := "gatherFlushes", fn := fun _ => fun
  | [d1, d2] => { results := [.lit (.bool false)], args := [d1, d2] }
  | _ => none }
def GatherFlushesWrongFalsely : Prop := gatherFlushesRow.holds Try.pinned (OpenSpec.ofChange gatherFlushesWrong)

/-- 'gantrylaw19.GatherKeeps': WHATEVER THE INPUT: true; the input reads as it did. -/
def gatherKeepsSpec : ChangeSpec := { name := "gatherKeeps", fn := fun _ => fun
  | [d1, d2] => { results := [.lit (.bool true)], args := [d1, d2] }
  | _ => none }
def gatherKeepsRow : OpenClaim := { program := "ytlbkkeoffeohnaa", sum := "e24f1c20b0b86558a45157b515b39fac8bb09fa22f7efea2934b4efb9c5aded3", func := "gantry/gantrylaw19.GatherKeeps", spec := "gatherKeeps", unfollowed := true, recurses := true, apart := false }
def GatherKeepsSaid : Prop := gatherKeepsRow.holds Try.pinned (OpenSpec.ofChange gatherKeepsSpec)

/-- ITS FALSE NEIGHBOUR: 'it returns false'. Refute it at one input. -/
def gatherKeepsWrong : ChangeSpec := { name := "gatherKeeps", fn := fun _ => fun
  | [d1, d2] => { results := [.lit (.bool false)], args := [d1, d2] }
  | _ => none }
def GatherKeepsWrongFalsely : Prop := gatherKeepsRow.holds Try.pinned (OpenSpec.ofChange gatherKeepsWrong)

/- THE SECOND FORM. 'bulk': how many values and letters a reading holds, each counted each time it is reached (what is shared counts as often as it is met; a slice's spare places count too). A statement '..UptoSaid' is the law's where the arguments, and the package variables that the reading takes, are together of bulk at most 1048576: NARROWER than '..Said'. Prove '..Said' where nothing that the law and all that it calls make is longer than what came in: it says more and counts as full. Else prove '..UptoSaid'. A law counts once. -/
mutual
def uptoBulk {H : Type} : DataW H → Nat
  | .lit (.string bytes) => bytes.length + 1
  | .lit _ => 1
  | .nil => 1
  | .ptr d => uptoBulk d + 1
  | .slice elems spare => uptoBulkAll elems + uptoBulkAll spare + 1
  | .agg parts => uptoBulkAll parts + 1
  | .iface _ d => uptoBulk d + 1
  | .map entries => uptoBulkEntries entries + 1
  | .held _ => 1
def uptoBulkAll {H : Type} : List (DataW H) → Nat
  | [] => 0
  | d :: r => uptoBulk d + uptoBulkAll r
def uptoBulkEntries {H : Type} : List (Lit × DataW H) → Nat
  | [] => 0
  | x :: r => uptoBulkEntry x + uptoBulkEntries r
def uptoBulkEntry {H : Type} : Lit × DataW H → Nat
  | (.string bytes, d) => bytes.length + uptoBulk d + 1
  | (_, d) => uptoBulk d + 1
 end
def uptoSmall : (H : Type) → List (DataW H) → Bool := fun _ ds => decide (uptoBulkAll ds ≤ 1048576)
def OpenSpec.upto (s : _root_.Go.ChangeSpec) : _root_.Go.OpenSpec := { _root_.Go.OpenSpec.ofChange s with cond := some uptoSmall }

/-- 'gantrylaw19.GatherPlays', WHERE WHAT IT READS IS OF BULK AT MOST 1048576: true; the input reads as it did. -/
def gatherPlaysUptoRow : OpenClaim := { program := "ytlbkkeoffeohnaa", sum := "e24f1c20b0b86558a45157b515b39fac8bb09fa22f7efea2934b4efb9c5aded3", func := "gantry/gantrylaw19.GatherPlays", spec := "gatherPlays", unfollowed := true, recurses := true, apart := false, narrowed := true }
def GatherPlaysUptoSaid : Prop := gatherPlaysUptoRow.holds Try.pinned (OpenSpec.upto gatherPlaysSpec)

/-- 'gantrylaw19.GatherSplits', WHERE WHAT IT READS IS OF BULK AT MOST 1048576: true; the input reads as it did. -/
def gatherSplitsUptoRow : OpenClaim := { program := "ytlbkkeoffeohnaa", sum := "e24f1c20b0b86558a45157b515b39fac8bb09fa22f7efea2934b4efb9c5aded3", func := "gantry/gantrylaw19.GatherSplits", spec := "gatherSplits", unfollowed := true, recurses := true, apart := false, narrowed := true }
def GatherSplitsUptoSaid : Prop := gatherSplitsUptoRow.holds Try.pinned (OpenSpec.upto gatherSplitsSpec)

/-- 'gantrylaw19.GatherMost', WHERE WHAT IT READS IS OF BULK AT MOST 1048576: true; the input reads as it did. -/
def gatherMostUptoRow : OpenClaim := { program := "ytlbkkeoffeohnaa", sum := "e24f1c20b0b86558a45157b515b39fac8bb09fa22f7efea2934b4efb9c5aded3", func := "gantry/gantrylaw19.GatherMost", spec := "gatherMost", unfollowed := true, recurses := true, apart := false, narrowed := true }
def GatherMostUptoSaid : Prop := gatherMostUptoRow.holds Try.pinned (OpenSpec.upto gatherMostSpec)

/-- 'gantrylaw19.GatherFlushes', WHERE WHAT IT READS IS OF BULK AT MOST 1048576: true; the input reads as it did. -/
def gatherFlushesUptoRow : OpenClaim := { program := "ytlbkkeoffeohnaa", sum := "e24f1c20b0b86558a45157b515b39fac8bb09fa22f7efea2934b4efb9c5aded3", func := "gantry/gantrylaw19.GatherFlushes", spec := "gatherFlushes", unfollowed := true, recurses := true, apart := false, narrowed := true }
def GatherFlushesUptoSaid : Prop := gatherFlushesUptoRow.holds Try.pinned (OpenSpec.upto gatherFlushesSpec)

/-- 'gantrylaw19.GatherKeeps', WHERE WHAT IT READS IS OF BULK AT MOST 1048576: true; the input reads as it did. -/
def gatherKeepsUptoRow : OpenClaim := { program := "ytlbkkeoffeohnaa", sum := "e24f1c20b0b86558a45157b515b39fac8bb09fa22f7efea2934b4efb9c5aded3", func := "gantry/gantrylaw19.GatherKeeps", spec := "gatherKeeps", unfollowed := true, recurses := true, apart := false, narrowed := true }
def GatherKeepsUptoSaid : Prop := gatherKeepsUptoRow.holds Try.pinned (OpenSpec.upto gatherKeepsSpec)

end Rows
end Go.Proofs.Ytlbkkeoffeohnaa
