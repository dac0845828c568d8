/-
  No cell of these rows narrows 'for every input' (looked for: loops, veiled, ifaces, maps, wideKeys, modest, calm, conditions, laid).
  DERIVED. THE GIVEN ROWS OF THIS SEAT. 4 by the template 'for every input the law returns true; each argument reads behind the call as it read before'; 0 by the template 'total and deterministic' (their statements: YtajmcnlbkdfloabGreatTotals.lean).
  GIVEN WITH THE SEED: the statements are not yours to turn. If you find one false, say at which input.
  Laid BY PROGRAM, IN A SANDBOX (cutbox-rows.mjs): the forced cells as the released guide's own fill.sh prints them over the translation 5d72351efef2cf27… (all of the seat's roots in one cut). By AI agents, Wed Nov 11 2026. No macro, syntax, notation, axiom, sorry.
-/
import Derived.Test.YtajmcnlbkdfloabGreatChecked
import GoSem.Claim
import GoSem.ClaimJoined
import GoSem.ClaimMapViews
import Derived.JoinedTies
import Derived.KernelRfl
namespace Go.Proofs.YtajmcnlbkdfloabGreat
/- THE CELL 'sum', in the pinned program and in every row, IS THE sha256 OF THE DUMP (.gsa) THAT YtajmcnlbkdfloabGreatProg.lean LOADS. Nothing in Lean hashes anything: it is a label: what it is worth is what the hold of that sum in a sandbox is worth. -/
noncomputable def Tryz.pinned : Pinned := { name := "ytajmcnlbkdfloabgreat", sum := "5d72351efef2cf27541b39406f917b33ec4711005b061accb8c34c1a65442d08", checked := Tryz.checked }
namespace Rows
def none {H : Type} : Left H := { results := [], args := [] }

/-- 'gantrylaw06.BatchTurns': WHATEVER THE INPUT: true; the input reads as it did. -/
def batchTurnsSpec : ChangeSpec := { name := "batchTurns", fn := fun _ => fun
  | [d1, d2, d3] => { results := [.lit (.bool true)], args := [d1, d2, d3] }
  | _ => none }
def batchTurnsRow : OpenClaim := { program := "ytajmcnlbkdfloabgreat", sum := "5d72351efef2cf27541b39406f917b33ec4711005b061accb8c34c1a65442d08", func := "gantry/gantrylaw06.BatchTurns", spec := "batchTurns", unfollowed := true, recurses := true, apart := false }
def BatchTurnsSaid : Prop := batchTurnsRow.holds Tryz.pinned (OpenSpec.ofChange batchTurnsSpec)

/-- ITS FALSE NEIGHBOUR: 'it returns false'. Refute it at one input. -/
def batchTurnsWrong : ChangeSpec := { name := "batchTurns", fn := fun _ => fun
  | [d1, d2, d3] => { results := [.lit (.bool false)], args := [d1, d2, d3] }
  | _ => none }
def BatchTurnsWrongFalsely : Prop := batchTurnsRow.holds Tryz.pinned (OpenSpec.ofChange batchTurnsWrong)

/-- 'gantrylaw06.BatchLimits': WHATEVER THE INPUT: true; the input reads as it did. -/
def batchLimitsSpec : ChangeSpec := { name := "batchLimits", fn := fun _ => fun
  | [d] => { results := [.lit (.bool true)], args := [d] }
  | _ => none }
def batchLimitsRow : OpenClaim := { program := "ytajmcnlbkdfloabgreat", sum := "5d72351efef2cf27541b39406f917b33ec4711005b061accb8c34c1a65442d08", func := "gantry/gantrylaw06.BatchLimits", spec := "batchLimits", unfollowed := true, recurses := true, apart := false }
def BatchLimitsSaid : Prop := batchLimitsRow.holds Tryz.pinned (OpenSpec.ofChange batchLimitsSpec)

/-- ITS FALSE NEIGHBOUR: 'it returns false'. Refute it at one input. -/
def batchLimitsWrong : ChangeSpec := { name := "batchLimits", fn := fun _ => fun
  | [d] => { results := [.lit (.bool false)], args := [d] }
  | _ => none }
def BatchLimitsWrongFalsely : Prop := batchLimitsRow.holds Tryz.pinned (OpenSpec.ofChange batchLimitsWrong)

/-- 'gantrylaw06.BatchMoves': WHATEVER THE INPUT: true; the input reads as it did. -/
def batchMovesSpec : ChangeSpec := { name := "batchMoves", fn := fun _ => fun
  | [d1, d2] => { results := [.lit (.bool true)], args := [d1, d2] }
  | _ => none }
def batchMovesRow : OpenClaim := { program := "ytajmcnlbkdfloabgreat", sum := "5d72351efef2cf27541b39406f917b33ec4711005b061accb8c34c1a65442d08", func := "gantry/gantrylaw06.BatchMoves", spec := "batchMoves", unfollowed := true, recurses := true, apart := false }
def BatchMovesSaid : Prop := batchMovesRow.holds Tryz.pinned (OpenSpec.ofChange batchMovesSpec)

/-- ITS FALSE NEIGHBOUR: 'it returns false'. Refute it at one input. -/
def batchMovesWrong : ChangeSpec := { name := "batchMoves", fn := fun _ => fun
  | [d1, d2] => { results := [.lit (.bool false)], args := [d1, d2] }
  | _ => none }
def BatchMovesWrongFalsely : Prop := batchMovesRow.holds Tryz.pinned (OpenSpec.ofChange batchMovesWrong)

/-- 'gantrylaw06.BatchKeeps': WHATEVER THE INPUT: true; the input reads as it did. -/
def batchKeepsSpec : ChangeSpec := { name := "batchKeeps", fn := fun _ => fun
  | [d] => { results := [.lit (.bool true)], args := [d] }
  | _ => none }
def batchKeepsRow : OpenClaim := { program := "ytajmcnlbkdfloabgreat", sum := "5d72351efef2cf27541b39406f917b33ec4711005b061accb8c34c1a65442d08", func := "gantry/gantrylaw06.BatchKeeps", spec := "batchKeeps", unfollowed := true, recurses := true, apart := false }
def BatchKeepsSaid : Prop := batchKeepsRow.holds Tryz.pinned (OpenSpec.ofChange batchKeepsSpec)

/-- ITS FALSE NEIGHBOUR: 'it returns false'. Refute it at one input. -/
def batchKeepsWrong : ChangeSpec := { name := "batchKeeps", fn := fun _ => fun
  | [d] => { results := [.lit (.bool false)], args := [d] }
  | _ => none }
def BatchKeepsWrongFalsely : Prop := batchKeepsRow.holds Tryz.pinned (OpenSpec.ofChange batchKeepsWrong)

/- THE SECOND FORM. 'bulk': how many values and letters a reading holds, each counted each time it is reached (what is shared counts as often as it is met; a slice's spare places count too). A statement '..UptoSaid' is the law's where the arguments, and the package variables that the reading takes, are together of bulk at most 1048576: NARROWER than '..Said'. Prove '..Said' where nothing that the law and all that it calls make is longer than what came in: it says more and counts as full. Else prove '..UptoSaid'. A law counts once. -/
mutual
def uptoBulk {H : Type} : DataW H → Nat
  | .lit (.string bytes) => bytes.length + 1
  | .lit _ => 1
  | .nil => 1
  | .ptr d => uptoBulk d + 1
  | .slice elems spare => uptoBulkAll elems + uptoBulkAll spare + 1
  | .agg parts => uptoBulkAll parts + 1
  | .iface _ d => uptoBulk d + 1
  | .map entries => uptoBulkEntries entries + 1
  | .held _ => 1
def uptoBulkAll {H : Type} : List (DataW H) → Nat
  | [] => 0
  | d :: r => uptoBulk d + uptoBulkAll r
def uptoBulkEntries {H : Type} : List (Lit × DataW H) → Nat
  | [] => 0
  | x :: r => uptoBulkEntry x + uptoBulkEntries r
def uptoBulkEntry {H : Type} : Lit × DataW H → Nat
  | (.string bytes, d) => bytes.length + uptoBulk d + 1
  | (_, d) => uptoBulk d + 1
 end
def uptoSmall : (H : Type) → List (DataW H) → Bool := fun _ ds => decide (uptoBulkAll ds ≤ 1048576)
def OpenSpec.upto (s : _root_.Go.ChangeSpec) : _root_.Go.OpenSpec := { _root_.Go.OpenSpec.ofChange s with cond := some uptoSmall }

/-- 'gantrylaw06.BatchTurns', WHERE WHAT IT READS IS OF BULK AT MOST 1048576: true; the input reads as it did. -/
def batchTurnsUptoRow : OpenClaim := { program := "ytajmcnlbkdfloabgreat", sum := "5d72351efef2cf27541b39406f917b33ec4711005b061accb8c34c1a65442d08", func := "gantry/gantrylaw06.BatchTurns", spec := "batchTurns", unfollowed := true, recurses := true, apart := false, narrowed := true }
def BatchTurnsUptoSaid : Prop := batchTurnsUptoRow.holds Tryz.pinned (OpenSpec.upto batchTurnsSpec)

/-- 'gantrylaw06.BatchLimits', WHERE WHAT IT READS IS OF BULK AT MOST 1048576: true; the input reads as it did. -/
def batchLimitsUptoRow : OpenClaim := { program := "ytajmcnlbkdfloabgreat", sum := "5d72351efef2cf27541b39406f917b33ec4711005b061accb8c34c1a65442d08", func := "gantry/gantrylaw06.BatchLimits", spec := "batchLimits", unfollowed := true, recurses := true, apart := false, narrowed := true }
def BatchLimitsUptoSaid : Prop := batchLimitsUptoRow.holds Tryz.pinned (OpenSpec.upto batchLimitsSpec)

/-- 'gantrylaw06.BatchMoves', WHERE WHAT IT READS IS OF BULK AT MOST 1048576: true; the input reads as it did. -/
def batchMovesUptoRow : OpenClaim := { program := "ytajmcnlbkdfloabgreat", sum := "5d72351efef2cf27541b39406f917b33ec4711005b061accb8c34c1a65442d08", func := "gantry/gantrylaw06.BatchMoves", spec := "batchMoves", unfollowed := true, recurses := true, apart := false, narrowed := true }
def BatchMovesUptoSaid : Prop := batchMovesUptoRow.holds Tryz.pinned (OpenSpec.upto batchMovesSpec)

/-- 'gantrylaw06.BatchKeeps', WHERE WHAT IT READS IS OF BULK AT MOST 1048576: true; the input reads as it did. -/
def batchKeepsUptoRow : OpenClaim := { program := "ytajmcnlbkdfloabgreat", sum := "5d72351efef2cf27541b39406f917b33ec4711005b061accb8c34c1a65442d08", func := "gantry/gantrylaw06.BatchKeeps", spec := "batchKeeps", unfollowed := true, recurses := true, apart := false, narrowed := true }
def BatchKeepsUptoSaid : Prop := batchKeepsUptoRow.holds Tryz.pinned (OpenSpec.upto batchKeepsSpec)

end Rows
end Go.Proofs.YtajmcnlbkdfloabGreat
