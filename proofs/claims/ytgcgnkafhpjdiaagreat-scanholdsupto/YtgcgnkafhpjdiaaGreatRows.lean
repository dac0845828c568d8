/-
  No cell of these rows narrows 'for every input' (looked for: loops, veiled, ifaces, maps, wideKeys, modest, calm, conditions, laid).
  DERIVED. THE GIVEN ROWS OF THIS SEAT. 6 by the template 'for every input the law returns true; each argument reads behind the call as it read before'; 0 by the template 'total and deterministic' (their statements: YtgcgnkafhpjdiaaGreatTotals.lean).
  GIVEN WITH THE SEED: the statements are not yours to turn. If you find one false, say at which input.
  Laid BY PROGRAM, IN A SANDBOX (cutbox-rows.mjs): the forced cells as the released guide's own fill.sh prints them over the translation 76872ce2ddbfce2d… (all of the seat's roots in one cut). By AI agents, Wed Nov 11 2026. No macro, syntax, notation, axiom, sorry.
-/
import Derived.Test.YtgcgnkafhpjdiaaGreatChecked
import GoSem.Claim
import GoSem.ClaimJoined
import GoSem.ClaimMapViews
import Derived.JoinedTies
import Derived.KernelRfl
namespace Go.Proofs.YtgcgnkafhpjdiaaGreat
/- THE CELL 'sum', in the pinned program and in every row, IS THE sha256 OF THE DUMP (.gsa) THAT YtgcgnkafhpjdiaaGreatProg.lean LOADS. Nothing in Lean hashes anything: it is a label: what it is worth is what the hold of that sum in a sandbox is worth. -/
noncomputable def Tryz.pinned : Pinned := { name := "ytgcgnkafhpjdiaagreat", sum := "76872ce2ddbfce2d4670d7cff5e18b7efa4e6a1d6c95331594ccaad98315b15c", checked := Tryz.checked }
namespace Rows
def none {H : Type} : Left H := { results := [], args := [] }

/-- 'gantrylaw12.ScanAlls': WHATEVER THE INPUT: true; the input reads as it did. -/
def scanAllsSpec : ChangeSpec := { name := "scanAlls", fn := fun _ => fun
  | [d] => { results := [.lit (.bool true)], args := [d] }
  | _ => none }
def scanAllsRow : OpenClaim := { program := "ytgcgnkafhpjdiaagreat", sum := "76872ce2ddbfce2d4670d7cff5e18b7efa4e6a1d6c95331594ccaad98315b15c", func := "gantry/gantrylaw12.ScanAlls", spec := "scanAlls", unfollowed := true, recurses := true, apart := false }
def ScanAllsSaid : Prop := scanAllsRow.holds Tryz.pinned (OpenSpec.ofChange scanAllsSpec)

/-- ITS FALSE NEIGHBOUR: 'it returns false'. Refute it at one input. -/
def scanAllsWrong : ChangeSpec := { name := "scanAlls", fn := fun _ => fun
  | [d] => { results := [.lit (.bool false)], args := [d] }
  | _ => none }
def ScanAllsWrongFalsely : Prop := scanAllsRow.holds Tryz.pinned (OpenSpec.ofChange scanAllsWrong)

/-- 'gantrylaw12.ScanWalks': WHATEVER THE INPUT: true; the input reads as it did. -/
def scanWalksSpec : ChangeSpec := { name := "scanWalks", fn := fun _ => fun
  | [d1, d2] => { results := [.lit (.bool true)], args := [d1, d2] }
  | _ => none }
def scanWalksRow : OpenClaim := { program := "ytgcgnkafhpjdiaagreat", sum := "76872ce2ddbfce2d4670d7cff5e18b7efa4e6a1d6c95331594ccaad98315b15c", func := "gantry/gantrylaw12.ScanWalks", spec := "scanWalks", unfollowed := true, recurses := true, apart := false }
def ScanWalksSaid : Prop := scanWalksRow.holds Tryz.pinned (OpenSpec.ofChange scanWalksSpec)

/-- ITS FALSE NEIGHBOUR: 'it returns false'. Refute it at one input. -/
def scanWalksWrong : ChangeSpec := { name := "scanWalks", fn := fun _ => fun
  | [d1, d2] => { results := [.lit (.bool false)], args := [d1, d2] }
  | _ => none }
def ScanWalksWrongFalsely : Prop := scanWalksRow.holds Tryz.pinned (OpenSpec.ofChange scanWalksWrong)

/-- 'gantrylaw12.ScanFiles': WHATEVER THE INPUT: true; the input reads as it did. -/
def scanFilesSpec : ChangeSpec := { name := "scanFiles", fn := fun _ => fun
  | [d1, d2] => { results := [.lit (.bool true)], args := [d1, d2] }
  | _ => none }
def scanFilesRow : OpenClaim := { program := "ytgcgnkafhpjdiaagreat", sum := "76872ce2ddbfce2d4670d7cff5e18b7efa4e6a1d6c95331594ccaad98315b15c", func := "gantry/gantrylaw12.ScanFiles", spec := "scanFiles", unfollowed := true, recurses := true, apart := false }
def ScanFilesSaid : Prop := scanFilesRow.holds Tryz.pinned (OpenSpec.ofChange scanFilesSpec)

/-- ITS FALSE NEIGHBOUR: 'it returns false'. Refute it at one input. -/
def scanFilesWrong : ChangeSpec := { name := "scanFiles", fn := fun _ => fun
  | [d1, d2] => { results := [.lit (.bool false)], args := [d1, d2] }
  | _ => none }
def ScanFilesWrongFalsely : Prop := scanFilesRow.holds Tryz.pinned (OpenSpec.ofChange scanFilesWrong)

/-- 'gantrylaw12.ScanHolds': WHATEVER THE INPUT: true; the input reads as it did. -/
def scanHoldsSpec : ChangeSpec := { name := "scanHolds", fn := fun _ => fun
  | [d1, d2] => { results := [.lit (.bool true)], args := [d1, d2] }
  | _ => none }
def scanHoldsRow : OpenClaim := { program := "ytgcgnkafhpjdiaagreat", sum := "76872ce2ddbfce2d4670d7cff5e18b7efa4e6a1d6c95331594ccaad98315b15c", func := "gantry/gantrylaw12.ScanHolds", spec := "scanHolds", unfollowed := true, recurses := true, apart := false }
def ScanHoldsSaid : Prop := scanHoldsRow.holds Tryz.pinned (OpenSpec.ofChange scanHoldsSpec)

/-- ITS FALSE NEIGHBOUR: 'it returns false'. Refute it at one input. -/
def scanHoldsWrong : ChangeSpec := { name := "scanHolds", fn := fun _ => fun
  | [d1, d2] => { results := [.lit (.bool false)], args := [d1, d2] }
  | _ => none }
def ScanHoldsWrongFalsely : Prop := scanHoldsRow.holds Tryz.pinned (OpenSpec.ofChange scanHoldsWrong)

/-- 'gantrylaw12.ScanRuns': WHATEVER THE INPUT: true; the input reads as it did. -/
def scanRunsSpec : ChangeSpec := { name := "scanRuns", fn := fun _ => fun
  | [d1, d2, d3] => { results := [.lit (.bool true)], args := [d1, d2, d3] }
  | _ => none }
def scanRunsRow : OpenClaim := { program := "ytgcgnkafhpjdiaagreat", sum := "76872ce2ddbfce2d4670d7cff5e18b7efa4e6a1d6c95331594ccaad98315b15c", func := "gantry/gantrylaw12.ScanRuns", spec := "scanRuns", unfollowed := true, recurses := true, apart := false }
def ScanRunsSaid : Prop := scanRunsRow.holds Tryz.pinned (OpenSpec.ofChange scanRunsSpec)

/-- ITS FALSE NEIGHBOUR: 'it returns false'. Refute it at one input. -/
def scanRunsWrong : ChangeSpec := { name := "scanRuns", fn := fun _ => fun
  | [d1, d2, d3] => { results := [.lit (.bool false)], args := [d1, d2, d3] }
  | _ => none }
def ScanRunsWrongFalsely : Prop := scanRunsRow.holds Tryz.pinned (OpenSpec.ofChange scanRunsWrong)

/-- 'gantrylaw12.ScanCuts': WHATEVER THE INPUT: true; the input reads as it did. -/
def scanCutsSpec : ChangeSpec := { name := "scanCuts", fn := fun _ => fun
  | [d1, d2] => { results := [.lit (.bool true)], args := [d1, d2] }
  | _ => none }
def scanCutsRow : OpenClaim := { program := "ytgcgnkafhpjdiaagreat", sum := "76872ce2ddbfce2d4670d7cff5e18b7efa4e6a1d6c95331594ccaad98315b15c", func := "gantry/gantrylaw12.ScanCuts", spec := "scanCuts", unfollowed := true, recurses := true, apart := false }
def ScanCutsSaid : Prop := scanCutsRow.holds Tryz.pinned (OpenSpec.ofChange scanCutsSpec)

/-- ITS FALSE NEIGHBOUR: 'it returns false'. Refute it at one input. -/
def scanCutsWrong : ChangeSpec := { name := "scanCuts", fn := fun _ => fun
  | [d1, d2] => { results := [.lit (.bool false)], args := [d1, d2] }
  | _ => none }
def ScanCutsWrongFalsely : Prop := scanCutsRow.holds Tryz.pinned (OpenSpec.ofChange scanCutsWrong)

/- THE SECOND FORM. 'bulk': how many values and letters a reading holds, each counted each time it is reached (what is shared counts as often as it is met; a slice's spare places count too). A statement '..UptoSaid' is the law's where the arguments, and the package variables that the reading takes, are together of bulk at most 1048576: NARROWER than '..Said'. Prove '..Said' where nothing that the law and all that it calls make is longer than what came in: it says more and counts as full. Else prove '..UptoSaid'. A law counts once. -/
mutual
def uptoBulk {H : Type} : DataW H → Nat
  | .lit (.string bytes) => bytes.length + 1
  | .lit _ => 1
  | .nil => 1
  | .ptr d => uptoBulk d + 1
  | .slice elems spare => uptoBulkAll elems + uptoBulkAll spare + 1
  | .agg parts => uptoBulkAll parts + 1
  | .iface _ d => uptoBulk d + 1
  | .map entries => uptoBulkEntries entries + 1
  | .held _ => 1
def uptoBulkAll {H : Type} : List (DataW H) → Nat
  | [] => 0
  | d :: r => uptoBulk d + uptoBulkAll r
def uptoBulkEntries {H : Type} : List (Lit × DataW H) → Nat
  | [] => 0
  | x :: r => uptoBulkEntry x + uptoBulkEntries r
def uptoBulkEntry {H : Type} : Lit × DataW H → Nat
  | (.string bytes, d) => bytes.length + uptoBulk d + 1
  | (_, d) => uptoBulk d + 1
 end
def uptoSmall : (H : Type) → List (DataW H) → Bool := fun _ ds => decide (uptoBulkAll ds ≤ 1048576)
def OpenSpec.upto (s : _root_.Go.ChangeSpec) : _root_.Go.OpenSpec := { _root_.Go.OpenSpec.ofChange s with cond := some uptoSmall }

/-- 'gantrylaw12.ScanAlls', WHERE WHAT IT READS IS OF BULK AT MOST 1048576: true; the input reads as it did. -/
def scanAllsUptoRow : OpenClaim := { program := "ytgcgnkafhpjdiaagreat", sum := "76872ce2ddbfce2d4670d7cff5e18b7efa4e6a1d6c95331594ccaad98315b15c", func := "gantry/gantrylaw12.ScanAlls", spec := "scanAlls", unfollowed := true, recurses := true, apart := false, narrowed := true }
def ScanAllsUptoSaid : Prop := scanAllsUptoRow.holds Tryz.pinned (OpenSpec.upto scanAllsSpec)

/-- 'gantrylaw12.ScanWalks', WHERE WHAT IT READS IS OF BULK AT MOST 1048576: true; the input reads as it did. -/
def scanWalksUptoRow : OpenClaim := { program := "ytgcgnkafhpjdiaagreat", sum := "76872ce2ddbfce2d4670d7cff5e18b7efa4e6a1d6c95331594ccaad98315b15c", func := "gantry/gantrylaw12.ScanWalks", spec := "scanWalks", unfollowed := true, recurses := true, apart := false, narrowed := true }
def ScanWalksUptoSaid : Prop := scanWalksUptoRow.holds Tryz.pinned (OpenSpec.upto scanWalksSpec)

/-- 'gantrylaw12.ScanFiles', WHERE WHAT IT READS IS OF BULK AT MOST 1048576: true; the input reads as it did. -/
def scanFilesUptoRow : OpenClaim := { program := "ytgcgnkafhpjdiaagreat", sum := "76872ce2ddbfce2d4670d7cff5e18b7efa4e6a1d6c95331594ccaad98315b15c", func := "gantry/gantrylaw12.ScanFiles", spec := "scanFiles", unfollowed := true, recurses := true, apart := false, narrowed := true }
def ScanFilesUptoSaid : Prop := scanFilesUptoRow.holds Tryz.pinned (OpenSpec.upto scanFilesSpec)

/-- 'gantrylaw12.ScanHolds', WHERE WHAT IT READS IS OF BULK AT MOST 1048576: true; the input reads as it did. -/
def scanHoldsUptoRow : OpenClaim := { program := "ytgcgnkafhpjdiaagreat", sum := "76872ce2ddbfce2d4670d7cff5e18b7efa4e6a1d6c95331594ccaad98315b15c", func := "gantry/gantrylaw12.ScanHolds", spec := "scanHolds", unfollowed := true, recurses := true, apart := false, narrowed := true }
def ScanHoldsUptoSaid : Prop := scanHoldsUptoRow.holds Tryz.pinned (OpenSpec.upto scanHoldsSpec)

/-- 'gantrylaw12.ScanRuns', WHERE WHAT IT READS IS OF BULK AT MOST 1048576: true; the input reads as it did. -/
def scanRunsUptoRow : OpenClaim := { program := "ytgcgnkafhpjdiaagreat", sum := "76872ce2ddbfce2d4670d7cff5e18b7efa4e6a1d6c95331594ccaad98315b15c", func := "gantry/gantrylaw12.ScanRuns", spec := "scanRuns", unfollowed := true, recurses := true, apart := false, narrowed := true }
def ScanRunsUptoSaid : Prop := scanRunsUptoRow.holds Tryz.pinned (OpenSpec.upto scanRunsSpec)

/-- 'gantrylaw12.ScanCuts', WHERE WHAT IT READS IS OF BULK AT MOST 1048576: true; the input reads as it did. -/
def scanCutsUptoRow : OpenClaim := { program := "ytgcgnkafhpjdiaagreat", sum := "76872ce2ddbfce2d4670d7cff5e18b7efa4e6a1d6c95331594ccaad98315b15c", func := "gantry/gantrylaw12.ScanCuts", spec := "scanCuts", unfollowed := true, recurses := true, apart := false, narrowed := true }
def ScanCutsUptoSaid : Prop := scanCutsUptoRow.holds Tryz.pinned (OpenSpec.upto scanCutsSpec)

end Rows
end Go.Proofs.YtgcgnkafhpjdiaaGreat
