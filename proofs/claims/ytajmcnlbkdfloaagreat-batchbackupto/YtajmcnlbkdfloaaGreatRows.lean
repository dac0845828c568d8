/-
  No cell of these rows narrows 'for every input' (looked for: loops, veiled, ifaces, maps, wideKeys, modest, calm, conditions, laid).
  DERIVED. THE GIVEN ROWS OF THIS SEAT. 6 by the template 'for every input the law returns true; each argument reads behind the call as it read before'; 0 by the template 'total and deterministic' (their statements: YtajmcnlbkdfloaaGreatTotals.lean).
  GIVEN WITH THE SEED: the statements are not yours to turn. If you find one false, say at which input.
  Laid BY PROGRAM, IN A SANDBOX (cutbox-rows.mjs): the forced cells as the released guide's own fill.sh prints them over the translation 9be9fc31ce4ffec2… (all of the seat's roots in one cut). By AI agents, Wed Nov 11 2026. No macro, syntax, notation, axiom, sorry.
-/
import Derived.Test.YtajmcnlbkdfloaaGreatChecked
import GoSem.Claim
import GoSem.ClaimJoined
import GoSem.ClaimMapViews
import Derived.JoinedTies
import Derived.KernelRfl
namespace Go.Proofs.YtajmcnlbkdfloaaGreat
/- THE CELL 'sum', in the pinned program and in every row, IS THE sha256 OF THE DUMP (.gsa) THAT YtajmcnlbkdfloaaGreatProg.lean LOADS. Nothing in Lean hashes anything: it is a label: what it is worth is what the hold of that sum in a sandbox is worth. -/
noncomputable def Tryz.pinned : Pinned := { name := "ytajmcnlbkdfloaagreat", sum := "9be9fc31ce4ffec265cc7a50745630f739304dd649298fe6cbda820ce794c2f0", checked := Tryz.checked }
namespace Rows
def none {H : Type} : Left H := { results := [], args := [] }

/-- 'gantrylaw06.BatchEncodes': WHATEVER THE INPUT: true; the input reads as it did. -/
def batchEncodesSpec : ChangeSpec := { name := "batchEncodes", fn := fun _ => fun
  | [d] => { results := [.lit (.bool true)], args := [d] }
  | _ => none }
def batchEncodesRow : OpenClaim := { program := "ytajmcnlbkdfloaagreat", sum := "9be9fc31ce4ffec265cc7a50745630f739304dd649298fe6cbda820ce794c2f0", func := "gantry/gantrylaw06.BatchEncodes", spec := "batchEncodes", unfollowed := true, recurses := true, apart := false }
def BatchEncodesSaid : Prop := batchEncodesRow.holds Tryz.pinned (OpenSpec.ofChange batchEncodesSpec)

/-- ITS FALSE NEIGHBOUR: 'it returns false'. Refute it at one input. -/
def batchEncodesWrong : ChangeSpec := { name := "batchEncodes", fn := fun _ => fun
  | [d] => { results := [.lit (.bool false)], args := [d] }
  | _ => none }
def BatchEncodesWrongFalsely : Prop := batchEncodesRow.holds Tryz.pinned (OpenSpec.ofChange batchEncodesWrong)

/-- 'gantrylaw06.BatchChecks': WHATEVER THE INPUT: true; the input reads as it did. -/
def batchChecksSpec : ChangeSpec := { name := "batchChecks", fn := fun _ => fun
  | [d1, d2] => { results := [.lit (.bool true)], args := [d1, d2] }
  | _ => none }
def batchChecksRow : OpenClaim := { program := "ytajmcnlbkdfloaagreat", sum := "9be9fc31ce4ffec265cc7a50745630f739304dd649298fe6cbda820ce794c2f0", func := "gantry/gantrylaw06.BatchChecks", spec := "batchChecks", unfollowed := true, recurses := true, apart := false }
def BatchChecksSaid : Prop := batchChecksRow.holds Tryz.pinned (OpenSpec.ofChange batchChecksSpec)

/-- ITS FALSE NEIGHBOUR: 'it returns false'. Refute it at one input. -/
def batchChecksWrong : ChangeSpec := { name := "batchChecks", fn := fun _ => fun
  | [d1, d2] => { results := [.lit (.bool false)], args := [d1, d2] }
  | _ => none }
def BatchChecksWrongFalsely : Prop := batchChecksRow.holds Tryz.pinned (OpenSpec.ofChange batchChecksWrong)

/-- 'gantrylaw06.BatchRebases': WHATEVER THE INPUT: true; the input reads as it did. -/
def batchRebasesSpec : ChangeSpec := { name := "batchRebases", fn := fun _ => fun
  | [d1, d2] => { results := [.lit (.bool true)], args := [d1, d2] }
  | _ => none }
def batchRebasesRow : OpenClaim := { program := "ytajmcnlbkdfloaagreat", sum := "9be9fc31ce4ffec265cc7a50745630f739304dd649298fe6cbda820ce794c2f0", func := "gantry/gantrylaw06.BatchRebases", spec := "batchRebases", unfollowed := true, recurses := true, apart := false }
def BatchRebasesSaid : Prop := batchRebasesRow.holds Tryz.pinned (OpenSpec.ofChange batchRebasesSpec)

/-- ITS FALSE NEIGHBOUR: 'it returns false'. Refute it at one input. -/
def batchRebasesWrong : ChangeSpec := { name := "batchRebases", fn := fun _ => fun
  | [d1, d2] => { results := [.lit (.bool false)], args := [d1, d2] }
  | _ => none }
def BatchRebasesWrongFalsely : Prop := batchRebasesRow.holds Tryz.pinned (OpenSpec.ofChange batchRebasesWrong)

/-- 'gantrylaw06.BatchSames': WHATEVER THE INPUT: true; the input reads as it did. -/
def batchSamesSpec : ChangeSpec := { name := "batchSames", fn := fun _ => fun
  | [d1, d2] => { results := [.lit (.bool true)], args := [d1, d2] }
  | _ => none }
def batchSamesRow : OpenClaim := { program := "ytajmcnlbkdfloaagreat", sum := "9be9fc31ce4ffec265cc7a50745630f739304dd649298fe6cbda820ce794c2f0", func := "gantry/gantrylaw06.BatchSames", spec := "batchSames", unfollowed := true, recurses := true, apart := false }
def BatchSamesSaid : Prop := batchSamesRow.holds Tryz.pinned (OpenSpec.ofChange batchSamesSpec)

/-- ITS FALSE NEIGHBOUR: 'it returns false'. Refute it at one input. -/
def batchSamesWrong : ChangeSpec := { name := "batchSames", fn := fun _ => fun
  | [d1, d2] => { results := [.lit (.bool false)], args := [d1, d2] }
  | _ => none }
def BatchSamesWrongFalsely : Prop := batchSamesRow.holds Tryz.pinned (OpenSpec.ofChange batchSamesWrong)

/-- 'gantrylaw06.BatchBack': WHATEVER THE INPUT: true; the input reads as it did. -/
def batchBackSpec : ChangeSpec := { name := "batchBack", fn := fun _ => fun
  | [d1, d2] => { results := [.lit (.bool true)], args := [d1, d2] }
  | _ => none }
def batchBackRow : OpenClaim := { program := "ytajmcnlbkdfloaagreat", sum := "9be9fc31ce4ffec265cc7a50745630f739304dd649298fe6cbda820ce794c2f0", func := "gantry/gantrylaw06.BatchBack", spec := "batchBack", unfollowed := true, recurses := true, apart := false }
def BatchBackSaid : Prop := batchBackRow.holds Tryz.pinned (OpenSpec.ofChange batchBackSpec)

/-- ITS FALSE NEIGHBOUR: 'it returns false'. Refute it at one input. -/
def batchBackWrong : ChangeSpec := { name := "batchBack", fn := fun _ => fun
  | [d1, d2] => { results := [.lit (.bool false)], args := [d1, d2] }
  | _ => none }
def BatchBackWrongFalsely : Prop := batchBackRow.holds Tryz.pinned (OpenSpec.ofChange batchBackWrong)

/-- 'gantrylaw06.BatchForm': WHATEVER THE INPUT: true; the input reads as it did. -/
def batchFormSpec : ChangeSpec := { name := "batchForm", fn := fun _ => fun
  | [d1, d2] => { results := [.lit (.bool true)], args := [d1, d2] }
  | _ => none }
def batchFormRow : OpenClaim := { program := "ytajmcnlbkdfloaagreat", sum := "9be9fc31ce4ffec265cc7a50745630f739304dd649298fe6cbda820ce794c2f0", func := "gantry/gantrylaw06.BatchForm", spec := "batchForm", unfollowed := true, recurses := true, apart := false }
def BatchFormSaid : Prop := batchFormRow.holds Tryz.pinned (OpenSpec.ofChange batchFormSpec)

/-- ITS FALSE NEIGHBOUR: 'it returns false'. Refute it at one input. -/
def batchFormWrong : ChangeSpec := { name := "batchForm", fn := fun _ => fun
  | [d1, d2] => { results := [.lit (.bool false)], args := [d1, d2] }
  | _ => none }
def BatchFormWrongFalsely : Prop := batchFormRow.holds Tryz.pinned (OpenSpec.ofChange batchFormWrong)

/- THE SECOND FORM. 'bulk': how many values and letters a reading holds, each counted each time it is reached (what is shared counts as often as it is met; a slice's spare places count too). A statement '..UptoSaid' is the law's where the arguments, and the package variables that the reading takes, are together of bulk at most 1048576: NARROWER than '..Said'. Prove '..Said' where nothing that the law and all that it calls make is longer than what came in: it says more and counts as full. Else prove '..UptoSaid'. A law counts once. -/
mutual
def uptoBulk {H : Type} : DataW H → Nat
  | .lit (.string bytes) => bytes.length + 1
  | .lit _ => 1
  | .nil => 1
  | .ptr d => uptoBulk d + 1
  | .slice elems spare => uptoBulkAll elems + uptoBulkAll spare + 1
  | .agg parts => uptoBulkAll parts + 1
  | .iface _ d => uptoBulk d + 1
  | .map entries => uptoBulkEntries entries + 1
  | .held _ => 1
def uptoBulkAll {H : Type} : List (DataW H) → Nat
  | [] => 0
  | d :: r => uptoBulk d + uptoBulkAll r
def uptoBulkEntries {H : Type} : List (Lit × DataW H) → Nat
  | [] => 0
  | x :: r => uptoBulkEntry x + uptoBulkEntries r
def uptoBulkEntry {H : Type} : Lit × DataW H → Nat
  | (.string bytes, d) => bytes.length + uptoBulk d + 1
  | (_, d) => uptoBulk d + 1
 end
def uptoSmall : (H : Type) → List (DataW H) → Bool := fun _ ds => decide (uptoBulkAll ds ≤ 1048576)
def OpenSpec.upto (s : _root_.Go.ChangeSpec) : _root_.Go.OpenSpec := { _root_.Go.OpenSpec.ofChange s with cond := some uptoSmall }

/-- 'gantrylaw06.BatchEncodes', WHERE WHAT IT READS IS OF BULK AT MOST 1048576: true; the input reads as it did. -/
def batchEncodesUptoRow : OpenClaim := { program := "ytajmcnlbkdfloaagreat", sum := "9be9fc31ce4ffec265cc7a50745630f739304dd649298fe6cbda820ce794c2f0", func := "gantry/gantrylaw06.BatchEncodes", spec := "batchEncodes", unfollowed := true, recurses := true, apart := false, narrowed := true }
def BatchEncodesUptoSaid : Prop := batchEncodesUptoRow.holds Tryz.pinned (OpenSpec.upto batchEncodesSpec)

/-- 'gantrylaw06.BatchChecks', WHERE WHAT IT READS IS OF BULK AT MOST 1048576: true; the input reads as it did. -/
def batchChecksUptoRow : OpenClaim := { program := "ytajmcnlbkdfloaagreat", sum := "9be9fc31ce4ffec265cc7a50745630f739304dd649298fe6cbda820ce794c2f0", func := "gantry/gantrylaw06.BatchChecks", spec := "batchChecks", unfollowed := true, recurses := true, apart := false, narrowed := true }
def BatchChecksUptoSaid : Prop := batchChecksUptoRow.holds Tryz.pinned (OpenSpec.upto batchChecksSpec)

/-- 'gantrylaw06.BatchRebases', WHERE WHAT IT READS IS OF BULK AT MOST 1048576: true; the input reads as it did. -/
def batchRebasesUptoRow : OpenClaim := { program := "ytajmcnlbkdfloaagreat", sum := "9be9fc31ce4ffec265cc7a50745630f739304dd649298fe6cbda820ce794c2f0", func := "gantry/gantrylaw06.BatchRebases", spec := "batchRebases", unfollowed := true, recurses := true, apart := false, narrowed := true }
def BatchRebasesUptoSaid : Prop := batchRebasesUptoRow.holds Tryz.pinned (OpenSpec.upto batchRebasesSpec)

/-- 'gantrylaw06.BatchSames', WHERE WHAT IT READS IS OF BULK AT MOST 1048576: true; the input reads as it did. -/
def batchSamesUptoRow : OpenClaim := { program := "ytajmcnlbkdfloaagreat", sum := "9be9fc31ce4ffec265cc7a50745630f739304dd649298fe6cbda820ce794c2f0", func := "gantry/gantrylaw06.BatchSames", spec := "batchSames", unfollowed := true, recurses := true, apart := false, narrowed := true }
def BatchSamesUptoSaid : Prop := batchSamesUptoRow.holds Tryz.pinned (OpenSpec.upto batchSamesSpec)

/-- 'gantrylaw06.BatchBack', WHERE WHAT IT READS IS OF BULK AT MOST 1048576: true; the input reads as it did. -/
def batchBackUptoRow : OpenClaim := { program := "ytajmcnlbkdfloaagreat", sum := "9be9fc31ce4ffec265cc7a50745630f739304dd649298fe6cbda820ce794c2f0", func := "gantry/gantrylaw06.BatchBack", spec := "batchBack", unfollowed := true, recurses := true, apart := false, narrowed := true }
def BatchBackUptoSaid : Prop := batchBackUptoRow.holds Tryz.pinned (OpenSpec.upto batchBackSpec)

/-- 'gantrylaw06.BatchForm', WHERE WHAT IT READS IS OF BULK AT MOST 1048576: true; the input reads as it did. -/
def batchFormUptoRow : OpenClaim := { program := "ytajmcnlbkdfloaagreat", sum := "9be9fc31ce4ffec265cc7a50745630f739304dd649298fe6cbda820ce794c2f0", func := "gantry/gantrylaw06.BatchForm", spec := "batchForm", unfollowed := true, recurses := true, apart := false, narrowed := true }
def BatchFormUptoSaid : Prop := batchFormUptoRow.holds Tryz.pinned (OpenSpec.upto batchFormSpec)

end Rows
end Go.Proofs.YtajmcnlbkdfloaaGreat
