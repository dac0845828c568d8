/-
  No cell of these rows narrows 'for every input' (looked for: loops, veiled, ifaces, maps, wideKeys, modest, calm, conditions, laid).
  DERIVED. THE GIVEN ROWS OF THIS SEAT. 3 by the template 'for every input the law returns true; each argument reads behind the call as it read before'; 0 by the template 'total and deterministic' (their statements: YtafogjilheniiabTotals.lean).
  GIVEN WITH THE SEED: the statements are not yours to turn. If you find one false, say at which input.
  Laid BY PROGRAM, IN A SANDBOX (cutbox-rows.mjs): the forced cells as the released guide's own fill.sh prints them over the translation 249008bf49795d5f… (all of the seat's roots in one cut). By AI agents, Wed Nov 11 2026. No macro, syntax, notation, axiom, sorry.
-/
import Derived.Test.YtafogjilheniiabChecked
import GoSem.Claim
import GoSem.ClaimJoined
import GoSem.ClaimMapViews
import Derived.JoinedTies
import Derived.KernelRfl
namespace Go.Proofs.Ytafogjilheniiab
/- THE CELL 'sum', in the pinned program and in every row, IS THE sha256 OF THE DUMP (.gsa) THAT YtafogjilheniiabProg.lean LOADS. Nothing in Lean hashes anything: it is a label: what it is worth is what the hold of that sum in a sandbox is worth. -/
noncomputable def Try.pinned : Pinned := { name := "ytafogjilheniiab", sum := "249008bf49795d5f99773b1c50d4e5ea32cf597f9e9068fa928a7a5f22b84184", checked := Try.checked }
namespace Rows
def none {H : Type} : Left H := { results := [], args := [] }

/-- 'gantrylaw05.RecordWhole': WHATEVER THE INPUT: true; the input reads as it did. -/
def recordWholeSpec : ChangeSpec := { name := "recordWhole", fn := fun _ => fun
  | [d1, d2, d3, d4] => { results := [.lit (.bool true)], args := [d1, d2, d3, d4] }
  | _ => none }
def recordWholeRow : OpenClaim := { program := "ytafogjilheniiab", sum := "249008bf49795d5f99773b1c50d4e5ea32cf597f9e9068fa928a7a5f22b84184", func := "gantry/gantrylaw05.RecordWhole", spec := "recordWhole", unfollowed := true, recurses := true, apart := false }
def RecordWholeSaid : Prop := recordWholeRow.holds Try.pinned (OpenSpec.ofChange recordWholeSpec)

/-- ITS FALSE NEIGHBOUR: 'it returns false'. Refute it at one input. -/
def recordWholeWrong : ChangeSpec := { name := "recordWhole", fn := fun _ => fun
  | [d1, d2, d3, d4] => { results := [.lit (.bool false)], args := [d1, d2, d3, d4] }
  | _ => none }
def RecordWholeWrongFalsely : Prop := recordWholeRow.holds Try.pinned (OpenSpec.ofChange recordWholeWrong)

/-- 'gantrylaw05.RecordSpells': WHATEVER THE INPUT: true; the input reads as it did. -/
def recordSpellsSpec : ChangeSpec := { name := "recordSpells", fn := fun _ => fun
  | [d1, d2, d3] => { results := [.lit (.bool true)], args := [d1, d2, d3] }
  | _ => none }
def recordSpellsRow : OpenClaim := { program := "ytafogjilheniiab", sum := "249008bf49795d5f99773b1c50d4e5ea32cf597f9e9068fa928a7a5f22b84184", func := "gantry/gantrylaw05.RecordSpells", spec := "recordSpells", unfollowed := true, recurses := true, apart := false }
def RecordSpellsSaid : Prop := recordSpellsRow.holds Try.pinned (OpenSpec.ofChange recordSpellsSpec)

/-- ITS FALSE NEIGHBOUR: 'it returns false'. Refute it at one input. -/
def recordSpellsWrong : ChangeSpec := { name := "recordSpells", fn := fun _ => fun
  | [d1, d2, d3] => { results := [.lit (.bool false)], args := [d1, d2, d3] }
  | _ => none }
def RecordSpellsWrongFalsely : Prop := recordSpellsRow.holds Try.pinned (OpenSpec.ofChange recordSpellsWrong)

/-- 'gantrylaw05.RecordFresh': WHATEVER THE INPUT: true; the input reads as it did. -/
def recordFreshSpec : ChangeSpec := { name := "recordFresh", fn := fun _ => fun
  | [d1, d2, d3] => { results := [.lit (.bool true)], args := [d1, d2, d3] }
  | _ => none }
def recordFreshRow : OpenClaim := { program := "ytafogjilheniiab", sum := "249008bf49795d5f99773b1c50d4e5ea32cf597f9e9068fa928a7a5f22b84184", func := "gantry/gantrylaw05.RecordFresh", spec := "recordFresh", unfollowed := true, recurses := true, apart := false }
def RecordFreshSaid : Prop := recordFreshRow.holds Try.pinned (OpenSpec.ofChange recordFreshSpec)

/-- ITS FALSE NEIGHBOUR: 'it returns false'. Refute it at one input. -/
def recordFreshWrong : ChangeSpec := { name := "recordFresh", fn := fun _ => fun
  | [d1, d2, d3] => { results := [.lit (.bool false)], args := [d1, d2, d3] }
  | _ => none }
def RecordFreshWrongFalsely : Prop := recordFreshRow.holds Try.pinned (OpenSpec.ofChange recordFreshWrong)

/- THE SECOND FORM. 'bulk': how many values and letters a reading holds, each counted each time it is reached (what is shared counts as often as it is met; a slice's spare places count too). A statement '..UptoSaid' is the law's where the arguments, and the package variables that the reading takes, are together of bulk at most 1048576: NARROWER than '..Said'. Prove '..Said' where nothing that the law and all that it calls make is longer than what came in: it says more and counts as full. Else prove '..UptoSaid'. A law counts once. -/
mutual
def uptoBulk {H : Type} : DataW H → Nat
  | .lit (.string bytes) => bytes.length + 1
  | .lit _ => 1
  | .nil => 1
  | .ptr d => uptoBulk d + 1
  | .slice elems spare => uptoBulkAll elems + uptoBulkAll spare + 1
  | .agg parts => uptoBulkAll parts + 1
  | .iface _ d => uptoBulk d + 1
  | .map entries => uptoBulkEntries entries + 1
  | .held _ => 1
def uptoBulkAll {H : Type} : List (DataW H) → Nat
  | [] => 0
  | d :: r => uptoBulk d + uptoBulkAll r
def uptoBulkEntries {H : Type} : List (Lit × DataW H) → Nat
  | [] => 0
  | x :: r => uptoBulkEntry x + uptoBulkEntries r
def uptoBulkEntry {H : Type} : Lit × DataW H → Nat
  | (.string bytes, d) => bytes.length + uptoBulk d + 1
  | (_, d) => uptoBulk d + 1
 end
def uptoSmall : (H : Type) → List (DataW H) → Bool := fun _ ds => decide (uptoBulkAll ds ≤ 1048576)
def OpenSpec.upto (s : _root_.Go.ChangeSpec) : _root_.Go.OpenSpec := { _root_.Go.OpenSpec.ofChange s with cond := some uptoSmall }

/-- 'gantrylaw05.RecordWhole', WHERE WHAT IT READS IS OF BULK AT MOST 1048576: true; the input reads as it did. -/
def recordWholeUptoRow : OpenClaim := { program := "ytafogjilheniiab", sum := "249008bf49795d5f99773b1c50d4e5ea32cf597f9e9068fa928a7a5f22b84184", func := "gantry/gantrylaw05.RecordWhole", spec := "recordWhole", unfollowed := true, recurses := true, apart := false, narrowed := true }
def RecordWholeUptoSaid : Prop := recordWholeUptoRow.holds Try.pinned (OpenSpec.upto recordWholeSpec)

/-- 'gantrylaw05.RecordSpells', WHERE WHAT IT READS IS OF BULK AT MOST 1048576: true; the input reads as it did. -/
def recordSpellsUptoRow : OpenClaim := { program := "ytafogjilheniiab", sum := "249008bf49795d5f99773b1c50d4e5ea32cf597f9e9068fa928a7a5f22b84184", func := "gantry/gantrylaw05.RecordSpells", spec := "recordSpells", unfollowed := true, recurses := true, apart := false, narrowed := true }
def RecordSpellsUptoSaid : Prop := recordSpellsUptoRow.holds Try.pinned (OpenSpec.upto recordSpellsSpec)

/-- 'gantrylaw05.RecordFresh', WHERE WHAT IT READS IS OF BULK AT MOST 1048576: true; the input reads as it did. -/
def recordFreshUptoRow : OpenClaim := { program := "ytafogjilheniiab", sum := "249008bf49795d5f99773b1c50d4e5ea32cf597f9e9068fa928a7a5f22b84184", func := "gantry/gantrylaw05.RecordFresh", spec := "recordFresh", unfollowed := true, recurses := true, apart := false, narrowed := true }
def RecordFreshUptoSaid : Prop := recordFreshUptoRow.holds Try.pinned (OpenSpec.upto recordFreshSpec)

end Rows
end Go.Proofs.Ytafogjilheniiab
