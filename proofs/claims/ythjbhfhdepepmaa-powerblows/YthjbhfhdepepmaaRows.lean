/-
  No cell of these rows narrows 'for every input' (looked for: loops, veiled, ifaces, maps, wideKeys, modest, calm, conditions, laid).
  DERIVED. THE GIVEN ROWS OF THIS SEAT. 6 by the template 'for every input the law returns true; each argument reads behind the call as it read before'; 0 by the template 'total and deterministic' (their statements: YthjbhfhdepepmaaTotals.lean).
  GIVEN WITH THE SEED: the statements are not yours to turn. If you find one false, say at which input.
  Laid BY PROGRAM, IN A SANDBOX (cutbox-rows.mjs): the forced cells as the released guide's own fill.sh prints them over the translation 421ba87b07b659dd… (all of the seat's roots in one cut). By AI agents, Wed Nov 11 2026. No macro, syntax, notation, axiom, sorry.
-/
import Derived.Test.YthjbhfhdepepmaaChecked
import GoSem.Claim
import GoSem.ClaimJoined
import GoSem.ClaimMapViews
import Derived.JoinedTies
import Derived.KernelRfl
namespace Go.Proofs.Ythjbhfhdepepmaa
/- THE CELL 'sum', in the pinned program and in every row, IS THE sha256 OF THE DUMP (.gsa) THAT YthjbhfhdepepmaaProg.lean LOADS. Nothing in Lean hashes anything: it is a label: what it is worth is what the hold of that sum in a sandbox is worth. -/
noncomputable def Try.pinned : Pinned := { name := "ythjbhfhdepepmaa", sum := "421ba87b07b659dd98d2fb2074d09a08e8b42e1b70cd3714d7c089aacea402e9", checked := Try.checked }
namespace Rows
def none {H : Type} : Left H := { results := [], args := [] }

/-- 'gantrylaw08.PowerLeft': WHATEVER THE INPUT: true; the input reads as it did. -/
def powerLeftSpec : ChangeSpec := { name := "powerLeft", fn := fun _ => fun
  | [d1, d2, d3] => { results := [.lit (.bool true)], args := [d1, d2, d3] }
  | _ => none }
def powerLeftRow : OpenClaim := { program := "ythjbhfhdepepmaa", sum := "421ba87b07b659dd98d2fb2074d09a08e8b42e1b70cd3714d7c089aacea402e9", func := "gantry/gantrylaw08.PowerLeft", spec := "powerLeft", unfollowed := true, recurses := true, apart := false }
def PowerLeftSaid : Prop := powerLeftRow.holds Try.pinned (OpenSpec.ofChange powerLeftSpec)

/-- ITS FALSE NEIGHBOUR: 'it returns false'. Refute it at one input. -/
def powerLeftWrong : ChangeSpec := { name := "powerLeft", fn := fun _ => fun
  | [d1, d2, d3] => { results := [.lit (.bool false)], args := [d1, d2, d3] }
  | _ => none }
def PowerLeftWrongFalsely : Prop := powerLeftRow.holds Try.pinned (OpenSpec.ofChange powerLeftWrong)

/-- 'gantrylaw08.PowerBlows': WHATEVER THE INPUT: true; the input reads as it did. -/
def powerBlowsSpec : ChangeSpec := { name := "powerBlows", fn := fun _ => fun
  | [d1, d2, d3] => { results := [.lit (.bool true)], args := [d1, d2, d3] }
  | _ => none }
def powerBlowsRow : OpenClaim := { program := "ythjbhfhdepepmaa", sum := "421ba87b07b659dd98d2fb2074d09a08e8b42e1b70cd3714d7c089aacea402e9", func := "gantry/gantrylaw08.PowerBlows", spec := "powerBlows", unfollowed := true, recurses := true, apart := false }
def PowerBlowsSaid : Prop := powerBlowsRow.holds Try.pinned (OpenSpec.ofChange powerBlowsSpec)

/-- ITS FALSE NEIGHBOUR: 'it returns false'. Refute it at one input. -/
def powerBlowsWrong : ChangeSpec := { name := "powerBlows", fn := fun _ => fun
  | [d1, d2, d3] => { results := [.lit (.bool false)], args := [d1, d2, d3] }
  | _ => none }
def PowerBlowsWrongFalsely : Prop := powerBlowsRow.holds Try.pinned (OpenSpec.ofChange powerBlowsWrong)

/-- 'gantrylaw08.PowerEnds': WHATEVER THE INPUT: true; the input reads as it did. -/
def powerEndsSpec : ChangeSpec := { name := "powerEnds", fn := fun _ => fun
  | [d1, d2] => { results := [.lit (.bool true)], args := [d1, d2] }
  | _ => none }
def powerEndsRow : OpenClaim := { program := "ythjbhfhdepepmaa", sum := "421ba87b07b659dd98d2fb2074d09a08e8b42e1b70cd3714d7c089aacea402e9", func := "gantry/gantrylaw08.PowerEnds", spec := "powerEnds", unfollowed := true, recurses := true, apart := false }
def PowerEndsSaid : Prop := powerEndsRow.holds Try.pinned (OpenSpec.ofChange powerEndsSpec)

/-- ITS FALSE NEIGHBOUR: 'it returns false'. Refute it at one input. -/
def powerEndsWrong : ChangeSpec := { name := "powerEnds", fn := fun _ => fun
  | [d1, d2] => { results := [.lit (.bool false)], args := [d1, d2] }
  | _ => none }
def PowerEndsWrongFalsely : Prop := powerEndsRow.holds Try.pinned (OpenSpec.ofChange powerEndsWrong)

/-- 'gantrylaw08.PowerSafe': WHATEVER THE INPUT: true; the input reads as it did. -/
def powerSafeSpec : ChangeSpec := { name := "powerSafe", fn := fun _ => fun
  | [d1, d2, d3] => { results := [.lit (.bool true)], args := [d1, d2, d3] }
  | _ => none }
def powerSafeRow : OpenClaim := { program := "ythjbhfhdepepmaa", sum := "421ba87b07b659dd98d2fb2074d09a08e8b42e1b70cd3714d7c089aacea402e9", func := "gantry/gantrylaw08.PowerSafe", spec := "powerSafe", unfollowed := true, recurses := true, apart := false }
def PowerSafeSaid : Prop := powerSafeRow.holds Try.pinned (OpenSpec.ofChange powerSafeSpec)

/-- ITS FALSE NEIGHBOUR: 'it returns false'. Refute it at one input. -/
def powerSafeWrong : ChangeSpec := { name := "powerSafe", fn := fun _ => fun
  | [d1, d2, d3] => { results := [.lit (.bool false)], args := [d1, d2, d3] }
  | _ => none }
def PowerSafeWrongFalsely : Prop := powerSafeRow.holds Try.pinned (OpenSpec.ofChange powerSafeWrong)

/-- 'gantrylaw08.PowerFiles': WHATEVER THE INPUT: true; the input reads as it did. -/
def powerFilesSpec : ChangeSpec := { name := "powerFiles", fn := fun _ => fun
  | [d1, d2, d3] => { results := [.lit (.bool true)], args := [d1, d2, d3] }
  | _ => none }
def powerFilesRow : OpenClaim := { program := "ythjbhfhdepepmaa", sum := "421ba87b07b659dd98d2fb2074d09a08e8b42e1b70cd3714d7c089aacea402e9", func := "gantry/gantrylaw08.PowerFiles", spec := "powerFiles", unfollowed := true, recurses := true, apart := false }
def PowerFilesSaid : Prop := powerFilesRow.holds Try.pinned (OpenSpec.ofChange powerFilesSpec)

/-- ITS FALSE NEIGHBOUR: 'it returns false'. Refute it at one input. -/
def powerFilesWrong : ChangeSpec := { name := "powerFiles", fn := fun _ => fun
  | [d1, d2, d3] => { results := [.lit (.bool false)], args := [d1, d2, d3] }
  | _ => none }
def PowerFilesWrongFalsely : Prop := powerFilesRow.holds Try.pinned (OpenSpec.ofChange powerFilesWrong)

/-- 'gantrylaw08.PowerHarms': WHATEVER THE INPUT: true; the input reads as it did. -/
def powerHarmsSpec : ChangeSpec := { name := "powerHarms", fn := fun _ => fun
  | [d1, d2, d3, d4] => { results := [.lit (.bool true)], args := [d1, d2, d3, d4] }
  | _ => none }
def powerHarmsRow : OpenClaim := { program := "ythjbhfhdepepmaa", sum := "421ba87b07b659dd98d2fb2074d09a08e8b42e1b70cd3714d7c089aacea402e9", func := "gantry/gantrylaw08.PowerHarms", spec := "powerHarms", unfollowed := true, recurses := true, apart := false }
def PowerHarmsSaid : Prop := powerHarmsRow.holds Try.pinned (OpenSpec.ofChange powerHarmsSpec)

/-- ITS FALSE NEIGHBOUR: 'it returns false'. Refute it at one input. -/
def powerHarmsWrong : ChangeSpec := { name := "powerHarms", fn := fun _ => fun
  | [d1, d2, d3, d4] => { results := [.lit (.bool false)], args := [d1, d2, d3, d4] }
  | _ => none }
def PowerHarmsWrongFalsely : Prop := powerHarmsRow.holds Try.pinned (OpenSpec.ofChange powerHarmsWrong)

/- THE SECOND FORM. 'bulk': how many values and letters a reading holds, each counted each time it is reached (what is shared counts as often as it is met; a slice's spare places count too). A statement '..UptoSaid' is the law's where the arguments, and the package variables that the reading takes, are together of bulk at most 1048576: NARROWER than '..Said'. Prove '..Said' where nothing that the law and all that it calls make is longer than what came in: it says more and counts as full. Else prove '..UptoSaid'. A law counts once. -/
mutual
def uptoBulk {H : Type} : DataW H → Nat
  | .lit (.string bytes) => bytes.length + 1
  | .lit _ => 1
  | .nil => 1
  | .ptr d => uptoBulk d + 1
  | .slice elems spare => uptoBulkAll elems + uptoBulkAll spare + 1
  | .agg parts => uptoBulkAll parts + 1
  | .iface _ d => uptoBulk d + 1
  | .map entries => uptoBulkEntries entries + 1
  | .held _ => 1
def uptoBulkAll {H : Type} : List (DataW H) → Nat
  | [] => 0
  | d :: r => uptoBulk d + uptoBulkAll r
def uptoBulkEntries {H : Type} : List (Lit × DataW H) → Nat
  | [] => 0
  | x :: r => uptoBulkEntry x + uptoBulkEntries r
def uptoBulkEntry {H : Type} : Lit × DataW H → Nat
  | (.string bytes, d) => bytes.length + uptoBulk d + 1
  | (_, d) => uptoBulk d + 1
 end
def uptoSmall : (H : Type) → List (DataW H) → Bool := fun _ ds => decide (uptoBulkAll ds ≤ 1048576)
def OpenSpec.upto (s : _root_.Go.ChangeSpec) : _root_.Go.OpenSpec := { _root_.Go.OpenSpec.ofChange s with cond := some uptoSmall }

/-- 'gantrylaw08.PowerLeft', WHERE WHAT IT READS IS OF BULK AT MOST 1048576: true; the input reads as it did. -/
def powerLeftUptoRow : OpenClaim := { program := "ythjbhfhdepepmaa", sum := "421ba87b07b659dd98d2fb2074d09a08e8b42e1b70cd3714d7c089aacea402e9", func := "gantry/gantrylaw08.PowerLeft", spec := "powerLeft", unfollowed := true, recurses := true, apart := false, narrowed := true }
def PowerLeftUptoSaid : Prop := powerLeftUptoRow.holds Try.pinned (OpenSpec.upto powerLeftSpec)

/-- 'gantrylaw08.PowerBlows', WHERE WHAT IT READS IS OF BULK AT MOST 1048576: true; the input reads as it did. -/
def powerBlowsUptoRow : OpenClaim := { program := "ythjbhfhdepepmaa", sum := "421ba87b07b659dd98d2fb2074d09a08e8b42e1b70cd3714d7c089aacea402e9", func := "gantry/gantrylaw08.PowerBlows", spec := "powerBlows", unfollowed := true, recurses := true, apart := false, narrowed := true }
def PowerBlowsUptoSaid : Prop := powerBlowsUptoRow.holds Try.pinned (OpenSpec.upto powerBlowsSpec)

/-- 'gantrylaw08.PowerEnds', WHERE WHAT IT READS IS OF BULK AT MOST 1048576: true; the input reads as it did. -/
def powerEndsUptoRow : OpenClaim := { program := "ythjbhfhdepepmaa", sum := "421ba87b07b659dd98d2fb2074d09a08e8b42e1b70cd3714d7c089aacea402e9", func := "gantry/gantrylaw08.PowerEnds", spec := "powerEnds", unfollowed := true, recurses := true, apart := false, narrowed := true }
def PowerEndsUptoSaid : Prop := powerEndsUptoRow.holds Try.pinned (OpenSpec.upto powerEndsSpec)

/-- 'gantrylaw08.PowerSafe', WHERE WHAT IT READS IS OF BULK AT MOST 1048576: true; the input reads as it did. -/
def powerSafeUptoRow : OpenClaim := { program := "ythjbhfhdepepmaa", sum := "421ba87b07b659dd98d2fb2074d09a08e8b42e1b70cd3714d7c089aacea402e9", func := "gantry/gantrylaw08.PowerSafe", spec := "powerSafe", unfollowed := true, recurses := true, apart := false, narrowed := true }
def PowerSafeUptoSaid : Prop := powerSafeUptoRow.holds Try.pinned (OpenSpec.upto powerSafeSpec)

/-- 'gantrylaw08.PowerFiles', WHERE WHAT IT READS IS OF BULK AT MOST 1048576: true; the input reads as it did. -/
def powerFilesUptoRow : OpenClaim := { program := "ythjbhfhdepepmaa", sum := "421ba87b07b659dd98d2fb2074d09a08e8b42e1b70cd3714d7c089aacea402e9", func := "gantry/gantrylaw08.PowerFiles", spec := "powerFiles", unfollowed := true, recurses := true, apart := false, narrowed := true }
def PowerFilesUptoSaid : Prop := powerFilesUptoRow.holds Try.pinned (OpenSpec.upto powerFilesSpec)

/-- 'gantrylaw08.PowerHarms', WHERE WHAT IT READS IS OF BULK AT MOST 1048576: true; the input reads as it did. -/
def powerHarmsUptoRow : OpenClaim := { program := "ythjbhfhdepepmaa", sum := "421ba87b07b659dd98d2fb2074d09a08e8b42e1b70cd3714d7c089aacea402e9", func := "gantry/gantrylaw08.PowerHarms", spec := "powerHarms", unfollowed := true, recurses := true, apart := false, narrowed := true }
def PowerHarmsUptoSaid : Prop := powerHarmsUptoRow.holds Try.pinned (OpenSpec.upto powerHarmsSpec)

end Rows
end Go.Proofs.Ythjbhfhdepepmaa
