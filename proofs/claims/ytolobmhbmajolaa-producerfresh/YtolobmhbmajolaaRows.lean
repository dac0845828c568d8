/-
  No cell of these rows narrows 'for every input' (looked for: loops, veiled, ifaces, maps, wideKeys, modest, calm, conditions, laid).
  DERIVED. THE GIVEN ROWS OF THIS SEAT. 5 by the template 'for every input the law returns true; each argument reads behind the call as it read before'; 0 by the template 'total and deterministic' (their statements: YtolobmhbmajolaaTotals.lean).
  GIVEN WITH THE SEED: the statements are not yours to turn. If you find one false, say at which input.
  Laid BY PROGRAM, IN A SANDBOX (cutbox-rows.mjs): the forced cells as the released guide's own fill.sh prints them over the translation a90f8a27e822c1bf… (all of the seat's roots in one cut). By AI agents, Wed Nov 11 2026. No macro, syntax, notation, axiom, sorry.
-/
import Derived.Test.YtolobmhbmajolaaChecked
import GoSem.Claim
import GoSem.ClaimJoined
import GoSem.ClaimMapViews
import Derived.JoinedTies
import Derived.KernelRfl
namespace Go.Proofs.Ytolobmhbmajolaa
/- THE CELL 'sum', in the pinned program and in every row, IS THE sha256 OF THE DUMP (.gsa) THAT YtolobmhbmajolaaProg.lean LOADS. Nothing in Lean hashes anything: it is a label: what it is worth is what the hold of that sum in a sandbox is worth. -/
noncomputable def Try.pinned : Pinned := { name := "ytolobmhbmajolaa", sum := "a90f8a27e822c1bf7b7f0bd0fbc9036c4468885ec749e799df752991bb1837e7", checked := Try.checked }
namespace Rows
def none {H : Type} : Left H := { results := [], args := [] }

/-- 'gantrylaw14.ProducerPlays': WHATEVER THE INPUT: true; the input reads as it did. -/
def producerPlaysSpec : ChangeSpec := { name := "producerPlays", fn := fun _ => fun
  | [d] => { results := [.lit (.bool true)], args := [d] }
  | _ => none }
def producerPlaysRow : OpenClaim := { program := "ytolobmhbmajolaa", sum := "a90f8a27e822c1bf7b7f0bd0fbc9036c4468885ec749e799df752991bb1837e7", func := "gantry/gantrylaw14.ProducerPlays", spec := "producerPlays", unfollowed := true, recurses := true, apart := false }
def ProducerPlaysSaid : Prop := producerPlaysRow.holds Try.pinned (OpenSpec.ofChange producerPlaysSpec)

/-- ITS FALSE NEIGHBOUR: 'it returns false'. Refute it at one input. -/
def producerPlaysWrong : ChangeSpec := { name := "producerPlays", fn := fun _ => fun
  | [d] => { results := [.lit (.bool false)], args := [d] }
  | _ => none }
def ProducerPlaysWrongFalsely : Prop := producerPlaysRow.holds Try.pinned (OpenSpec.ofChange producerPlaysWrong)

/-- 'gantrylaw14.ProducerOf': WHATEVER THE INPUT: true; the input reads as it did. -/
def producerOfSpec : ChangeSpec := { name := "producerOf", fn := fun _ => fun
  | [d1, d2] => { results := [.lit (.bool true)], args := [d1, d2] }
  | _ => none }
def producerOfRow : OpenClaim := { program := "ytolobmhbmajolaa", sum := "a90f8a27e822c1bf7b7f0bd0fbc9036c4468885ec749e799df752991bb1837e7", func := "gantry/gantrylaw14.ProducerOf", spec := "producerOf", unfollowed := true, recurses := true, apart := false }
def ProducerOfSaid : Prop := producerOfRow.holds Try.pinned (OpenSpec.ofChange producerOfSpec)

/-- ITS FALSE NEIGHBOUR: 'it returns false'. Refute it at one input. -/
def producerOfWrong : ChangeSpec := { name := "producerOf", fn := fun _ => fun
  | [d1, d2] => { results := [.lit (.bool false)], args := [d1, d2] }
  | _ => none }
def ProducerOfWrongFalsely : Prop := producerOfRow.holds Try.pinned (OpenSpec.ofChange producerOfWrong)

/-- 'gantrylaw14.ProducerOnce': WHATEVER THE INPUT: true; the input reads as it did. -/
def producerOnceSpec : ChangeSpec := { name := "producerOnce", fn := fun _ => fun
  | [d1, d2, d3, d4, d5] => { results := [.lit (.bool true)], args := [d1, d2, d3, d4, d5] }
  | _ => none }
def producerOnceRow : OpenClaim := { program := "ytolobmhbmajolaa", sum := "a90f8a27e822c1bf7b7f0bd0fbc9036c4468885ec749e799df752991bb1837e7", func := "gantry/gantrylaw14.ProducerOnce", spec := "producerOnce", unfollowed := true, recurses := true, apart := false }
def ProducerOnceSaid : Prop := producerOnceRow.holds Try.pinned (OpenSpec.ofChange producerOnceSpec)

/-- ITS FALSE NEIGHBOUR: 'it returns false'. Refute it at one input. -/
def producerOnceWrong : ChangeSpec := { name := "producerOnce", fn := fun _ => fun
  | [d1, d2, d3, d4, d5] => { results := [.lit (.bool false)], args := [d1, d2, d3, d4, d5] }
  | _ => none }
def ProducerOnceWrongFalsely : Prop := producerOnceRow.holds Try.pinned (OpenSpec.ofChange producerOnceWrong)

/-- 'gantrylaw14.ProducerApart': WHATEVER THE INPUT: true; the input reads as it did. -/
def producerApartSpec : ChangeSpec := { name := "producerApart", fn := fun _ => fun
  | [d1, d2, d3] => { results := [.lit (.bool true)], args := [d1, d2, d3] }
  | _ => none }
def producerApartRow : OpenClaim := { program := "ytolobmhbmajolaa", sum := "a90f8a27e822c1bf7b7f0bd0fbc9036c4468885ec749e799df752991bb1837e7", func := "gantry/gantrylaw14.ProducerApart", spec := "producerApart", unfollowed := true, recurses := true, apart := false }
def ProducerApartSaid : Prop := producerApartRow.holds Try.pinned (OpenSpec.ofChange producerApartSpec)

/-- ITS FALSE NEIGHBOUR: 'it returns false'. Refute it at one input. -/
def producerApartWrong : ChangeSpec := { name := "producerApart", fn := fun _ => fun
  | [d1, d2, d3] => { results := [.lit (.bool false)], args := [d1, d2, d3] }
  | _ => none }
def ProducerApartWrongFalsely : Prop := producerApartRow.holds Try.pinned (OpenSpec.ofChange producerApartWrong)

/-- 'gantrylaw14.ProducerFresh': WHATEVER THE INPUT: true; the input reads as it did. -/
def producerFreshSpec : ChangeSpec := { name := "producerFresh", fn := fun _ => fun
  | [d1, d2] => { results := [.lit (.bool true)], args := [d1, d2] }
  | _ => none }
def producerFreshRow : OpenClaim := { program := "ytolobmhbmajolaa", sum := "a90f8a27e822c1bf7b7f0bd0fbc9036c4468885ec749e799df752991bb1837e7", func := "gantry/gantrylaw14.ProducerFresh", spec := "producerFresh", unfollowed := true, recurses := true, apart := false }
def ProducerFreshSaid : Prop := producerFreshRow.holds Try.pinned (OpenSpec.ofChange producerFreshSpec)

/-- ITS FALSE NEIGHBOUR: 'it returns false'. Refute it at one input. -/
def producerFreshWrong : ChangeSpec := { name := "producerFresh", fn := fun _ => fun
  | [d1, d2] => { results := [.lit (.bool false)], args := [d1, d2] }
  | _ => none }
def ProducerFreshWrongFalsely : Prop := producerFreshRow.holds Try.pinned (OpenSpec.ofChange producerFreshWrong)

/- THE SECOND FORM. 'bulk': how many values and letters a reading holds, each counted each time it is reached (what is shared counts as often as it is met; a slice's spare places count too). A statement '..UptoSaid' is the law's where the arguments, and the package variables that the reading takes, are together of bulk at most 1048576: NARROWER than '..Said'. Prove '..Said' where nothing that the law and all that it calls make is longer than what came in: it says more and counts as full. Else prove '..UptoSaid'. A law counts once. -/
mutual
def uptoBulk {H : Type} : DataW H → Nat
  | .lit (.string bytes) => bytes.length + 1
  | .lit _ => 1
  | .nil => 1
  | .ptr d => uptoBulk d + 1
  | .slice elems spare => uptoBulkAll elems + uptoBulkAll spare + 1
  | .agg parts => uptoBulkAll parts + 1
  | .iface _ d => uptoBulk d + 1
  | .map entries => uptoBulkEntries entries + 1
  | .held _ => 1
def uptoBulkAll {H : Type} : List (DataW H) → Nat
  | [] => 0
  | d :: r => uptoBulk d + uptoBulkAll r
def uptoBulkEntries {H : Type} : List (Lit × DataW H) → Nat
  | [] => 0
  | x :: r => uptoBulkEntry x + uptoBulkEntries r
def uptoBulkEntry {H : Type} : Lit × DataW H → Nat
  | (.string bytes, d) => bytes.length + uptoBulk d + 1
  | (_, d) => uptoBulk d + 1
 end
def uptoSmall : (H : Type) → List (DataW H) → Bool := fun _ ds => decide (uptoBulkAll ds ≤ 1048576)
def OpenSpec.upto (s : _root_.Go.ChangeSpec) : _root_.Go.OpenSpec := { _root_.Go.OpenSpec.ofChange s with cond := some uptoSmall }

/-- 'gantrylaw14.ProducerPlays', WHERE WHAT IT READS IS OF BULK AT MOST 1048576: true; the input reads as it did. -/
def producerPlaysUptoRow : OpenClaim := { program := "ytolobmhbmajolaa", sum := "a90f8a27e822c1bf7b7f0bd0fbc9036c4468885ec749e799df752991bb1837e7", func := "gantry/gantrylaw14.ProducerPlays", spec := "producerPlays", unfollowed := true, recurses := true, apart := false, narrowed := true }
def ProducerPlaysUptoSaid : Prop := producerPlaysUptoRow.holds Try.pinned (OpenSpec.upto producerPlaysSpec)

/-- 'gantrylaw14.ProducerOf', WHERE WHAT IT READS IS OF BULK AT MOST 1048576: true; the input reads as it did. -/
def producerOfUptoRow : OpenClaim := { program := "ytolobmhbmajolaa", sum := "a90f8a27e822c1bf7b7f0bd0fbc9036c4468885ec749e799df752991bb1837e7", func := "gantry/gantrylaw14.ProducerOf", spec := "producerOf", unfollowed := true, recurses := true, apart := false, narrowed := true }
def ProducerOfUptoSaid : Prop := producerOfUptoRow.holds Try.pinned (OpenSpec.upto producerOfSpec)

/-- 'gantrylaw14.ProducerOnce', WHERE WHAT IT READS IS OF BULK AT MOST 1048576: true; the input reads as it did. -/
def producerOnceUptoRow : OpenClaim := { program := "ytolobmhbmajolaa", sum := "a90f8a27e822c1bf7b7f0bd0fbc9036c4468885ec749e799df752991bb1837e7", func := "gantry/gantrylaw14.ProducerOnce", spec := "producerOnce", unfollowed := true, recurses := true, apart := false, narrowed := true }
def ProducerOnceUptoSaid : Prop := producerOnceUptoRow.holds Try.pinned (OpenSpec.upto producerOnceSpec)

/-- 'gantrylaw14.ProducerApart', WHERE WHAT IT READS IS OF BULK AT MOST 1048576: true; the input reads as it did. -/
def producerApartUptoRow : OpenClaim := { program := "ytolobmhbmajolaa", sum := "a90f8a27e822c1bf7b7f0bd0fbc9036c4468885ec749e799df752991bb1837e7", func := "gantry/gantrylaw14.ProducerApart", spec := "producerApart", unfollowed := true, recurses := true, apart := false, narrowed := true }
def ProducerApartUptoSaid : Prop := producerApartUptoRow.holds Try.pinned (OpenSpec.upto producerApartSpec)

/-- 'gantrylaw14.ProducerFresh', WHERE WHAT IT READS IS OF BULK AT MOST 1048576: true; the input reads as it did. -/
def producerFreshUptoRow : OpenClaim := { program := "ytolobmhbmajolaa", sum := "a90f8a27e822c1bf7b7f0bd0fbc9036c4468885ec749e799df752991bb1837e7", func := "gantry/gantrylaw14.ProducerFresh", spec := "producerFresh", unfollowed := true, recurses := true, apart := false, narrowed := true }
def ProducerFreshUptoSaid : Prop := producerFreshUptoRow.holds Try.pinned (OpenSpec.upto producerFreshSpec)

end Rows
end Go.Proofs.Ytolobmhbmajolaa
