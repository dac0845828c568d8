import Derived.Test.YtlbkkeoffeohnabBse
import Derived.Test.YtlbkkeoffeohnabBcb
import Derived.Test.YtlbkkeoffeohnabRbd
import Derived.Test.YtlbkkeoffeohnabRdr3
import Derived.Test.YtlbkkeoffeohnabWrec
import Derived.Test.YtlbkkeoffeohnabBrf
import Derived.Test.YtlbkkeoffeohnabBsm
import Derived.Test.YtlbkkeoffeohnabSays
import Derived.Test.YtlbkkeoffeohnabAnsd
import Derived.Test.YtlbkkeoffeohnabOsz
import Derived.ProofKit
import Derived.OpenShut
import Derived.ShutString
import Derived.ChangeOld
import Derived.JoinedCond
import Derived.ChangeSame
import Derived.Deep.Slices
import Derived.Deep.Strs
import Derived.Deep.RegionHeld
import Derived.Deep.RegionHeld3
import Derived.Deep.LoopGhost
/- Peek, Check and Decode of the program and of the document, side by side. -/
namespace Go.Proofs.Ytlbkkeoffeohnab
open Go.RowKit
theorem samL_map {l m : List RI} (h : l.map RI.r = m.map RI.r) : SamL l m := by
  have hl : l.length = m.length := by have := congrArg List.length h; simpa using this
  refine ⟨hl, fun j hj => ?_⟩
  have e := congrArg (fun l => l[j]?) h
  simp only [List.getElem?_map] at e
  rw [List.getElem?_eq_getElem hj, List.getElem?_eq_getElem (by omega)] at e
  rw [List.getD_eq_getElem?_getD, List.getD_eq_getElem?_getD, List.getElem?_eq_getElem hj, List.getElem?_eq_getElem (by omega)]
  simp only [Option.map_some] at e
  injection e with e
  simp only [Option.getD_some]
  rw [e]
  exact SamR.refl _
end Go.Proofs.Ytlbkkeoffeohnab
