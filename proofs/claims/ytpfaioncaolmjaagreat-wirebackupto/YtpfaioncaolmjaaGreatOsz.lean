/- How many bytes a record's form has, as the program counts them; nothing that was there before is turned. -/
import Derived.Test.YtpfaioncaolmjaaGreatRecN
import Derived.Test.YtpfaioncaolmjaaGreatSiz
import Derived.Deep.QuietTactic
import Derived.BigQuiet
import Derived.Deep.RegionHeld3
import Derived.Deep.DeepCutAuto
namespace Go.Proofs.YtpfaioncaolmjaaGreat
open Go.RowKit
theorem drewN_bel {w0 w : World} {B : Nat} (hb : Below B w0 w) (n : Nat) : Below B w0 (w.drewN n) := ⟨hb.os, hb.tape, hb.output, hb.size, hb.block⟩
theorem hid {p : Prop} (h : p) : Hid p := h
end Go.Proofs.YtpfaioncaolmjaaGreat
