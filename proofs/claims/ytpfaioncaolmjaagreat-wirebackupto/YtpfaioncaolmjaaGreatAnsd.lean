/- What a call of a reader answers, and how the reader stands behind it. -/
import Derived.Test.YtpfaioncaolmjaaGreatAtt
import Derived.Deep.RegionHeld3
namespace Go.Proofs.YtpfaioncaolmjaaGreat
open Go.RowKit
/-- What a call of a reader answers, and how it stands behind it. -/
def Ans (b : Nat) (s : ByteArray) (v : Value) (k' e' : Nat) (w : World) (e : Ending) (w' : World) : Prop := e = .returned (.tuple #[v, .int .i64 e']) ∧ Rd w' b s k' e' ∧ Ch (fun i => i = b) w w'
theorem heap_new' (w : World) (o : Obj) (n : Nat) (h : w.heap.size = n) : (w.alloc o).heap[n]? = some o := by subst h; exact heap_new _ _
theorem Hid.mk {p : Prop} (h : p) : Hid p := h
end Go.Proofs.YtpfaioncaolmjaaGreat
