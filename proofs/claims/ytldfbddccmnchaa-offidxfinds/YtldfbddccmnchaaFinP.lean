/- OffidxFinds: the walk, as it is asked for. -/
import Derived.Test.YtldfbddccmnchaaEOpen
namespace Go.Proofs.Ytldfbddccmnchaa
open Go.RowKit
theorem finds_row (l0 : List En) (a : Option Addr) (cap : Nat) (ks : List Int) (ka : Option Addr) (kc : Nat) (w : World) (hv : Ens w a l0) (hn : l0.length ≤ 8796093021952) (_ : ∀ y ∈ l0, EnOk y) (hk : Kys w ka ks) (hkn : ks.length ≤ 140737488355328) :
    Calls Try.prog 5 #[.slice a l0.length cap, .slice ka ks.length kc] w fun e w' => e = .returned (.bool true) ∧ Below w.heap.size w w' := finds_walk l0 a cap ks ka kc w hv (by omega) hk (by omega)
end Go.Proofs.Ytldfbddccmnchaa
