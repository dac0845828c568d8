/- ProducerOnce: its walk over what comes in. -/
import Derived.Test.YtolobmhbmajolaaPe3
namespace Go.Proofs.Ytolobmhbmajolaa
open Go.RowKit
theorem once_any (p fst : Int) (cs : List Nat) (a : Option Addr) (cap : Nat) (seq cn : Int) (w : World) (hp0 : 0 ≤ p) (hp1 : p ≤ 4294967295) (_hf0 : -2147483648 ≤ fst) (_hf1 : fst ≤ 2147483647) (hv : U16 w a cs) (hn : cs.length ≤ 140737488355328) (_hs0 : -2147483648 ≤ seq) (hs1 : seq ≤ 2147483647) (hc0 : 0 ≤ cn) (hc1 : cn ≤ 65535) :
    Calls Try.prog 5 #[.int .u32 p, .int .i32 fst, .slice a cs.length cap, .int .i32 seq, .int .u16 cn] w fun e w' => e = .returned (.bool true) ∧ Below w.heap.size w w' := by
  obtain ⟨P, rfl⟩ := Int.eq_ofNat_of_zero_le hp0
  obtain ⟨C, rfl⟩ := Int.eq_ofNat_of_zero_le hc0
  exact once_walk P (by omega) fst cs a cap seq (by omega) C (by omega) w hv hn
end Go.Proofs.Ytolobmhbmajolaa
