/- What came in: a row of texts; a nil one has no room. NamesGroups as it is asked for. -/
import Derived.Test.YtgffipkbbenddaaDoorNgw
namespace Go.Proofs.YtgffipkbbenddaaDoor
open Go.ChangeShapes Go.WideShapes Go.ChangeAt Go.RowKit Go.Deep Go.Lib
theorem open_strs9n {H : Type} {enc : TypeId × Value → H} {W : World} {fuel : Nat} {cs : List Value} {x : DataW H × List MemPlace} (h : DataW.trod enc Tryd.prog W 0 (fun _ => true) true fuel 29 cs = some x) (hz : ∀ n ∈ x.1.weights Tryd.prog 29, n ≤ reachBytes) : ∃ (a : Option Addr) (cap : Nat) (l : List ByteArray), cs = [.slice a l.length cap] ∧ Txs W a l ∧ l.length ≤ 8796093021952 ∧ ((∀ y ∈ l, y.size ≤ 140737488355328) ∧ (a = none → cap = 0)) := by
  obtain ⟨a, cap, l, h1, h2, h3, h4⟩ := open_strs9t h hz
  refine ⟨a, cap, l, h1, h2, h3, h4, fun ha => ?_⟩
  rcases open_slice Tryd.underlying29 h with ⟨hcs', hx⟩ | ⟨x', l', c, m, n, D, Pl, hcs', _⟩
  · rw [h1] at hcs'
    simp at hcs'
    exact hcs'.2.2
  · rw [h1, ha] at hcs'
    simp at hcs'
theorem groups_row (l : List ByteArray) (a : Option Addr) (cap : Nat) (w : World) (G : Gd w) (hv : Txs w a l) (hn : l.length ≤ 8796093021952) (hk : (∀ y ∈ l, y.size ≤ 140737488355328) ∧ (a = none → cap = 0)) :
    Calls Tryd.prog 5 #[.slice a l.length cap] w fun e w' => e = .returned (.bool true) ∧ Below w.heap.size w w' := groups_walk l a cap w G hv hn hk.1 hk.2
end Go.Proofs.YtgffipkbbenddaaDoor
