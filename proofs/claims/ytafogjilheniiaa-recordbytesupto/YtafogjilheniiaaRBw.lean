/- RecordBytes' walk: the form and the size of any record. -/
import Derived.Test.YtafogjilheniiaaRBz
import Derived.Test.YtafogjilheniiaaFm5
import Derived.Test.YtafogjilheniiaaRecOpen
namespace Go.Proofs.Ytafogjilheniiaa
open Go.RowKit
theorem bym_size (r : Rec) (first n : Int) : (bym r first n).size = szn r first n := by
  unfold bym szn
  split
  · rw [bs_size]
  · rfl
set_option maxHeartbeats 1000000 in
set_option maxRecDepth 20000 in
theorem bytes_walk (r : Rec) (a : Option Addr) (cap : Nat) (first n : Int) (w : World) (V : Hds w a r.hs) (ht : I64 r.t) (hf : I64 first) (hm : Mod r) :
    Calls Try.prog 3 #[recV r a cap, .int .i64 first, .int .i64 n] w fun e w' => e = .returned (.bool true) ∧ Below w.heap.size w w' := by
  have cb := fun x V => bytes5_any r a cap first n x V ht hf hm
  have cr := fun x V => rbytes_any r a cap first n x V ht hf hm
  have cs := fun x V => size5_any r a cap first n x V ht hf hm
  simp only [← bym_size] at cs
  generalize bym r first n = S at *
  generalize sze r first n = E at *
  have CFm := hid (fun x => forms_any x)
  have HVV := hid V
  have CB := hid cb
  have CR := hid cr
  have CS := hid cs
  obtain ⟨t, kh, kd, vh, vd, hs⟩ := r
  simp only [recV] at *
  clear V hm cb cr cs ht hf
  go_enter Try.func3, Try.ntmps3
  go_wp2_with fail
  have hb0 : Below w.heap.size w (w.alloc (.cells #[.int .i64 t, .bool kh, .string kd, .bool vh, .string vd, .slice a hs.length cap] 26)) := (Below.refl _ w).alloc (Nat.le_refl _) _
  have g0 : (w.alloc (.cells #[.int .i64 t, .bool kh, .string kd, .bool vh, .string vd, .slice a hs.length cap] 26)).heap[w.heap.size]? = some (.cells #[.int .i64 t, .bool kh, .string kd, .bool vh, .string vd, .slice a hs.length cap] 26 (0, 0)) := heap_new _ _
  generalize w.alloc (.cells #[.int .i64 t, .bool kh, .string kd, .bool vh, .string vd, .slice a hs.length cap] 26) = w0 at *
  refine (CFm.out _).mono ?_
  rintro e w1 ⟨rfl, hb1⟩
  have g1 := (hb1.block _ (lt_of_heap g0)).trans g0
  obtain ⟨c0, c1, c2, c3, c4, c5⟩ := cells6 g1
  have V1 := hid ((HVV.out.below hb0).below hb1)
  have HB1 := hid (bel_next hb0 (Nat.le_refl _) hb1)
  have G1 := hid g1
  clear g0 g1 hb1 hb0
  go_wp2_with fail
  refine (CB.out _ V1.out).mono ?_
  rintro e w2 ⟨rfl, hb2⟩
  have g2 := (hb2.block _ (lt_of_heap G1.out)).trans G1.out
  have V2 := hid (V1.out.below hb2)
  have HB2 := hid (bel_next HB1.out (Nat.le_refl _) hb2)
  clear hb2 c0 c1 c2 c3 c4 c5
  obtain ⟨c0, c1, c2, c3, c4, c5⟩ := cells6 g2
  have G2 := hid g2
  clear g2
  go_wp2_with fail
  refine (CR.out _ V2.out).mono ?_
  rintro e w3 ⟨rfl, hb3⟩
  have g3 := (hb3.block _ (lt_of_heap G2.out)).trans G2.out
  have V3 := hid (V2.out.below hb3)
  have HB3 := hid (bel_next HB2.out (Nat.le_refl _) hb3)
  clear hb3 c0 c1 c2 c3 c4 c5
  obtain ⟨c0, c1, c2, c3, c4, c5⟩ := cells6 g3
  clear g3
  go_wp2_with fail
  refine (CS.out _ V3.out).mono ?_
  rintro e w4 ⟨rfl, hb4⟩
  have HB4 := hid (bel_next HB3.out (Nat.le_refl _) hb4)
  clear hb4
  go_wp2_with fail
  go_ret
  exact ⟨rfl, HB4.out⟩
end Go.Proofs.Ytafogjilheniiaa
