/- The program's index: Find. -/
import Derived.Test.YtmhmohkeekmmgaaTxe
import Derived.BigRegion
namespace Go.Proofs.Ytmhmohkeekmmgaa
open Go.RowKit
/-- What Find answers: the entry, how many looks, and whether there is one. -/
def findV (l : List En) (t : Int) : Value := .tuple #[enV (atE l ((cnt l t : Int) - 1)).1, .int .i64 (pr l t), .bool (atE l ((cnt l t : Int) - 1)).2]
theorem Bx.c {w : World} {pb sb tb x : Nat} {t c : Int} (h : Bx w pb sb tb x t c) : w.cell? ⟨pb, 0, none⟩ = some (.int .i64 c) ∧ w.cell? ⟨sb, 0, none⟩ = some (.pointer (some ⟨x, 0, none⟩)) := ⟨(cell_of h.p).trans rfl, (cell_of h.s).trans rfl⟩
theorem Bx.below {w w' : World} {pb sb tb x : Nat} {t c : Int} (h : Bx w pb sb tb x t c) (hb : Below w.heap.size w w') : Bx w' pb sb tb x t c := ⟨(hb.block _ (lt_of_heap h.p)).trans h.p, (hb.block _ (lt_of_heap h.s)).trans h.s, (hb.block _ (lt_of_heap h.t)).trans h.t⟩
set_option maxRecDepth 20000 in
set_option maxHeartbeats 2000000 in
theorem find_any (p : Option Addr) (t : Int) (v : Value) (l : List En) (w : World) (h : Ip w p v l) (hO : Ord l) (hn : l.length ≤ 8796093022208) : Calls Try.prog 24 #[.pointer p, .int .i64 t] w fun r w' => r = .returned (findV l t) ∧ Below w.heap.size w w' := by
  have hmf : ∀ (fn : Fn) (first cap : Array Value) (w : World), (Instr.makeFunc fn first cap).run Try.prog w = .ok (.func fn first cap) w := fun _ _ _ _ => rfl
  obtain ⟨wa, hwa⟩ : ∃ wa, ((w.alloc (.cells #[.int .i64 t] 2)).alloc (.cells #[.int .i64 0, .int .i64 0] 29)).alloc (.cells #[.int .i64 0] 3) = wa := ⟨_, rfl⟩
  have HSZ : Hid (wa.heap.size = w.heap.size + 1 + 1 + 1) := by rw [← hwa]; show _ = _; simp
  have HB0 : Hid (Below w.heap.size w wa) := by rw [← hwa]; exact (((Below.refl w.heap.size w).alloc (Nat.le_refl _) _).alloc (by simp) _).alloc (by simp; omega) _
  have HT : Hid (wa.heap[w.heap.size]? = some (.cells #[.int .i64 t] 2 (0, 0))) := by rw [← hwa]; exact heap_alloc_at (heap_alloc_at (heap_new _ _))
  have HRB : Hid (wa.heap[w.heap.size + 1]? = some (.cells #[.int .i64 0, .int .i64 0] 29 (0, 0))) := by
    have := heap_new (w.alloc (.cells #[.int .i64 t] 2)) (.cells #[.int .i64 0, .int .i64 0] 29 (0, 0))
    rw [← hwa]
    refine hid (heap_alloc_at ?_)
    simpa using this
  have HPB : Hid (wa.heap[w.heap.size + 1 + 1]? = some (.cells #[.int .i64 0] 3 (0, 0))) := by
    have := heap_new ((w.alloc (.cells #[.int .i64 t] 2)).alloc (.cells #[.int .i64 0, .int .i64 0] 29)) (.cells #[.int .i64 0] 3 (0, 0))
    rw [← hwa]
    refine hid ?_
    simpa using this
  have HS : Hid (Calls Try.prog 31 #[.pointer p] wa fun e w' => ∃ x, e = .returned (.pointer (some ⟨x, 0, none⟩)) ∧ Ix 60 w' x v l ∧ Iq wa w' p x v) := source_any p v l _ (h.below HB0.out)
  have HNE : Hid (∀ w1 x, Iq wa w1 p x v → w.heap.size + 1 + 1 ≠ x ∧ ∀ g, v.ownBlock = some g → g ≠ w.heap.size + 1 + 1) := fun w1 x hq => by
    have hs := HSZ.out
    rcases hq with ⟨rfl, _⟩ | ⟨rfl, rfl, rfl, _⟩
    · rcases h with ⟨x', h1, h2⟩ | ⟨h1, _⟩
      · cases h1
        have hx := h2.lt x (Or.inl rfl)
        exact ⟨by omega, fun g hg => by have := h2.lt g (Or.inr hg); omega⟩
      · cases h1
    · exact ⟨by omega, fun g hg => by cases hg⟩
  have HF : Hid (∀ wx x sb, Ix 60 wx x v l → Bx wx (w.heap.size + 1 + 1) sb w.heap.size x t 0 → (w.heap.size + 1 + 1 ≠ x ∧ ∀ g, v.ownBlock = some g → g ≠ w.heap.size + 1 + 1) → Calls Try.prog 47 #[.int .i64 l.length, .func (.func 49) #[] #[.pointer (some ⟨w.heap.size + 1 + 1, 0, none⟩), .pointer (some ⟨sb, 0, none⟩), .pointer (some ⟨w.heap.size, 0, none⟩)]] wx fun r w' => r = .returned (.int .i64 (cnt l t)) ∧ Bx w' (w.heap.size + 1 + 1) sb w.heap.size x t (pr l t) ∧ Ch (fun i => i = w.heap.size + 1 + 1) wx w' ∧ Ix 60 w' x v l) := fun wx x sb hx hb hne => (search_any _ sb _ x t v l wx hx hO hn hb hne.1 hne.2).mono fun r w' ⟨h1, h2, h3⟩ => ⟨h1, h2, h3, hx.ch h3 (fun i hi => by
      rcases hi with rfl | hi
      · exact fun e => hne.1 e.symm
      · exact hne.2 i hi)⟩
  have HCt : Hid (∀ wx x, Ix 60 wx x v l → Calls Try.prog 48 #[.pointer (some ⟨x, 0, none⟩)] wx fun e w' => e = .returned (.int .i64 l.length) ∧ w' = wx) := fun wx x hx => count_any x v l wx hx
  have HEn : Hid (∀ wx x, Ix 60 wx x v l → Calls Try.prog 50 #[.pointer (some ⟨x, 0, none⟩), .int .i64 ((cnt l t : Int) - 1)] wx fun e w' => e = .returned (.tuple #[enV (atE l ((cnt l t : Int) - 1)).1, .bool (atE l ((cnt l t : Int) - 1)).2]) ∧ Below wx.heap.size wx w') := fun wx x hx => entry_any x _ v l wx hx
  have HFV : Hid (findV l t = .tuple #[enV (atE l ((cnt l t : Int) - 1)).1, .int .i64 (pr l t), .bool (atE l ((cnt l t : Int) - 1)).2]) := rfl
  have hcl : cnt l t ≤ 8796093022208 := Nat.le_trans (cnt_le l t) hn
  generalize findV l t = FV at *
  generalize atE l ((cnt l t : Int) - 1) = R at *
  generalize cnt l t = CN at *
  generalize pr l t = PR at *
  obtain ⟨⟨rk, ra⟩, rb⟩ := R
  unfold enV at HEn HFV
  simp only at HEn HFV
  generalize l.length = N at *
  clear h hO hn
  go_enter Try.func24, Try.ntmps24
  go_wp2_with (go_at_call 31; refine HS.out.mono ?_; rintro e w1 ⟨x, rfl, hx, hq⟩; have HX := hid (hx.alloc (.cells #[.pointer (some ⟨x, 0, none⟩)] 24)); have HN := hid (HNE.out _ _ hq); have HQ := hid hq.below; clear hx hq)
  have HBx : Hid (Bx (w1.alloc (.cells #[.pointer (some ⟨x, 0, none⟩)] 24)) (w.heap.size + 1 + 1) w1.heap.size w.heap.size x t 0) := ⟨heap_alloc_at ((HQ.out.block _ (lt_of_heap HPB.out)).trans HPB.out), heap_new _ _, heap_alloc_at ((HQ.out.block _ (lt_of_heap HT.out)).trans HT.out)⟩
  have HB2 : Hid (Below w.heap.size w (w1.alloc (.cells #[.pointer (some ⟨x, 0, none⟩)] 24))) := (HB0.out.trans (HQ.out.mono HB0.out.size)).alloc (Nat.le_trans HB0.out.size HQ.out.size) _
  have HR2 : Hid ((w1.alloc (.cells #[.pointer (some ⟨x, 0, none⟩)] 24)).heap[w.heap.size + 1]? = some (.cells #[.int .i64 0, .int .i64 0] 29 (0, 0))) := heap_alloc_at ((HQ.out.block _ (lt_of_heap HRB.out)).trans HRB.out)
  generalize w1.alloc (.cells #[.pointer (some ⟨x, 0, none⟩)] 24) = w2 at *
  generalize w1.heap.size = sb at *
  obtain ⟨b0, b1⟩ := HBx.out.c
  clear HS HNE HQ HT HRB HPB hwa
  go_wp2_with (first | (go_at_call 48; refine (HCt.out _ x HX.out).mono ?_; rintro e w' ⟨rfl, rfl⟩) | (go_at_call 47; refine (HF.out _ x sb HX.out HBx.out HN.out).mono ?_; rintro e w3 ⟨rfl, hb3, hc3, hx3⟩; obtain ⟨d0, d1⟩ := hb3.c; have HBx3 := hid hb3; have HX3 := hid hx3; have HB3 : Hid (Below w.heap.size w w3) := HB2.out.trans (hc3.below HB2.out.size (fun i hi e => by omega)); have HR3 := hid ((hc3.block _ (lt_of_heap HR2.out) (by omega)).trans HR2.out); clear hb3 hc3 hx3) | (go_at_call 50; refine (HEn.out _ x HX3.out).mono ?_; rintro e w4 ⟨rfl, hb4⟩; obtain ⟨z1, z2, z3, z4⟩ := e4 ((hb4.block _ (lt_of_heap HR3.out)).trans HR3.out); have HR4 := hid ((hb4.block _ (lt_of_heap HR3.out)).trans HR3.out); have HP4 := hid (HBx3.out.below hb4).p; have HB4 : Hid (Below w.heap.size w w4) := HB3.out.trans (hb4.mono HB3.out.size); clear hb4))
  have HB5 : Hid (Below w.heap.size w ((w4.setCell ⟨w.heap.size + 1, 0, none⟩ (.int .i64 rk)).setCell ⟨w.heap.size + 1, 1, none⟩ (.int .i64 ra))) := (HB4.out.setCell (by simp) _).setCell (by simp) _
  obtain ⟨y1, y2, y3, y4⟩ := e4 (T := 29) (p := rk) (q := ra) (heap_set (i := 1) (v := .int .i64 ra) (heap_set (i := 0) (v := .int .i64 rk) HR4.out))
  have HP5 := hid (heap_set_far (p := ⟨w.heap.size + 1, 1, none⟩) (v := .int .i64 ra) (heap_set_far (p := ⟨w.heap.size + 1, 0, none⟩) (v := .int .i64 rk) HP4.out (by show w.heap.size + 1 + 1 ≠ w.heap.size + 1; omega)) (by show w.heap.size + 1 + 1 ≠ w.heap.size + 1; omega))
  have y5 := (cell_of (i := 0) HP5.out).trans rfl
  have y6 := froz_of (i := 0) HP5.out
  have y5' : ((w4.setCell ⟨w.heap.size + 1, 0, none⟩ (.int .i64 rk)).setCell ⟨w.heap.size + 1, 1, none⟩ (.int .i64 ra)).cell? ⟨w.heap.size + 1 + 1, 0, none⟩ = some (.int .i64 PR) := y5
  generalize (w4.setCell ⟨w.heap.size + 1, 0, none⟩ (.int .i64 rk)).setCell ⟨w.heap.size + 1, 1, none⟩ (.int .i64 ra) = w5 at *
  clear z1 z2 z3 z4 d0 d1 b0 b1 y5 HP5 HR4 HP4 HX HX3 HBx HBx3 HR2 HR3 HB2 HB3 HB4 HN HF HCt HEn
  go_region
  go_wp2_with fail
  refine bodyPost_ret (v := .tuple #[.agg #[.int .i64 rk, .int .i64 ra], .int .i64 PR, .bool rb]) (by simp [results, Try.results24, go_sem, y1, y2, y5']) rfl ⟨by rw [HFV.out], ?_⟩
  exact (((HB5.out.setCell (by simp) _).setCell (by simp) _).setCell (by simp; omega) _).trans ⟨rfl, rfl, rfl, Nat.le_refl _, fun _ _ => rfl⟩
end Go.Proofs.Ytmhmohkeekmmgaa
