/- OffidxNone: its walk. -/
import Derived.Test.YtldfbddccmnchaaOOpen
namespace Go.Proofs.Ytldfbddccmnchaa
open Go.RowKit
theorem ip_none (w : World) : Ip w none (.slice none 0 0) [] := Or.inr ⟨rfl, rfl, rfl⟩
/-- A nil index beside a new one of the document's. -/
theorem pp_none (w : World) : Pp (w.alloc (.cells #[.slice none 0 0] 68)) none w.heap.size (.slice none 0 0) (.slice none 0 0) [] := ⟨ip_none _, Ix.new _ _, Ord.nil, fun g x e => by cases e⟩
theorem bs_nil : bs (eby []) = (⟨#[]⟩ : ByteArray) := rfl
set_option maxRecDepth 20000 in
set_option maxHeartbeats 4000000 in
theorem none_walk (os : List Op4) (a : Option Addr) (cap : Nat) (w : World) (hv : Ops w a os) (hn : os.length ≤ 4398046511104) :
    Calls Try.prog 8 #[.slice a os.length cap] w fun e w' => e = .returned (.bool true) ∧ Below w.heap.size w w' := by
  have HF := hid (fixed_any w)
  have HV := hid hv
  have HLk : Hid (∀ wx p y v v' l, Pp wx p y v v' l → l.length ≤ 8796093022000 → Calls Try.prog 12 #[.pointer p, .pointer (some ⟨y, 0, none⟩)] wx fun e w' => e = .returned (.bool true) ∧ Below wx.heap.size wx w') := fun wx p y v v' l h hl => looks_yes p y v v' l wx h.ip h.iy hl
  have HSt : Hid (∀ wx p y v v' l k ek ea n, Pp wx p y v v' l → l.length ≤ 8796093022000 → Calls Try.prog 15 #[.pointer p, .pointer (some ⟨y, 0, none⟩), .agg #[.int .i64 k, .int .i64 ek, .int .i64 ea, .int .i64 n]] wx fun e w' => e = .returned (.bool true) ∧ StepP wx w' p y v v' l.length) := fun wx p y v v' l k ek ea n h hl => step_any ⟨k, ⟨ek, ea⟩, n⟩ p y v v' l wx h hl
  have N1 : Hid (∀ wx, Calls Try.prog 24 #[.pointer none] wx fun e w' => e = .returned (.int .i64 0) ∧ Below wx.heap.size wx w') := fun wx => len_any none _ [] wx (ip_none _)
  have N2 : Hid (∀ wx, Calls Try.prog 27 #[.pointer none] wx fun e w' => (∃ a c, e = .returned (.slice a 0 c)) ∧ Below wx.heap.size wx w') := fun wx => (entries_any none _ [] wx (ip_none _) (by simp)).mono fun e w' ⟨⟨v', h1, h2⟩, h3⟩ => ⟨by obtain ⟨a, c, rfl, _⟩ := h2.ens; exact ⟨a, c, h1⟩, h3⟩
  have N3 : Hid (∀ wx, Calls Try.prog 26 #[.pointer none] wx fun e w' => e = .returned (.string ⟨#[]⟩) ∧ Below wx.heap.size wx w') := fun wx => ibytes_any none _ [] wx (ip_none _) (by simp)
  have N4 : Hid (∀ wx, Calls Try.prog 29 #[.pointer none] wx fun e w' => e = .returned (.tuple #[.agg #[.int .i64 0, .int .i64 0], .bool false]) ∧ Below wx.heap.size wx w') := fun wx => ilast_any none _ [] wx (ip_none _) (by simp)
  have N5 := hid iclone_none
  obtain ⟨M, hM⟩ : ∃ M, M = os.length := ⟨_, rfl⟩
  have HM := hid hM
  rw [← hM] at hn ⊢
  clear hv hM
  go_enter Try.func8, Try.ntmps8
  go_wp2_with (first | (go_at_call 9; refine HF.out.mono ?_; rintro e w1 ⟨rfl, hb1⟩; have HB1 := hid hb1; have HS1 := hid (Pz.start w1); clear hb1) | (go_at_call 11; refine (rnew_any _).mono ?_; rintro e w' ⟨rfl, rfl⟩))
  have HBw : Hid (∀ wx, Below w1.heap.size w1 wx → Below w.heap.size w wx) := fun wx hx => HB1.out.trans (hx.mono HB1.out.size)
  generalize hX : w1.heap.size = X at *
  clear hX HB1 HF
  go_loopg [6] M (fun k vi wr => ∃ (j : Nat) (v v' : Value) (l : List En), j + k = M ∧ vi = .int .i64 j ∧ l.length ≤ j ∧ Hid (Pz w1 wr X X (X + 1) v v' l))
  case atStart => exact ⟨0, _, _, [], by omega, rfl, Nat.le_refl _, HS1.out⟩
  case round =>
    clear HS1
    obtain ⟨j, v, v', l, hj, rfl, hl, HZ⟩ := hrel
    by_cases hlt : j < M
    · obtain ⟨k', rfl⟩ : ∃ k', gk = k' + 1 := ⟨gk - 1, by omega⟩
      have hltI : (j : Int) < M := by omega
      obtain ⟨b, off, rfl, hb, hrd⟩ := HV.out.read (j := j) (by rw [← HM.out]; exact hlt)
      have HRD := hid hrd
      obtain ⟨k, ⟨ek, ea⟩, n, ho⟩ : ∃ k e n, os.getD j op0 = ⟨k, e, n⟩ := ⟨_, _, _, rfl⟩
      obtain ⟨c0, c1, c2, c3⟩ := HRD.out wr (HBw.out wr HZ.out.bel) k ek ea n ho
      have HJ := hid hj
      obtain ⟨wa, hwa⟩ : ∃ wa, wr.alloc (.cells #[.int .i64 k, .int .i64 ek, .int .i64 ea, .int .i64 n] 32) = wa := ⟨_, rfl⟩
      have HOa : Hid (wa.heap[wr.heap.size]? = some (.cells #[.int .i64 k, .int .i64 ek, .int .i64 ea, .int .i64 n] 32 (0, 0))) := by rw [← hwa]; exact heap_new _ _
      have HBa : Hid (Below wr.heap.size wr wa) := by rw [← hwa]; exact (Below.refl _ _).alloc (Nat.le_refl _) _
      have HPn := hid (pp_none wa)
      have HOb : Hid ((wa.alloc (.cells #[.slice none 0 0] 68)).heap[wr.heap.size]? = some (.cells #[.int .i64 k, .int .i64 ek, .int .i64 ea, .int .i64 n] 32 (0, 0))) := heap_alloc_at HOa.out
      have HBb : Hid (Below wr.heap.size wr (wa.alloc (.cells #[.slice none 0 0] 68))) := HBa.out.alloc HBa.out.size _
      have hlt0 : wr.heap.size < wa.heap.size := lt_of_heap HOa.out
      have HSn : Hid (∀ w', StepP (wa.alloc (.cells #[.slice none 0 0] 68)) w' none wa.heap.size (.slice none 0 0) (.slice none 0 0) 0 → Below wr.heap.size wr w' ∧ w'.heap[wr.heap.size]? = some (.cells #[.int .i64 k, .int .i64 ek, .int .i64 ea, .int .i64 n] 32 (0, 0))) := fun w' hs => by
        obtain ⟨_, _, _, _, hc, _⟩ := hs
        have hq : ∀ i, QQ none wa.heap.size (.slice none 0 0) (.slice none 0 0) i → i = wa.heap.size := by
          rintro i (⟨x, e, _⟩ | hi)
          · cases e
          · rcases hi with hi | hi
            · exact hi
            · cases hi
        refine ⟨HBb.out.trans (hc.below HBb.out.size (fun i hi h => by have := hq i h; omega)), (hc.block _ (lt_of_heap HOb.out) (fun h => by have := hq _ h; omega)).trans HOb.out⟩
      have HS1 := hid (HSt.out _ _ _ _ _ _ k ek ea n HPn.out (by simp))
      have HLl := hid hl
      obtain ⟨d0, d1, d2, d3, d4⟩ := box4 HOb.out
      clear hrd HRD ho hj hl HPn HOa
      go_wp2_with (first | (go_at_call 11; refine (rnew_any _).mono ?_; rintro e w' ⟨rfl, rfl⟩) | (go_at_call 15; with_reducible refine HS1.out.mono ?_; rintro e w3 ⟨rfl, hst⟩; obtain ⟨hb3, ho3⟩ := HSn.out _ hst; have HB3 := hid hb3; have HO3 := hid ho3; clear hst hb3 ho3) | (go_at_call 24; refine (N1.out _).mono ?_; rintro e w4 ⟨rfl, hb4⟩; have HB4 := hid hb4; clear hb4) | (go_at_call 27; refine (N2.out _).mono ?_; rintro e w5 ⟨⟨a5, c5, rfl⟩, hb5⟩; have HB5 := hid hb5; clear hb5) | (go_at_call 26; refine (N3.out _).mono ?_; rintro e w6 ⟨rfl, hb6⟩; have hb36 := (HB4.out.trans (HB5.out.mono HB4.out.size)).trans (hb6.mono (Nat.le_trans HB4.out.size HB5.out.size)); obtain ⟨f0, f1, f2, f3, f4⟩ := box4 ((hb36.block _ (lt_of_heap HO3.out)).trans HO3.out); have HZ6 := hid (HZ.out.later (HB3.out.trans (hb36.mono HB3.out.size))); have HS6 := hid (HSt.out _ _ _ _ _ _ k ek ea n HZ6.out.pp (by have := HLl.out; omega)); clear hb6 hb36) | (go_at_call 15; refine HS6.out.mono ?_; rintro e w7 ⟨rfl, hst⟩; obtain ⟨v1, v1', l1, hl1, hz1⟩ := HZ6.out.step hst; have HZ1 := hid hz1; have HL1 : Hid (l1.length ≤ j + 1) := (by have := HLl.out; show _ ≤ _; omega); clear hst hz1 hl1) | (go_at_call 12; refine (HLk.out _ _ _ _ _ _ HZ1.out.pp (by have := HL1.out; omega)).mono ?_; rintro e w8 ⟨rfl, hb8⟩; have HZ2 := hid (HZ1.out.later hb8); clear hb8))
      go_roundg k'
      case measure => omega
      case rel => exact ⟨j + 1, v1, v1', l1, by have := HJ.out; omega, congrArg (Value.int .i64) (by omega), HL1.out, HZ2.out⟩
    · have hltI : ¬ (j : Int) < M := by omega
      have HBE := hid (HBw.out _ HZ.out.bel)
      go_wp2_with (first | (go_at_call 29; refine (N4.out _).mono ?_; rintro e w3 ⟨rfl, hb3⟩; have HB3 := hid hb3; clear hb3) | (go_at_call 13; refine (N5.out _).mono ?_; rintro e w' ⟨rfl, rfl⟩))
      go_ret
      exact ⟨rfl, (HBE.out.trans (HB3.out.mono HBE.out.size)).alloc (Nat.le_trans HBE.out.size HB3.out.size) _⟩
end Go.Proofs.Ytldfbddccmnchaa
