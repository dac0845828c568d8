/- OffidxPlays: its walk. -/
import Derived.Test.YtldfbddccmnchaaOsw
namespace Go.Proofs.Ytldfbddccmnchaa
open Go.RowKit
/-- A script where it lies. -/
def Ops (w : World) (a : Option Addr) (l : List Op4) : Prop := l = [] ∨ ∃ b off, a = some ⟨b, off, none⟩ ∧ b < w.heap.size ∧ ∀ j, j < l.length → w.cell? ⟨b, off + j * 4, none⟩ = some (.int .i64 (l.getD j op0).k) ∧ w.cell? ⟨b, off + j * 4 + 1, none⟩ = some (.int .i64 (l.getD j op0).e.k) ∧ w.cell? ⟨b, off + j * 4 + 2, none⟩ = some (.int .i64 (l.getD j op0).e.a) ∧ w.cell? ⟨b, off + j * 4 + 3, none⟩ = some (.int .i64 (l.getD j op0).n)
/-- What is read of it in a later world. -/
theorem Ops.read {w : World} {a : Option Addr} {l : List Op4} (h : Ops w a l) {j : Nat} (hj : j < l.length) : ∃ b off, a = some ⟨b, off, none⟩ ∧ b < w.heap.size ∧ ∀ wx, Below w.heap.size w wx → ∀ k ek ea n, l.getD j op0 = ⟨k, ⟨ek, ea⟩, n⟩ → wx.cell? ⟨b, off + j * 4, none⟩ = some (.int .i64 k) ∧ wx.cell? ⟨b, off + j * 4 + 1, none⟩ = some (.int .i64 ek) ∧ wx.cell? ⟨b, off + j * 4 + 2, none⟩ = some (.int .i64 ea) ∧ wx.cell? ⟨b, off + j * 4 + 3, none⟩ = some (.int .i64 n) := by
  rcases h with e | ⟨b, off, rfl, hb, hc⟩
  · rw [e] at hj; cases hj
  · refine ⟨b, off, rfl, hb, fun wx hx k ek ea n he => ?_⟩
    obtain ⟨h0, h1, h2, h3⟩ := hc j hj
    rw [he] at h0 h1 h2 h3
    exact ⟨(hx.cell (p := ⟨b, off + j * 4, none⟩) hb).trans h0, (hx.cell (p := ⟨b, off + j * 4 + 1, none⟩) hb).trans h1, (hx.cell (p := ⟨b, off + j * 4 + 2, none⟩) hb).trans h2, (hx.cell (p := ⟨b, off + j * 4 + 3, none⟩) hb).trans h3⟩
/-- A pair of the call's own: all that is its own lies from B on. -/
structure Pz (w wr : World) (B x y : Nat) (v v' : Value) (l : List En) : Prop where
  pp : Pp wr (some ⟨x, 0, none⟩) y v v' l
  lo : ∀ i, QQ (some ⟨x, 0, none⟩) y v v' i → B ≤ i
  bel : Below B w wr
  le : B ≤ wr.heap.size
theorem Pz.later {w wr wx : World} {B x y : Nat} {v v' : Value} {l : List En} (h : Pz w wr B x y v v' l) (hb : Below wr.heap.size wr wx) : Pz w wx B x y v v' l :=
  ⟨h.pp.below hb, h.lo, h.bel.trans (hb.mono h.le), Nat.le_trans h.le hb.size⟩
theorem Pz.step {w wr w' : World} {B x y n : Nat} {v v' : Value} {l : List En} (h : Pz w wr B x y v v' l) (hs : StepP wr w' (some ⟨x, 0, none⟩) y v v' n) : ∃ v1 v1' l', l'.length ≤ n + 1 ∧ Pz w w' B x y v1 v1' l' := by
  obtain ⟨v1, v1', l', hl, hc, hm, hm', hy, hp⟩ := hs
  refine ⟨v1, v1', l', hl, hp x rfl, ?_, h.bel.trans (hc.below h.le (fun i hi hq => by have := h.lo i hq; omega)), Nat.le_trans h.le hc.size⟩
  have hle := h.le
  rintro i (⟨x', e, hi⟩ | hi)
  · cases e
    rcases hi with rfl | hi
    · exact h.lo _ (Or.inl ⟨_, rfl, Or.inl rfl⟩)
    · rcases hm i hi with h1 | h1
      · exact h.lo i (Or.inl ⟨_, rfl, Or.inr h1⟩)
      · omega
  · rcases hi with rfl | hi
    · exact h.lo _ (Or.inr (Or.inl rfl))
    · rcases hm' i hi with h1 | h1
      · exact h.lo i (Or.inr (Or.inr h1))
      · omega
/-- Two new ones. -/
theorem Pz.start (w : World) : Pz w ((w.alloc (.cells #[.slice none 0 0] 63)).alloc (.cells #[.slice none 0 0] 68)) w.heap.size w.heap.size (w.heap.size + 1) (.slice none 0 0) (.slice none 0 0) [] := by
  have h2 := Ix.new 68 (w.alloc (.cells #[.slice none 0 0] 63))
  rw [show (w.alloc (.cells #[.slice none 0 0] 63)).heap.size = w.heap.size + 1 from by simp] at h2
  refine ⟨⟨Or.inl ⟨_, rfl, (Ix.new _ _).alloc _⟩, h2, Ord.nil, fun g x _ hg => by cases hg⟩, ?_, ((Below.refl _ _).alloc (Nat.le_refl _) _).alloc (by simp) _, by simp; omega⟩
  rintro i (⟨x', e, hi⟩ | hi)
  · cases e
    rcases hi with rfl | hi
    · exact Nat.le_refl _
    · cases hi
  · rcases hi with rfl | hi
    · omega
    · cases hi
/-- Clones of both. -/
theorem Pz.clones {w w1 w2 : World} {x y x1 y1 : Nat} {v v' v1 v1' : Value} {l : List En} (h : Pp w (some ⟨x, 0, none⟩) y v v' l) (h1 : Io w1 w.heap.size x1 v1 l) (hb1 : Below w.heap.size w w1) (h2 : Ix 68 w2 y1 v1' l) (hy : w1.heap.size ≤ y1) (hg : ∀ g, v1'.ownBlock = some g → w1.heap.size ≤ g) (hb2 : Below w1.heap.size w1 w2) : Pz w w2 w.heap.size x1 y1 v1 v1' l := by
  refine ⟨⟨Or.inl ⟨_, rfl, h1.ix.below hb2⟩, h2, h.od, fun g x _ hg1 hg2 => ?_⟩, ?_, hb1.trans (hb2.mono hb1.size), Nat.le_trans hb1.size hb2.size⟩
  · have := h1.ix.lt g (Or.inr hg1)
    have := hg g hg2
    omega
  · have := hb1.size
    rintro i (⟨x', e, hi⟩ | hi)
    · cases e
      rcases hi with rfl | hi
      · exact h1.at0
      · exact h1.at1 i hi
    · rcases hi with rfl | hi
      · omega
      · have := hg i hi; omega
set_option maxRecDepth 20000 in
set_option maxHeartbeats 4000000 in
theorem plays_walk (os : List Op4) (a : Option Addr) (cap : Nat) (w : World) (hv : Ops w a os) (hn : os.length ≤ 4398046511104) :
    Calls Try.prog 3 #[.slice a os.length cap] w fun e w' => e = .returned (.bool true) ∧ Below w.heap.size w w' := by
  have HF := hid (fixed_any w)
  have HV := hid hv
  have HLk : Hid (∀ wx p y v v' l, Pp wx p y v v' l → l.length ≤ 8796093022000 → Calls Try.prog 12 #[.pointer p, .pointer (some ⟨y, 0, none⟩)] wx fun e w' => e = .returned (.bool true) ∧ Below wx.heap.size wx w') := fun wx p y v v' l h hl => looks_yes p y v v' l wx h.ip h.iy hl
  have HSt : Hid (∀ wx x y v v' l k ek ea n, Pp wx (some ⟨x, 0, none⟩) y v v' l → l.length ≤ 8796093022000 → Calls Try.prog 15 #[.pointer (some ⟨x, 0, none⟩), .pointer (some ⟨y, 0, none⟩), .agg #[.int .i64 k, .int .i64 ek, .int .i64 ea, .int .i64 n]] wx fun e w' => e = .returned (.bool true) ∧ StepP wx w' (some ⟨x, 0, none⟩) y v v' l.length) := fun wx x y v v' l k ek ea n h hl => step_any ⟨k, ⟨ek, ea⟩, n⟩ _ y v v' l wx h hl
  obtain ⟨M, hM⟩ : ∃ M, M = os.length := ⟨_, rfl⟩
  have HM := hid hM
  rw [← hM] at hn ⊢
  clear hv hM
  go_enter Try.func3, Try.ntmps3
  go_wp2_with (first | (go_at_call 9; refine HF.out.mono ?_; rintro e w1 ⟨rfl, hb1⟩; have HB1 := hid hb1; have HS1 := hid (Pz.start w1); clear hb1) | (go_at_call 10; refine (new_any _).mono ?_; rintro e w' ⟨rfl, rfl⟩) | (go_at_call 11; refine (rnew_any _).mono ?_; rintro e w' ⟨rfl, rfl⟩) | (go_at_call 12; refine (HLk.out _ _ _ _ _ _ HS1.out.pp (by simp)).mono ?_; rintro e w2 ⟨rfl, hb2⟩; have HS2 := hid (HS1.out.later hb2); clear hb2))
  have HX : Hid (w.heap.size ≤ w1.heap.size) := HB1.out.size
  have HBw : Hid (∀ wx, Below w1.heap.size w1 wx → Below w.heap.size w wx) := fun wx hx => HB1.out.trans (hx.mono HB1.out.size)
  generalize hX : w1.heap.size = X at *
  clear hX HB1 HF HS1
  go_loopg [5] M (fun k vi wr => ∃ (j : Nat) (v v' : Value) (l : List En), j + k = M ∧ vi = .int .i64 j ∧ l.length ≤ j ∧ Hid (Pz w1 wr X X (X + 1) v v' l))
  case atStart => exact ⟨0, _, _, [], by omega, rfl, Nat.le_refl _, HS2.out⟩
  case round =>
    clear HS2
    obtain ⟨j, v, v', l, hj, rfl, hl, HZ⟩ := hrel
    by_cases hlt : j < M
    · obtain ⟨k', rfl⟩ : ∃ k', gk = k' + 1 := ⟨gk - 1, by omega⟩
      have hltI : (j : Int) < M := by omega
      obtain ⟨b, off, rfl, hb, hrd⟩ := HV.out.read (j := j) (by rw [← HM.out]; exact hlt)
      have HRD := hid hrd
      obtain ⟨k, ⟨ek, ea⟩, n, ho⟩ : ∃ k e n, os.getD j op0 = ⟨k, e, n⟩ := ⟨_, _, _, rfl⟩
      obtain ⟨c0, c1, c2, c3⟩ := HRD.out wr (HBw.out wr HZ.out.bel) k ek ea n ho
      have HJ := hid hj
      have HZa : Hid (Pz w1 (wr.alloc (.cells #[.int .i64 k, .int .i64 ek, .int .i64 ea, .int .i64 n] 32)) X X (X + 1) v v' l) := HZ.out.later ((Below.refl _ _).alloc (Nat.le_refl _) _)
      clear hrd HRD ho hj
      by_cases h5 : k = 5
      · subst h5
        have HCl : Hid (∀ wx, Pp wx (some ⟨X, 0, none⟩) (X + 1) v v' l → Calls Try.prog 13 #[.pointer (some ⟨X, 0, none⟩)] wx fun e w' => (∃ x' v', e = .returned (.pointer (some ⟨x', 0, none⟩)) ∧ Io w' wx.heap.size x' v' l) ∧ Below wx.heap.size wx w') := fun wx hp => by
          rcases hp.ip with ⟨x', e, hx⟩ | ⟨e, _⟩
          · cases e; exact iclone_any X v l wx hx (by omega)
          · cases e
        have HCr : Hid (∀ wx, Pp wx (some ⟨X, 0, none⟩) (X + 1) v v' l → Calls Try.prog 14 #[.pointer (some ⟨X + 1, 0, none⟩)] wx fun e w' => (∃ x' v', e = .returned (.pointer (some ⟨x', 0, none⟩)) ∧ Ix 68 w' x' v' l ∧ wx.heap.size ≤ x' ∧ ∀ g, v'.ownBlock = some g → wx.heap.size ≤ g) ∧ Below wx.heap.size wx w') := fun wx hp => rclone_any (X + 1) v' l wx hp.iy (by omega)
        have HLl := hid hl
        clear hl
        go_wp2_with (first | (go_at_call 13; refine (HCl.out _ HZa.out.pp).mono ?_; rintro e w3 ⟨⟨xc, vc, rfl, hio⟩, hb3⟩; have HIO := hid hio; have HB3 := hid hb3; clear hio hb3) | (go_at_call 14; refine (HCr.out _ (HZa.out.later HB3.out).pp).mono ?_; rintro e w4 ⟨⟨yc, vyc, rfl, hiy, hyc, hgc⟩, hb4⟩; have HC4 := hid (Pz.clones HZa.out.pp HIO.out HB3.out hiy hyc hgc hb4); have HB4 := hid hb4; clear hiy hyc hgc hb4) | (go_at_call 12; refine (HLk.out _ _ _ _ _ _ HC4.out.pp (by have := HLl.out; omega)).mono ?_; rintro e w5 ⟨rfl, hb5⟩; have HC5 := hid (HC4.out.later hb5); clear hb5))
        generalize wr.alloc (.cells #[.int .i64 5, .int .i64 ek, .int .i64 ea, .int .i64 n] 32) = wa at *
        have HZx : Hid (∀ wx, Below wa.heap.size wa wx → Pz w1 wx X X (X + 1) v v' l) := fun wx hx => HZa.out.later hx
        clear HCl HCr HB3 HIO HC4 HB4 c0 c1 c2 c3 HZ HZa
        go_loopg [9] 4 (fun k vi wi => ∃ (t q : Nat) (vc vy : Value) (lc : List En), t + k = 4 ∧ q = j + 1 + t ∧ vi = .int .i64 q ∧ lc.length ≤ l.length + t ∧ Hid (Pz wa wi wa.heap.size xc yc vc vy lc))
        case atStart => exact ⟨0, j + 1, _, _, l, by omega, rfl, by go_num, Nat.le_refl _, HC5.out⟩
        case round =>
          clear HC5
          obtain ⟨t, q, vc2, vy2, lc, ht, hq, rfl, hlc, HC⟩ := hrel
          by_cases hr : q < M ∧ t < 4
          · obtain ⟨hr1, hr2⟩ := hr
            obtain ⟨g', rfl⟩ : ∃ g', gk = g' + 1 := ⟨gk - 1, by omega⟩
            have hr1I : (q : Int) < M := by omega
            have hr2I : (q : Int) < (j : Int) + 5 := by omega
            have hd1 : decide (q < M) = true := by simp [hr1]
            have hd2 : decide ((q : Int) < M) = true := by simp [hr1]
            obtain ⟨b2, off2, e2, hb2', hrd⟩ := HV.out.read (j := q) (by rw [← HM.out]; exact hr1)
            cases e2
            have HRD := hid hrd
            obtain ⟨k2, ⟨ek2, ea2⟩, n2, ho⟩ : ∃ k e n, os.getD q op0 = ⟨k, e, n⟩ := ⟨_, _, _, rfl⟩
            obtain ⟨c0, c1, c2, c3⟩ := HRD.out wr (HBw.out wr (HZx.out wr HC.out.bel).bel) k2 ek2 ea2 n2 ho
            have HS1 := hid (HSt.out _ _ _ _ _ _ k2 ek2 ea2 n2 HC.out.pp (by have := HLl.out; omega))
            have HT := hid (And.intro ht (And.intro hq hlc))
            clear hrd HRD ho ht hq hlc
            go_wp2_with (first | (go_at_call 15; refine HS1.out.mono ?_; rintro e w6 ⟨rfl, hst⟩; obtain ⟨v1, v1', l1, hl1, hz1⟩ := HC.out.step hst; have HZ1 := hid hz1; have HL1 : Hid (l1.length ≤ l.length + (t + 1)) := (by have := HT.out.2.2; show _ ≤ _; omega); clear hst hz1 hl1) | (go_at_call 12; with_reducible refine (HLk.out _ _ _ _ _ _ HZ1.out.pp (by have := HL1.out; have := HLl.out; omega)).mono ?_; rintro e w7 ⟨rfl, hb7⟩; have HZ2 := hid (HZ1.out.later hb7); have HP2 := hid (HZx.out _ HZ2.out.bel).pp; clear hb7) | (go_at_call 12; with_reducible refine (HLk.out _ _ _ _ _ _ HP2.out (by have := HLl.out; omega)).mono ?_; rintro e w8 ⟨rfl, hb8⟩; have HZ3 := hid (HZ2.out.later hb8); clear hb8))
            go_roundg g'
            case measure => omega
            case rel => exact ⟨t + 1, q + 1, v1, v1', l1, by have := HT.out.1; omega, by have := HT.out.2.1; omega, congrArg (Value.int .i64) (by omega), HL1.out, HZ3.out⟩
          · have HE2 := hid (HZx.out _ HC.out.bel)
            by_cases hr1 : q < M
            · have hr2 : ¬ (q : Int) < (j : Int) + 5 := by omega
              have hd1 : decide (q < M) = true := by simp [hr1]
              have hd2 : decide ((q : Int) < M) = true := by simp [hr1]
              have hd3 : decide ((q : Int) < (j : Int) + 5) = false := by simp; omega
              go_wp2_with fail
              go_roundg k'
              case measure => omega
              case rel => exact ⟨j + 1, v, v', l, by have := HJ.out; omega, congrArg (Value.int .i64) (by omega), by have := HLl.out; omega, HE2.out⟩
            · have hr1I : ¬ (q : Int) < M := by omega
              have hd1 : decide (q < M) = false := by simp; omega
              have hd2 : decide ((q : Int) < M) = false := by simp; omega
              go_wp2_with fail
              go_roundg k'
              case measure => omega
              case rel => exact ⟨j + 1, v, v', l, by have := HJ.out; omega, congrArg (Value.int .i64) (by omega), by have := HLl.out; omega, HE2.out⟩
      · have b5 : (k == 5) = false := by simp [h5]
        have HS1 := hid (HSt.out _ _ _ _ _ _ k ek ea n HZa.out.pp (by omega))
        have HLl := hid hl
        clear hl
        go_wp2_with (first | (go_at_call 15; refine HS1.out.mono ?_; rintro e w3 ⟨rfl, hst⟩; obtain ⟨v1, v1', l1, hl1, hz1⟩ := HZa.out.step hst; have HZ1 := hid hz1; have HL1 : Hid (l1.length ≤ j + 1) := (by have := HLl.out; show _ ≤ _; omega); clear hst hz1 hl1) | (go_at_call 12; refine (HLk.out _ _ _ _ _ _ HZ1.out.pp (by have := HL1.out; omega)).mono ?_; rintro e w4 ⟨rfl, hb4⟩; have HZ2 := hid (HZ1.out.later hb4); clear hb4))
        go_roundg k'
        case measure => omega
        case rel => exact ⟨j + 1, v1, v1', l1, by have := HJ.out; omega, congrArg (Value.int .i64) (by omega), HL1.out, HZ2.out⟩
    · have hltI : ¬ (j : Int) < M := by omega
      have HBE := hid (HBw.out _ HZ.out.bel)
      go_wp2_with fail
      go_ret
      exact ⟨rfl, HBE.out⟩
end Go.Proofs.Ytldfbddccmnchaa
