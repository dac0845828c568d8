/- TimeidxFinds: its walk. -/
import Derived.Test.YtmhmohkeekmmgaaTpt
import Derived.Test.YtmhmohkeekmmgaaTEo
namespace Go.Proofs.Ytmhmohkeekmmgaa
open Go.RowKit
set_option maxRecDepth 20000 in
set_option maxHeartbeats 4000000 in
theorem finds_walk (l0 : List En) (a : Option Addr) (cap : Nat) (t : Int) (w : World) (hv : Ens w a l0) (hn : l0.length ≤ 8796093021952) :
    Calls Try.prog 5 #[.slice a l0.length cap, .int .i64 t] w fun e w' => e = .returned (.bool true) ∧ Below w.heap.size w w' := by
  have HF := hid (finds_any w)
  have HV := hid hv
  obtain ⟨N, hN⟩ : ∃ N, N = l0.length := ⟨_, rfl⟩
  have HN := hid hN
  rw [← hN] at hn ⊢
  clear hv hN
  go_enter Try.func5, Try.ntmps5
  go_wp2_with (first | (go_at_call 9; refine HF.out.mono ?_; rintro e w1 ⟨rfl, hb1⟩; have HB1 := hid hb1; have HS := hid (Pt.start w1); clear hb1) | (go_at_call 10; refine (new_any _).mono ?_; rintro e w' ⟨rfl, rfl⟩) | (go_at_call 11; refine (rnew_any _).mono ?_; rintro e w' ⟨rfl, rfl⟩))
  have HBw : Hid (∀ wx, Below w1.heap.size w1 wx → Below w.heap.size w wx) := fun wx hx => HB1.out.trans (hx.mono HB1.out.size)
  generalize hX : w1.heap.size = X at *
  clear hX HF HB1
  go_loopg [17] N (fun k vi wr => ∃ (j : Nat) (v v' : Value), j + k = N ∧ vi = .int .i64 j ∧ Hid (Pt w1 wr X X (X + 1) v v' (bld (l0.take j)) (bld (l0.take j))))
  case atStart => exact ⟨0, _, _, by omega, rfl, HS.out⟩
  case round =>
    clear HS
    obtain ⟨j, v, v', hj, rfl, HP⟩ := hrel
    by_cases hlt : j < N
    · obtain ⟨k', rfl⟩ : ∃ k', gk = k' + 1 := ⟨gk - 1, by omega⟩
      have hltI : (j : Int) < N := by omega
      have hjl : j < l0.length := by rw [← HN.out]; exact hlt
      rcases HV.out with e | ⟨b, off, rfl, hb, hc⟩
      · rw [e] at hjl; cases hjl
      obtain ⟨p0, p1⟩ := hc j hjl
      have HST := hid (bld_step hjl)
      have hbl := bld_len (l0.take j)
      rw [List.length_take] at hbl
      have q0 := ((HBw.out _ HP.out.bel).cell (p := ⟨b, off + j * 2, none⟩) hb).trans p0
      have q1 := ((HBw.out _ HP.out.bel).cell (p := ⟨b, off + j * 2 + 1, none⟩) hb).trans p1
      generalize l0.getD j en0 = s at *
      obtain ⟨sk, sa⟩ := s
      simp only at q0 q1
      generalize bld (l0.take j) = L at *
      have HA1 : Hid (∀ wx, Pt w1 wx X X (X + 1) v v' L L → Calls Try.prog 12 #[.pointer (some ⟨X, 0, none⟩), .agg #[.int .i64 sk, .int .i64 sa]] wx fun r w' => r = .returned (.int .i64 (addC L ⟨sk, sa⟩)) ∧ ∃ v1, Pt w1 w' X X (X + 1) v1 v' (addE L ⟨sk, sa⟩) L ∧ Ch (IS X v) wx w') := fun wx h => pt_app w1 wx X X (X + 1) v v' L L ⟨sk, sa⟩ h (by omega)
      have HA2 : Hid (∀ wx v1, Pt w1 wx X X (X + 1) v1 v' (addE L ⟨sk, sa⟩) L → Calls Try.prog 13 #[.pointer (some ⟨X + 1, 0, none⟩), .agg #[.int .i64 sk, .int .i64 sa]] wx fun r w' => r = .returned (.int .i64 (addC L ⟨sk, sa⟩)) ∧ ∃ v1', Pt w1 w' X X (X + 1) v1 v1' (addE L ⟨sk, sa⟩) (addE L ⟨sk, sa⟩) ∧ Ch (IS (X + 1) v') wx w') := fun wx v1 h => pt_rapp w1 wx X X (X + 1) v1 v' _ L ⟨sk, sa⟩ h (by omega)
      have HE1 : Hid ((wr.alloc (.cells #[.int .i64 sk, .int .i64 sa] 29)).heap[wr.heap.size]? = some (.cells #[.int .i64 sk, .int .i64 sa] 29 (0, 0))) := heap_new _ _
      have HP1 := hid (HP.out.later ((Below.refl wr.heap.size wr).alloc (Nat.le_refl _) (.cells #[.int .i64 sk, .int .i64 sa] 29)))
      have HNx : Hid (¬ IS X v wr.heap.size) := fun hs => absurd (HP.out.ix.lt _ hs) (by omega)
      have HNy : Hid (¬ IS (X + 1) v' wr.heap.size) := fun hs => absurd (HP.out.iy.lt _ hs) (by omega)
      have HEX : Hid (addE L ⟨sk, sa⟩ = bld (l0.take (j + 1))) := HST.out.symm
      generalize addC L ⟨sk, sa⟩ = c at *
      generalize addE L ⟨sk, sa⟩ = L1 at *
      have HJ := hid hj
      clear hc p0 p1 hb hbl hjl hj
      go_wp2_with fail
      obtain ⟨e0, e1, _⟩ := ecell3 HE1.out
      generalize wr.alloc (.cells #[.int .i64 sk, .int .i64 sa] 29) = wa at *
      generalize wr.heap.size = bx at *
      clear q0 q1
      go_region_held3 (fun z => z.cell? ⟨bx, 0, none⟩ = some (.int .i64 sk) ∧ z.cell? ⟨bx, 1, none⟩ = some (.int .i64 sa)) ((first | exact ⟨by assumption, by assumption⟩ | go_keep)) ((first | (go_at_call 12; refine (HA1.out _ (by first | exact HP1.out | exact HP1.out.later ⟨rfl, rfl, rfl, Nat.le_refl _, fun _ _ => rfl⟩)).mono ?_; rintro r w2 ⟨rfl, v2, hp2, hc2⟩; have he2 := (hc2.block _ (by show _ < wa.heap.size; exact lt_of_heap HE1.out) HNx.out).trans HE1.out; obtain ⟨y0, y1, _⟩ := ecell3 he2) | (go_at_call 13; refine (HA2.out _ v2 (by first | exact hp2 | exact hp2.later ⟨rfl, rfl, rfl, Nat.le_refl _, fun _ _ => rfl⟩)).mono ?_; rintro r w3 ⟨rfl, v3, hp3, hc3⟩; have he3 := (hc3.block _ (by show _ < w2.heap.size; exact lt_of_heap he2) HNy.out).trans he2; obtain ⟨x0, x1, _⟩ := ecell3 he3)))
      have HP3 := hid hp3
      simp only [Exit.then]
      clear hp2 hc2 he2 y0 y1 hp3 hc3 he3 x0 x1
      go_wp2_with fail
      go_roundg k'
      case measure => omega
      case rel => exact ⟨j + 1, v2, v3, by have := HJ.out; omega, congrArg (Value.int .i64) (by omega), by rw [← HEX.out]; exact HP3.out⟩
    · have hltI : ¬ (j : Int) < N := by omega
      have e : l0.take j = l0 := List.take_of_length_le (by rw [← HN.out]; omega)
      rw [e] at HP
      clear e
      have hL : (bld l0).length ≤ 8796093021952 := by have := bld_len l0; have := HN.out; omega
      have HO := hid (bld_ord l0)
      generalize bld l0 = L at *
      have HFd : Hid (∀ wx tt, Pt w1 wx X X (X + 1) v v' L L → Calls Try.prog 16 #[.pointer (some ⟨X, 0, none⟩), .pointer (some ⟨X + 1, 0, none⟩), .int .i64 tt] wx fun r w' => r = .returned (.bool true) ∧ Pt w1 w' X X (X + 1) v v' L L ∧ Below wx.heap.size wx w') := fun wx tt h => pt_found w1 wx X X (X + 1) tt v v' L h HO.out (by omega)
      obtain ⟨M, a9, c9, hM, rfl, hens⟩ := HP.out.iy.row.ensN
      have HM := hid hM
      rw [← hM] at hL
      clear hens hM HV HN
      go_wp2_with (go_at_call 16; refine (HFd.out _ _ HP.out).mono ?_; rintro r w2 ⟨rfl, hp2, hb2⟩; have HP2 := hid hp2; have g0 := hp2.iy.c0; clear hp2 hb2)
      go_loopg [39] M (fun k vi wx => ∃ i : Nat, i + k = M ∧ vi = .int .i64 i ∧ Hid (Pt w1 wx X X (X + 1) v (.slice a9 M c9) L L))
      case atStart => exact ⟨0, by omega, rfl, HP2.out⟩
      case round =>
        clear HP2
        obtain ⟨i, hi, rfl, HQ⟩ := hrel
        by_cases hlt2 : i < M
        · obtain ⟨k2, rfl⟩ : ∃ k2, gk = k2 + 1 := ⟨gk - 1, by omega⟩
          have hlt2I : (i : Int) < M := by omega
          obtain ⟨n8', a8, c8, hn8, hv8, hens⟩ := HQ.out.iy.row.ensN
          cases hv8
          rcases hens with e | ⟨b, off, rfl, hb, hc⟩
          · rw [HM.out, e] at hlt2; cases hlt2
          obtain ⟨p0, p1⟩ := hc i (by rw [← HM.out]; exact hlt2)
          generalize L.getD i en0 = s at *
          obtain ⟨sk, sa⟩ := s
          simp only at p0 p1
          have HE1 : Hid ((wr.alloc (.cells #[.int .i64 sk, .int .i64 sa] 29)).heap[wr.heap.size]? = some (.cells #[.int .i64 sk, .int .i64 sa] 29 (0, 0))) := heap_new _ _
          have HQ1 := hid (HQ.out.later ((Below.refl wr.heap.size wr).alloc (Nat.le_refl _) (.cells #[.int .i64 sk, .int .i64 sa] 29)))
          have HI := hid hi
          clear hc hb hi hn8
          go_wp2_with (first | (go_at_call 16; (with_reducible refine (HFd.out _ _ HQ1.out).mono ?_); rintro r w3 ⟨rfl, hp3, hb3⟩; have HP3 := hid hp3; have HE3 := hid ((hb3.block _ (lt_of_heap HE1.out)).trans HE1.out); obtain ⟨y0, y1, _⟩ := ecell3 HE3.out; clear hp3 hb3) | (go_at_call 16; (with_reducible refine (HFd.out _ _ HP3.out).mono ?_); rintro r w4 ⟨rfl, hp4, hb4⟩; have HP4 := hid hp4; have HE4 := hid ((hb4.block _ (lt_of_heap HE3.out)).trans HE3.out); obtain ⟨x0, x1, _⟩ := ecell3 HE4.out; clear hp4 hb4) | (go_at_call 16; (with_reducible refine (HFd.out _ _ HP4.out).mono ?_); rintro r w5 ⟨rfl, hp5, hb5⟩; have HP5 := hid hp5; clear hp5 hb5))
          go_roundg k2
          case measure => omega
          case rel => exact ⟨i + 1, by have := HI.out; omega, congrArg (Value.int .i64) (by omega), HP5.out⟩
        · have hlt2I : ¬ (i : Int) < M := by omega
          have HBE := hid (HBw.out _ HQ.out.bel)
          go_wp2_with fail
          go_ret
          exact ⟨rfl, HBE.out⟩
end Go.Proofs.Ytmhmohkeekmmgaa
