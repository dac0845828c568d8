/- Producers: the program's; two rows of numbers that are the same. -/
import Derived.Test.YtolobmhbmajolaaPi1
import Derived.Test.YtolobmhbmajolaaPh6
namespace Go.Proofs.Ytolobmhbmajolaa
open Go.RowKit Go.Sort Go.Maps
theorem keys_dm (fs : List Tl) : intKeys (dm fs) = fs.map (fun f => f.id) := by
  unfold dm intKeys
  simp [ent]
  intro a _
  rfl
theorem sorted_ids {ps ss : List Int} (hp : ss.Perm ps) (hu : ps.Pairwise (fun a b => a < b)) : ss.mergeSort (fun x y => decide (x ≤ y)) = ps := by
  have h1 : (ss.mergeSort (fun x y => decide (x ≤ y))).Pairwise (fun a b => a ≤ b) := by
    have := List.pairwise_mergeSort (le := fun x y : Int => decide (x ≤ y)) (fun a b c h1 h2 => by simp at *; omega) (fun a b => by simp; omega) ss
    exact this.imp fun {a b} h => by simpa using h
  have h2 : (ss.mergeSort (fun x y => decide (x ≤ y))).Perm ps := (List.mergeSort_perm ss _).trans hp
  have hn : (ss.mergeSort (fun x y => decide (x ≤ y))).Pairwise (fun a b => a ≠ b) := h2.symm.pairwise (hu.imp fun {a b} h => by omega) (fun {a b} h => fun e => h e.symm)
  refine rise_eq ((h1.and hn).imp fun {a b} h => by have := h.1; have := h.2; omega) hu (fun q => h2.mem_iff)
theorem row_le {w : World} {B C size n : Nat} {e : TypeId} {v : Value} {l : List Value} (h : w.ownsRow B e size v n l) (hc : C ≤ B) : w.ownsRow C e size v n l := by
  refine ⟨h.1, ?_⟩
  rcases h.2 with h2 | ⟨g, cap, cur, rfl, h3, h4, h5⟩
  · exact Or.inl h2
  · exact Or.inr ⟨g, cap, cur, rfl, Nat.le_trans hc h3, h4, h5⟩
theorem enc_ivs (ps : List Int) : ps.map encZ = ivs ps := rfl
theorem bprods_any (b : Nat) (m : Option Nat) (fs : List Tl) (hl : fs.length ≤ 2199023255552) (w : World) (h : Bk w b m fs) :
    Calls Try.prog 24 #[.pointer (some ⟨b, 0, none⟩)] w fun e w' => ∃ v, e = .returned v ∧ Oi w v (fs.map (fun f => f.id)) w' := by
  have c2 : w.cell? ⟨b, 0, none⟩ = some (.map m) := (cell_of h.blk).trans rfl
  have HK := Hid.mk ((callsIn_wide (n := 5)).1 (Ytolobmhbmajolaa.maps_KeysL m w))
  have HS : Hid (Calls Try.prog 44 #[.func (.func 52) #[] #[.pointer (some ⟨w.heap.size, 0, none⟩)]] (w.alloc (.cells #[.map m] 58)) fun e w' => ∃ v, e = .returned v ∧ Oi w v (fs.map (fun f => f.id)) w') := by
    have hA : (w.alloc (.cells #[.map m] 58)).heap.size = w.heap.size + 1 := by simp
    have hB : Below w.heap.size w (w.alloc (.cells #[.map m] 58)) := (Below.refl _ w).alloc (Nat.le_refl _) _
    cases m with
    | none =>
      have e : fs = [] := h.map
      subst e
      refine ((callsIn_wide (n := 5)).1 (Ytolobmhbmajolaa.slices_SortedNilL w)).mono ?_
      rintro e w' ⟨v, ss, he, rfl, ho, hnil, hb⟩
      refine ⟨v, he, hB.trans (hb.mono (by omega)), ?_⟩
      rw [hA] at ho
      have := row_le ho (C := w.heap.size) (by omega)
      simp at this
      exact this
    | some mb =>
      have ho : w.ownsMap Try.prog 2 RP mb fs.length (dm fs) := h.map
      have hs : Maps.size (dm fs) = fs.length := by unfold dm; rw [Maps.size_eq, List.length_map]
      refine ((callsIn_wide (n := 5)).1 (Ytolobmhbmajolaa.slices_SortedL mb fs.length (dm fs) RP w ho (by rw [hs]; unfold maxLen; omega) (by rw [hs]; omega))).mono ?_
      rintro e w' ⟨v, ss, he, hp, ho', hnil, hb⟩
      rw [keys_dm] at hp
      have hlen : ss.length = (fs.map (fun f => f.id)).length := hp.length_eq
      rw [sorted_ids hp (List.pairwise_map.2 h.ids), enc_ivs, hlen, hA] at ho'
      exact ⟨v, he, hB.trans (hb.mono (by omega)), row_le ho' (by omega)⟩
  clear h
  go_enter Try.func24, Try.ntmps24
  go_wp2_with (first | (go_at_call 45; refine HK.out.mono ?_; rintro e w' ⟨rfl, rfl⟩) | (go_at_call 44; refine HS.out.mono ?_; rintro e w1 ⟨v, rfl, hl1⟩; have HL := Hid.mk hl1; clear hl1))
  go_ret
  exact ⟨v, rfl, HL.out⟩
set_option maxHeartbeats 2000000 in
set_option maxRecDepth 20000 in
theorem sameNumbers_yes (a1 a2 : Option Addr) (cap1 cap2 : Nat) (l : List Int) (w : World) (hl : l.length ≤ 9223372036854775807) (V1 : Nms w a1 l) (V2 : Nms w a2 l) :
    Calls Try.prog 30 #[.slice a1 l.length cap1, .slice a2 l.length cap2] w fun e w' => e = .returned (.bool true) ∧ Below w.heap.size w w' := by
  have HV1 := Hid.mk V1
  have HV2 := Hid.mk V2
  clear V1 V2
  go_enter Try.func30, Try.ntmps30
  go_wp2_with fail
  go_loopg [5] l.length (fun k i wr => ∃ j : Nat, j + k = l.length ∧ i = .int .i64 j ∧ Below w.heap.size w wr)
  case atStart => exact ⟨0, by omega, rfl, Below.refl _ _⟩
  case round =>
    obtain ⟨j, hk, rfl, hq⟩ := hrel
    by_cases hlt : j < l.length
    · obtain ⟨k, rfl⟩ : ∃ k, gk = k + 1 := ⟨gk - 1, by omega⟩
      rcases HV1.out.below hq with rfl | ⟨b, off, rfl, hbl, hc⟩
      · simp at hlt
      rcases HV2.out.below hq with rfl | ⟨b2, off2, rfl, hbl2, hc2⟩
      · simp at hlt
      have q0 := hc j hlt
      have p0 := hc2 j hlt
      generalize l.getD j 0 = r at *
      have b1 : (0 : Int) ≤ (j : Int) := by omega
      have b2' : (j : Int) < l.length := by omega
      clear hc hc2
      go_wp2_with fail
      go_quiet (fail)
      go_wp2_with fail
      go_roundg k
      case measure => omega
      case rel => exact ⟨j + 1, by omega, by go_num, hq.trans ((bel_drewN _ _).mono hq.size)⟩
    · go_wp2_with fail
      go_ret
      exact ⟨rfl, hq⟩
end Go.Proofs.Ytolobmhbmajolaa
